/-
  NARROWER THAN 'FOR EVERY INPUT', by the rows' own cells (each row's printed sentence says how): SigTells: laid · SigLetters: laid · SigContents: laid.
  DERIVED. THE GIVEN ROWS OF THIS SEAT. 3 by the template 'for every input the law returns true; each argument reads behind the call as it read before'; 0 by the template 'total and deterministic' (their statements: YtapjpkcollkikaaDoorTotals.lean).
  GIVEN WITH THE SEED: the statements are not yours to turn. If you find one false, say at which input.
  Laid BY PROGRAM, IN A SANDBOX (cutbox-rows.mjs): the forced cells as the released guide's own fill.sh prints them over the translation a2c0848464b807a6… (all of the seat's roots in one cut). By AI agents, Wed Nov 11 2026. No macro, syntax, notation, axiom, sorry.
-/
import Derived.Test.YtapjpkcollkikaaDoorChecked
import GoSem.Claim
import GoSem.ClaimJoined
import GoSem.ClaimMapViews
import Derived.JoinedTies
import Derived.KernelRfl
namespace Go.Proofs.YtapjpkcollkikaaDoor
/- THE CELL 'sum', in the pinned program and in every row, IS THE sha256 OF THE DUMP (.gsa) THAT YtapjpkcollkikaaDoorProg.lean LOADS. Nothing in Lean hashes anything: it is a label: what it is worth is what the hold of that sum in a sandbox is worth. -/
noncomputable def Tryd.pinned : Pinned := { name := "ytapjpkcollkikaadoor", sum := "a2c0848464b807a686e7705514614a8d9d6c20c5f906e28595c3001764e8b2f0", checked := Tryd.checked }
namespace Rows
def none {H : Type} : Left H := { results := [], args := [] }

/- WHAT THE LISTED PACKAGE-LEVEL VARIABLES READ AS WHEN THE CALL BEGINS. Each datum BY PROGRAM (the guide's laid-datum.mjs) off the statement by which the dump's own 'gosem.cut.vars' lays the variable. In a bare row this is a premise. The card (YtapjpkcollkikaaDoorCards.lean) ties it to the program's text. -/
def laid_interchange_sig_contents {H : Type} : DataW H := .agg [.agg [.lit (.int .i64 60), .lit (.int .i64 40)], .agg [.lit (.int .i64 60), .lit (.int .i64 50)], .agg [.lit (.int .i64 60), .lit (.int .i64 60)], .agg [.lit (.int .i64 60), .lit (.int .i64 71)]]

/-- 'interchangelaw05.SigTells': WHATEVER THE INPUT: true; the input reads as it did. -/
def sigTellsSpec : ChangeSpec := { name := "sigTells", fn := fun _ => fun
  | [d1, d2] => { results := [.lit (.bool true)], args := [d1, d2] }
  | _ => none }
def sigTellsRow : OpenClaim := { program := "ytapjpkcollkikaadoor", sum := "a2c0848464b807a686e7705514614a8d9d6c20c5f906e28595c3001764e8b2f0", func := "interchange/interchangelaw05.SigTells", spec := "sigTells", unfollowed := true, recurses := true, named := ["interchange/sig.contents"], apart := false, laid := [("interchange/sig.contents", laid_interchange_sig_contents)] }
def SigTellsSaid : Prop := sigTellsRow.holds Tryd.pinned (OpenSpec.ofChange sigTellsSpec)

/-- ITS FALSE NEIGHBOUR: 'it returns false'. Refute it at one input. -/
def sigTellsWrong : ChangeSpec := { name := "sigTells", fn := fun _ => fun
  | [d1, d2] => { results := [.lit (.bool false)], args := [d1, d2] }
  | _ => none }
def SigTellsWrongFalsely : Prop := sigTellsRow.holds Tryd.pinned (OpenSpec.ofChange sigTellsWrong)

/-- 'interchangelaw05.SigLetters': WHATEVER THE INPUT: true; the input reads as it did. -/
def sigLettersSpec : ChangeSpec := { name := "sigLetters", fn := fun _ => fun
  | [d1, d2] => { results := [.lit (.bool true)], args := [d1, d2] }
  | _ => none }
def sigLettersRow : OpenClaim := { program := "ytapjpkcollkikaadoor", sum := "a2c0848464b807a686e7705514614a8d9d6c20c5f906e28595c3001764e8b2f0", func := "interchange/interchangelaw05.SigLetters", spec := "sigLetters", unfollowed := true, recurses := true, named := ["interchange/sig.contents"], apart := false, laid := [("interchange/sig.contents", laid_interchange_sig_contents)] }
def SigLettersSaid : Prop := sigLettersRow.holds Tryd.pinned (OpenSpec.ofChange sigLettersSpec)

/-- ITS FALSE NEIGHBOUR: 'it returns false'. Refute it at one input. -/
def sigLettersWrong : ChangeSpec := { name := "sigLetters", fn := fun _ => fun
  | [d1, d2] => { results := [.lit (.bool false)], args := [d1, d2] }
  | _ => none }
def SigLettersWrongFalsely : Prop := sigLettersRow.holds Tryd.pinned (OpenSpec.ofChange sigLettersWrong)

/-- 'interchangelaw05.SigContents': WHATEVER THE INPUT: true; the input reads as it did. -/
def sigContentsSpec : ChangeSpec := { name := "sigContents", fn := fun _ => fun
  | [d1, d2] => { results := [.lit (.bool true)], args := [d1, d2] }
  | _ => none }
def sigContentsRow : OpenClaim := { program := "ytapjpkcollkikaadoor", sum := "a2c0848464b807a686e7705514614a8d9d6c20c5f906e28595c3001764e8b2f0", func := "interchange/interchangelaw05.SigContents", spec := "sigContents", unfollowed := true, recurses := true, named := ["interchange/sig.contents"], apart := false, laid := [("interchange/sig.contents", laid_interchange_sig_contents)] }
def SigContentsSaid : Prop := sigContentsRow.holds Tryd.pinned (OpenSpec.ofChange sigContentsSpec)

/-- ITS FALSE NEIGHBOUR: 'it returns false'. Refute it at one input. -/
def sigContentsWrong : ChangeSpec := { name := "sigContents", fn := fun _ => fun
  | [d1, d2] => { results := [.lit (.bool false)], args := [d1, d2] }
  | _ => none }
def SigContentsWrongFalsely : Prop := sigContentsRow.holds Tryd.pinned (OpenSpec.ofChange sigContentsWrong)

/- THE SECOND FORM. 'bulk': how many values and letters a reading holds, each counted each time it is reached (what is shared counts as often as it is met; a slice's spare places count too). A statement '..UptoSaid' is the law's where the arguments, and the package variables that the reading takes, are together of bulk at most 1048576: NARROWER than '..Said'. Prove '..Said' where nothing that the law and all that it calls make is longer than what came in: it says more and counts as full. Else prove '..UptoSaid'. A law counts once. -/
mutual
def uptoBulk {H : Type} : DataW H → Nat
  | .lit (.string bytes) => bytes.length + 1
  | .lit _ => 1
  | .nil => 1
  | .ptr d => uptoBulk d + 1
  | .slice elems spare => uptoBulkAll elems + uptoBulkAll spare + 1
  | .agg parts => uptoBulkAll parts + 1
  | .iface _ d => uptoBulk d + 1
  | .map entries => uptoBulkEntries entries + 1
  | .held _ => 1
def uptoBulkAll {H : Type} : List (DataW H) → Nat
  | [] => 0
  | d :: r => uptoBulk d + uptoBulkAll r
def uptoBulkEntries {H : Type} : List (Lit × DataW H) → Nat
  | [] => 0
  | x :: r => uptoBulkEntry x + uptoBulkEntries r
def uptoBulkEntry {H : Type} : Lit × DataW H → Nat
  | (.string bytes, d) => bytes.length + uptoBulk d + 1
  | (_, d) => uptoBulk d + 1
 end
def uptoSmall : (H : Type) → List (DataW H) → Bool := fun _ ds => decide (uptoBulkAll ds ≤ 1048576)
def OpenSpec.upto (s : _root_.Go.ChangeSpec) : _root_.Go.OpenSpec := { _root_.Go.OpenSpec.ofChange s with cond := some uptoSmall }

/-- 'interchangelaw05.SigTells', WHERE WHAT IT READS IS OF BULK AT MOST 1048576: true; the input reads as it did. -/
def sigTellsUptoRow : OpenClaim := { program := "ytapjpkcollkikaadoor", sum := "a2c0848464b807a686e7705514614a8d9d6c20c5f906e28595c3001764e8b2f0", func := "interchange/interchangelaw05.SigTells", spec := "sigTells", unfollowed := true, recurses := true, named := ["interchange/sig.contents"], apart := false, laid := [("interchange/sig.contents", laid_interchange_sig_contents)], narrowed := true }
def SigTellsUptoSaid : Prop := sigTellsUptoRow.holds Tryd.pinned (OpenSpec.upto sigTellsSpec)

/-- 'interchangelaw05.SigLetters', WHERE WHAT IT READS IS OF BULK AT MOST 1048576: true; the input reads as it did. -/
def sigLettersUptoRow : OpenClaim := { program := "ytapjpkcollkikaadoor", sum := "a2c0848464b807a686e7705514614a8d9d6c20c5f906e28595c3001764e8b2f0", func := "interchange/interchangelaw05.SigLetters", spec := "sigLetters", unfollowed := true, recurses := true, named := ["interchange/sig.contents"], apart := false, laid := [("interchange/sig.contents", laid_interchange_sig_contents)], narrowed := true }
def SigLettersUptoSaid : Prop := sigLettersUptoRow.holds Tryd.pinned (OpenSpec.upto sigLettersSpec)

/-- 'interchangelaw05.SigContents', WHERE WHAT IT READS IS OF BULK AT MOST 1048576: true; the input reads as it did. -/
def sigContentsUptoRow : OpenClaim := { program := "ytapjpkcollkikaadoor", sum := "a2c0848464b807a686e7705514614a8d9d6c20c5f906e28595c3001764e8b2f0", func := "interchange/interchangelaw05.SigContents", spec := "sigContents", unfollowed := true, recurses := true, named := ["interchange/sig.contents"], apart := false, laid := [("interchange/sig.contents", laid_interchange_sig_contents)], narrowed := true }
def SigContentsUptoSaid : Prop := sigContentsUptoRow.holds Tryd.pinned (OpenSpec.upto sigContentsSpec)

end Rows
end Go.Proofs.YtapjpkcollkikaaDoor
