/-
  NARROWER THAN 'FOR EVERY INPUT', by the rows' own cells (each row's printed sentence says how): ServeAgrees: laid · ServeWrong: laid · ServeNames: laid.
  DERIVED. THE GIVEN ROWS OF THIS SEAT. 3 by the template 'for every input the law returns true; each argument reads behind the call as it read before'; 0 by the template 'total and deterministic' (their statements: YtebkolhibifbpaaDoorTotals.lean).
  GIVEN WITH THE SEED: the statements are not yours to turn. If you find one false, say at which input.
  Laid BY PROGRAM, IN A SANDBOX (cutbox-rows.mjs): the forced cells as the released guide's own fill.sh prints them over the translation 2ceff3cac2e1f292… (all of the seat's roots in one cut). By AI agents, Wed Nov 11 2026. No macro, syntax, notation, axiom, sorry.
-/
import Derived.Test.YtebkolhibifbpaaDoorChecked
import GoSem.Claim
import GoSem.ClaimJoined
import GoSem.ClaimMapViews
import Derived.JoinedTies
import Derived.KernelRfl
namespace Go.Proofs.YtebkolhibifbpaaDoor
/- THE CELL 'sum', in the pinned program and in every row, IS THE sha256 OF THE DUMP (.gsa) THAT YtebkolhibifbpaaDoorProg.lean LOADS. Nothing in Lean hashes anything: it is a label: what it is worth is what the hold of that sum in a sandbox is worth. -/
noncomputable def Tryd.pinned : Pinned := { name := "ytebkolhibifbpaadoor", sum := "2ceff3cac2e1f292a77cab40ba5190ae04d6dccfd4d25edae911727b09783fb7", checked := Tryd.checked }
namespace Rows
def none {H : Type} : Left H := { results := [], args := [] }

/- WHAT THE LISTED PACKAGE-LEVEL VARIABLES READ AS WHEN THE CALL BEGINS. Each datum BY PROGRAM (the guide's laid-datum.mjs) off the statement by which the dump's own 'gosem.cut.vars' lays the variable. In a bare row this is a premise. The card (YtebkolhibifbpaaDoorCards.lean) ties it to the program's text. -/
def laid_interchange_num_widths {H : Type} : DataW H := .agg [.lit (.int .i64 1), .lit (.int .i64 2), .lit (.int .i64 4), .lit (.int .i64 8)]

/-- 'interchangelaw10.ServeAgrees': WHATEVER THE INPUT: true; the input reads as it did. -/
def serveAgreesSpec : ChangeSpec := { name := "serveAgrees", fn := fun _ => fun
  | [d] => { results := [.lit (.bool true)], args := [d] }
  | _ => none }
def serveAgreesRow : OpenClaim := { program := "ytebkolhibifbpaadoor", sum := "2ceff3cac2e1f292a77cab40ba5190ae04d6dccfd4d25edae911727b09783fb7", func := "interchange/interchangelaw10.ServeAgrees", spec := "serveAgrees", inPlace := ["internal/abi.NoEscape", "internal/bytealg.CountString", "internal/bytealg.IndexByteString", "internal/bytealg.IndexString"], unfollowed := true, recurses := true, named := ["interchange/num.widths", "internal/bytealg.MaxLen"], apart := false, laid := [("interchange/num.widths", laid_interchange_num_widths)] }
def ServeAgreesSaid : Prop := serveAgreesRow.holds Tryd.pinned (OpenSpec.ofChange serveAgreesSpec)

/-- ITS FALSE NEIGHBOUR: 'it returns false'. Refute it at one input. -/
def serveAgreesWrong : ChangeSpec := { name := "serveAgrees", fn := fun _ => fun
  | [d] => { results := [.lit (.bool false)], args := [d] }
  | _ => none }
def ServeAgreesWrongFalsely : Prop := serveAgreesRow.holds Tryd.pinned (OpenSpec.ofChange serveAgreesWrong)

/-- 'interchangelaw10.ServeWrong': WHATEVER THE INPUT: true; the input reads as it did. -/
def serveWrongSpec : ChangeSpec := { name := "serveWrong", fn := fun _ => fun
  | [d1, d2] => { results := [.lit (.bool true)], args := [d1, d2] }
  | _ => none }
def serveWrongRow : OpenClaim := { program := "ytebkolhibifbpaadoor", sum := "2ceff3cac2e1f292a77cab40ba5190ae04d6dccfd4d25edae911727b09783fb7", func := "interchange/interchangelaw10.ServeWrong", spec := "serveWrong", inPlace := ["internal/abi.NoEscape", "internal/bytealg.CountString", "internal/bytealg.IndexByteString", "internal/bytealg.IndexString"], unfollowed := true, recurses := true, named := ["interchange/num.widths", "internal/bytealg.MaxLen"], apart := false, laid := [("interchange/num.widths", laid_interchange_num_widths)] }
def ServeWrongSaid : Prop := serveWrongRow.holds Tryd.pinned (OpenSpec.ofChange serveWrongSpec)

/-- ITS FALSE NEIGHBOUR: 'it returns false'. Refute it at one input. -/
def serveWrongWrong : ChangeSpec := { name := "serveWrong", fn := fun _ => fun
  | [d1, d2] => { results := [.lit (.bool false)], args := [d1, d2] }
  | _ => none }
def ServeWrongWrongFalsely : Prop := serveWrongRow.holds Tryd.pinned (OpenSpec.ofChange serveWrongWrong)

/-- 'interchangelaw10.ServeNames': WHATEVER THE INPUT: true; the input reads as it did. -/
def serveNamesSpec : ChangeSpec := { name := "serveNames", fn := fun _ => fun
  | [d1, d2] => { results := [.lit (.bool true)], args := [d1, d2] }
  | _ => none }
def serveNamesRow : OpenClaim := { program := "ytebkolhibifbpaadoor", sum := "2ceff3cac2e1f292a77cab40ba5190ae04d6dccfd4d25edae911727b09783fb7", func := "interchange/interchangelaw10.ServeNames", spec := "serveNames", inPlace := ["internal/abi.NoEscape", "internal/bytealg.CountString", "internal/bytealg.IndexByteString", "internal/bytealg.IndexString"], unfollowed := true, recurses := true, named := ["interchange/num.widths", "internal/bytealg.MaxLen"], apart := false, laid := [("interchange/num.widths", laid_interchange_num_widths)] }
def ServeNamesSaid : Prop := serveNamesRow.holds Tryd.pinned (OpenSpec.ofChange serveNamesSpec)

/-- ITS FALSE NEIGHBOUR: 'it returns false'. Refute it at one input. -/
def serveNamesWrong : ChangeSpec := { name := "serveNames", fn := fun _ => fun
  | [d1, d2] => { results := [.lit (.bool false)], args := [d1, d2] }
  | _ => none }
def ServeNamesWrongFalsely : Prop := serveNamesRow.holds Tryd.pinned (OpenSpec.ofChange serveNamesWrong)

/- THE SECOND FORM. 'bulk': how many values and letters a reading holds, each counted each time it is reached (what is shared counts as often as it is met; a slice's spare places count too). A statement '..UptoSaid' is the law's where the arguments, and the package variables that the reading takes, are together of bulk at most 1048576: NARROWER than '..Said'. Prove '..Said' where nothing that the law and all that it calls make is longer than what came in: it says more and counts as full. Else prove '..UptoSaid'. A law counts once. -/
mutual
def uptoBulk {H : Type} : DataW H → Nat
  | .lit (.string bytes) => bytes.length + 1
  | .lit _ => 1
  | .nil => 1
  | .ptr d => uptoBulk d + 1
  | .slice elems spare => uptoBulkAll elems + uptoBulkAll spare + 1
  | .agg parts => uptoBulkAll parts + 1
  | .iface _ d => uptoBulk d + 1
  | .map entries => uptoBulkEntries entries + 1
  | .held _ => 1
def uptoBulkAll {H : Type} : List (DataW H) → Nat
  | [] => 0
  | d :: r => uptoBulk d + uptoBulkAll r
def uptoBulkEntries {H : Type} : List (Lit × DataW H) → Nat
  | [] => 0
  | x :: r => uptoBulkEntry x + uptoBulkEntries r
def uptoBulkEntry {H : Type} : Lit × DataW H → Nat
  | (.string bytes, d) => bytes.length + uptoBulk d + 1
  | (_, d) => uptoBulk d + 1
 end
def uptoSmall : (H : Type) → List (DataW H) → Bool := fun _ ds => decide (uptoBulkAll ds ≤ 1048576)
def OpenSpec.upto (s : _root_.Go.ChangeSpec) : _root_.Go.OpenSpec := { _root_.Go.OpenSpec.ofChange s with cond := some uptoSmall }

/-- 'interchangelaw10.ServeAgrees', WHERE WHAT IT READS IS OF BULK AT MOST 1048576: true; the input reads as it did. -/
def serveAgreesUptoRow : OpenClaim := { program := "ytebkolhibifbpaadoor", sum := "2ceff3cac2e1f292a77cab40ba5190ae04d6dccfd4d25edae911727b09783fb7", func := "interchange/interchangelaw10.ServeAgrees", spec := "serveAgrees", inPlace := ["internal/abi.NoEscape", "internal/bytealg.CountString", "internal/bytealg.IndexByteString", "internal/bytealg.IndexString"], unfollowed := true, recurses := true, named := ["interchange/num.widths", "internal/bytealg.MaxLen"], apart := false, laid := [("interchange/num.widths", laid_interchange_num_widths)], narrowed := true }
def ServeAgreesUptoSaid : Prop := serveAgreesUptoRow.holds Tryd.pinned (OpenSpec.upto serveAgreesSpec)

/-- 'interchangelaw10.ServeWrong', WHERE WHAT IT READS IS OF BULK AT MOST 1048576: true; the input reads as it did. -/
def serveWrongUptoRow : OpenClaim := { program := "ytebkolhibifbpaadoor", sum := "2ceff3cac2e1f292a77cab40ba5190ae04d6dccfd4d25edae911727b09783fb7", func := "interchange/interchangelaw10.ServeWrong", spec := "serveWrong", inPlace := ["internal/abi.NoEscape", "internal/bytealg.CountString", "internal/bytealg.IndexByteString", "internal/bytealg.IndexString"], unfollowed := true, recurses := true, named := ["interchange/num.widths", "internal/bytealg.MaxLen"], apart := false, laid := [("interchange/num.widths", laid_interchange_num_widths)], narrowed := true }
def ServeWrongUptoSaid : Prop := serveWrongUptoRow.holds Tryd.pinned (OpenSpec.upto serveWrongSpec)

/-- 'interchangelaw10.ServeNames', WHERE WHAT IT READS IS OF BULK AT MOST 1048576: true; the input reads as it did. -/
def serveNamesUptoRow : OpenClaim := { program := "ytebkolhibifbpaadoor", sum := "2ceff3cac2e1f292a77cab40ba5190ae04d6dccfd4d25edae911727b09783fb7", func := "interchange/interchangelaw10.ServeNames", spec := "serveNames", inPlace := ["internal/abi.NoEscape", "internal/bytealg.CountString", "internal/bytealg.IndexByteString", "internal/bytealg.IndexString"], unfollowed := true, recurses := true, named := ["interchange/num.widths", "internal/bytealg.MaxLen"], apart := false, laid := [("interchange/num.widths", laid_interchange_num_widths)], narrowed := true }
def ServeNamesUptoSaid : Prop := serveNamesUptoRow.holds Tryd.pinned (OpenSpec.upto serveNamesSpec)

end Rows
end Go.Proofs.YtebkolhibifbpaaDoor
