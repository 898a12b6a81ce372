/-
  NARROWER THAN 'FOR EVERY INPUT', by the rows' own cells (each row's printed sentence says how): DialTalks: laid · DialRises: laid · DialWrong: laid.
  DERIVED. THE GIVEN ROWS OF THIS SEAT. 3 by the template 'for every input the law returns true; each argument reads behind the call as it read before'; 0 by the template 'total and deterministic' (their statements: YtkdiccedkjbpeaaGreatDoorRTotals.lean).
  GIVEN WITH THE SEED: the statements are not yours to turn. If you find one false, say at which input.
  Laid BY PROGRAM, IN A SANDBOX (cutbox-rows.mjs): the forced cells as the released guide's own fill.sh prints them over the translation d6a8b3c9c0751489… (all of the seat's roots in one cut). By AI agents, Wed Nov 11 2026. No macro, syntax, notation, axiom, sorry.
-/
import Derived.Test.YtkdiccedkjbpeaaGreatDoorRChecked
import GoSem.Claim
import GoSem.ClaimJoined
import GoSem.ClaimMapViews
import Derived.JoinedTies
import Derived.KernelRfl
namespace Go.Proofs.YtkdiccedkjbpeaaGreatDoorR
/- THE CELL 'sum', in the pinned program and in every row, IS THE sha256 OF THE DUMP (.gsa) THAT YtkdiccedkjbpeaaGreatDoorRProg.lean LOADS. Nothing in Lean hashes anything: it is a label: what it is worth is what the hold of that sum in a sandbox is worth. -/
noncomputable def Tryz.pinned : Pinned := { name := "ytkdiccedkjbpeaagreatdoorr", sum := "d6a8b3c9c0751489d07ec6f2c5caf89129b98b1ca6bb8621e10b27879c2b1d3e", checked := Tryz.checked }
namespace Rows
def none {H : Type} : Left H := { results := [], args := [] }

/- WHAT THE LISTED PACKAGE-LEVEL VARIABLES READ AS WHEN THE CALL BEGINS. Each datum BY PROGRAM (the guide's laid-datum.mjs) off the statement by which the dump's own 'gosem.cut.vars' lays the variable. In a bare row this is a premise. The card (YtkdiccedkjbpeaaGreatDoorRCards.lean) ties it to the program's text. -/
def laid_interchange_num_widths {H : Type} : DataW H := .agg [.lit (.int .i64 1), .lit (.int .i64 2), .lit (.int .i64 4), .lit (.int .i64 8)]

/-- 'interchangelaw11.DialTalks': WHATEVER THE INPUT: true; the input reads as it did. -/
def dialTalksSpec : ChangeSpec := { name := "dialTalks", fn := fun _ => fun
  | [d] => { results := [.lit (.bool true)], args := [d] }
  | _ => none }
def dialTalksRow : OpenClaim := { program := "ytkdiccedkjbpeaagreatdoorr", sum := "d6a8b3c9c0751489d07ec6f2c5caf89129b98b1ca6bb8621e10b27879c2b1d3e", func := "interchange/interchangelaw11.DialTalks", spec := "dialTalks", inPlace := ["internal/bytealg.IndexByteString", "internal/bytealg.IndexString", "internal/abi.NoEscape", "internal/bytealg.CountString"], unfollowed := true, recurses := true, named := ["internal/bytealg.MaxLen", "interchange/num.widths"], apart := false, laid := [("interchange/num.widths", laid_interchange_num_widths)] }
def DialTalksSaid : Prop := dialTalksRow.holds Tryz.pinned (OpenSpec.ofChange dialTalksSpec)

/-- ITS FALSE NEIGHBOUR: 'it returns false'. Refute it at one input. -/
def dialTalksWrong : ChangeSpec := { name := "dialTalks", fn := fun _ => fun
  | [d] => { results := [.lit (.bool false)], args := [d] }
  | _ => none }
def DialTalksWrongFalsely : Prop := dialTalksRow.holds Tryz.pinned (OpenSpec.ofChange dialTalksWrong)

/-- 'interchangelaw11.DialRises': WHATEVER THE INPUT: true; the input reads as it did. -/
def dialRisesSpec : ChangeSpec := { name := "dialRises", fn := fun _ => fun
  | [d1, d2, d3] => { results := [.lit (.bool true)], args := [d1, d2, d3] }
  | _ => none }
def dialRisesRow : OpenClaim := { program := "ytkdiccedkjbpeaagreatdoorr", sum := "d6a8b3c9c0751489d07ec6f2c5caf89129b98b1ca6bb8621e10b27879c2b1d3e", func := "interchange/interchangelaw11.DialRises", spec := "dialRises", inPlace := ["internal/bytealg.IndexByteString", "internal/bytealg.IndexString", "internal/abi.NoEscape", "internal/bytealg.CountString"], unfollowed := true, recurses := true, named := ["internal/bytealg.MaxLen", "interchange/num.widths"], apart := false, laid := [("interchange/num.widths", laid_interchange_num_widths)] }
def DialRisesSaid : Prop := dialRisesRow.holds Tryz.pinned (OpenSpec.ofChange dialRisesSpec)

/-- ITS FALSE NEIGHBOUR: 'it returns false'. Refute it at one input. -/
def dialRisesWrong : ChangeSpec := { name := "dialRises", fn := fun _ => fun
  | [d1, d2, d3] => { results := [.lit (.bool false)], args := [d1, d2, d3] }
  | _ => none }
def DialRisesWrongFalsely : Prop := dialRisesRow.holds Tryz.pinned (OpenSpec.ofChange dialRisesWrong)

/-- 'interchangelaw11.DialWrong': WHATEVER THE INPUT: true; the input reads as it did. -/
def dialWrongSpec : ChangeSpec := { name := "dialWrong", fn := fun _ => fun
  | [d1, d2] => { results := [.lit (.bool true)], args := [d1, d2] }
  | _ => none }
def dialWrongRow : OpenClaim := { program := "ytkdiccedkjbpeaagreatdoorr", sum := "d6a8b3c9c0751489d07ec6f2c5caf89129b98b1ca6bb8621e10b27879c2b1d3e", func := "interchange/interchangelaw11.DialWrong", spec := "dialWrong", inPlace := ["internal/bytealg.IndexByteString", "internal/bytealg.IndexString", "internal/abi.NoEscape", "internal/bytealg.CountString"], unfollowed := true, recurses := true, named := ["internal/bytealg.MaxLen", "interchange/num.widths"], apart := false, laid := [("interchange/num.widths", laid_interchange_num_widths)] }
def DialWrongSaid : Prop := dialWrongRow.holds Tryz.pinned (OpenSpec.ofChange dialWrongSpec)

/-- ITS FALSE NEIGHBOUR: 'it returns false'. Refute it at one input. -/
def dialWrongWrong : ChangeSpec := { name := "dialWrong", fn := fun _ => fun
  | [d1, d2] => { results := [.lit (.bool false)], args := [d1, d2] }
  | _ => none }
def DialWrongWrongFalsely : Prop := dialWrongRow.holds Tryz.pinned (OpenSpec.ofChange dialWrongWrong)

/- THE SECOND FORM. 'bulk': how many values and letters a reading holds, each counted each time it is reached (what is shared counts as often as it is met; a slice's spare places count too). A statement '..UptoSaid' is the law's where the arguments, and the package variables that the reading takes, are together of bulk at most 1048576: NARROWER than '..Said'. Prove '..Said' where nothing that the law and all that it calls make is longer than what came in: it says more and counts as full. Else prove '..UptoSaid'. A law counts once. -/
mutual
def uptoBulk {H : Type} : DataW H → Nat
  | .lit (.string bytes) => bytes.length + 1
  | .lit _ => 1
  | .nil => 1
  | .ptr d => uptoBulk d + 1
  | .slice elems spare => uptoBulkAll elems + uptoBulkAll spare + 1
  | .agg parts => uptoBulkAll parts + 1
  | .iface _ d => uptoBulk d + 1
  | .map entries => uptoBulkEntries entries + 1
  | .held _ => 1
def uptoBulkAll {H : Type} : List (DataW H) → Nat
  | [] => 0
  | d :: r => uptoBulk d + uptoBulkAll r
def uptoBulkEntries {H : Type} : List (Lit × DataW H) → Nat
  | [] => 0
  | x :: r => uptoBulkEntry x + uptoBulkEntries r
def uptoBulkEntry {H : Type} : Lit × DataW H → Nat
  | (.string bytes, d) => bytes.length + uptoBulk d + 1
  | (_, d) => uptoBulk d + 1
 end
def uptoSmall : (H : Type) → List (DataW H) → Bool := fun _ ds => decide (uptoBulkAll ds ≤ 1048576)
def OpenSpec.upto (s : _root_.Go.ChangeSpec) : _root_.Go.OpenSpec := { _root_.Go.OpenSpec.ofChange s with cond := some uptoSmall }

/-- 'interchangelaw11.DialTalks', WHERE WHAT IT READS IS OF BULK AT MOST 1048576: true; the input reads as it did. -/
def dialTalksUptoRow : OpenClaim := { program := "ytkdiccedkjbpeaagreatdoorr", sum := "d6a8b3c9c0751489d07ec6f2c5caf89129b98b1ca6bb8621e10b27879c2b1d3e", func := "interchange/interchangelaw11.DialTalks", spec := "dialTalks", inPlace := ["internal/bytealg.IndexByteString", "internal/bytealg.IndexString", "internal/abi.NoEscape", "internal/bytealg.CountString"], unfollowed := true, recurses := true, named := ["internal/bytealg.MaxLen", "interchange/num.widths"], apart := false, laid := [("interchange/num.widths", laid_interchange_num_widths)], narrowed := true }
def DialTalksUptoSaid : Prop := dialTalksUptoRow.holds Tryz.pinned (OpenSpec.upto dialTalksSpec)

/-- 'interchangelaw11.DialRises', WHERE WHAT IT READS IS OF BULK AT MOST 1048576: true; the input reads as it did. -/
def dialRisesUptoRow : OpenClaim := { program := "ytkdiccedkjbpeaagreatdoorr", sum := "d6a8b3c9c0751489d07ec6f2c5caf89129b98b1ca6bb8621e10b27879c2b1d3e", func := "interchange/interchangelaw11.DialRises", spec := "dialRises", inPlace := ["internal/bytealg.IndexByteString", "internal/bytealg.IndexString", "internal/abi.NoEscape", "internal/bytealg.CountString"], unfollowed := true, recurses := true, named := ["internal/bytealg.MaxLen", "interchange/num.widths"], apart := false, laid := [("interchange/num.widths", laid_interchange_num_widths)], narrowed := true }
def DialRisesUptoSaid : Prop := dialRisesUptoRow.holds Tryz.pinned (OpenSpec.upto dialRisesSpec)

/-- 'interchangelaw11.DialWrong', WHERE WHAT IT READS IS OF BULK AT MOST 1048576: true; the input reads as it did. -/
def dialWrongUptoRow : OpenClaim := { program := "ytkdiccedkjbpeaagreatdoorr", sum := "d6a8b3c9c0751489d07ec6f2c5caf89129b98b1ca6bb8621e10b27879c2b1d3e", func := "interchange/interchangelaw11.DialWrong", spec := "dialWrong", inPlace := ["internal/bytealg.IndexByteString", "internal/bytealg.IndexString", "internal/abi.NoEscape", "internal/bytealg.CountString"], unfollowed := true, recurses := true, named := ["internal/bytealg.MaxLen", "interchange/num.widths"], apart := false, laid := [("interchange/num.widths", laid_interchange_num_widths)], narrowed := true }
def DialWrongUptoSaid : Prop := dialWrongUptoRow.holds Tryz.pinned (OpenSpec.upto dialWrongSpec)

end Rows
end Go.Proofs.YtkdiccedkjbpeaaGreatDoorR
