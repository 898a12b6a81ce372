/-
  NARROWER THAN 'FOR EVERY INPUT', by the rows' own cells (each row's printed sentence says how): PropsTakes: laid · PropsParts: laid · PropsBack: laid · PropsSet: laid · PropsTwo: laid · PropsMany: laid.
  DERIVED. THE GIVEN ROWS OF THIS SEAT. 6 by the template 'for every input the law returns true; each argument reads behind the call as it read before'; 0 by the template 'total and deterministic' (their statements: YtjpldfkhacchdaaDoorTotals.lean).
  GIVEN WITH THE SEED: the statements are not yours to turn. If you find one false, say at which input.
  Laid BY PROGRAM, IN A SANDBOX (cutbox-rows.mjs): the forced cells as the released guide's own fill.sh prints them over the translation 9f751d333ededb7f… (all of the seat's roots in one cut). By AI agents, Wed Nov 11 2026. No macro, syntax, notation, axiom, sorry.
-/
import Derived.Test.YtjpldfkhacchdaaDoorChecked
import GoSem.Claim
import GoSem.ClaimJoined
import GoSem.ClaimMapViews
import Derived.JoinedTies
import Derived.KernelRfl
namespace Go.Proofs.YtjpldfkhacchdaaDoor
/- THE CELL 'sum', in the pinned program and in every row, IS THE sha256 OF THE DUMP (.gsa) THAT YtjpldfkhacchdaaDoorProg.lean LOADS. Nothing in Lean hashes anything: it is a label: what it is worth is what the hold of that sum in a sandbox is worth. -/
noncomputable def Tryd.pinned : Pinned := { name := "ytjpldfkhacchdaadoor", sum := "9f751d333ededb7ff51214e95dfdb2155d4eaf7acd45c35b4ea5e770905ca3fd", checked := Tryd.checked }
namespace Rows
def none {H : Type} : Left H := { results := [], args := [] }

/- WHAT THE LISTED PACKAGE-LEVEL VARIABLES READ AS WHEN THE CALL BEGINS. Each datum BY PROGRAM (the guide's laid-datum.mjs) off the statement by which the dump's own 'gosem.cut.vars' lays the variable. In a bare row this is a premise. The card (YtjpldfkhacchdaaDoorCards.lean) ties it to the program's text. -/
def laid_interchange_num_widths {H : Type} : DataW H := .agg [.lit (.int .i64 1), .lit (.int .i64 2), .lit (.int .i64 4), .lit (.int .i64 8)]

/-- 'interchangelaw07.PropsTakes': WHATEVER THE INPUT: true; the input reads as it did. -/
def propsTakesSpec : ChangeSpec := { name := "propsTakes", fn := fun _ => fun
  | [d1, d2, d3] => { results := [.lit (.bool true)], args := [d1, d2, d3] }
  | _ => none }
def propsTakesRow : OpenClaim := { program := "ytjpldfkhacchdaadoor", sum := "9f751d333ededb7ff51214e95dfdb2155d4eaf7acd45c35b4ea5e770905ca3fd", func := "interchange/interchangelaw07.PropsTakes", spec := "propsTakes", inPlace := ["internal/abi.NoEscape"], unfollowed := true, recurses := true, named := ["interchange/num.widths"], apart := false, laid := [("interchange/num.widths", laid_interchange_num_widths)] }
def PropsTakesSaid : Prop := propsTakesRow.holds Tryd.pinned (OpenSpec.ofChange propsTakesSpec)

/-- ITS FALSE NEIGHBOUR: 'it returns false'. Refute it at one input. -/
def propsTakesWrong : ChangeSpec := { name := "propsTakes", fn := fun _ => fun
  | [d1, d2, d3] => { results := [.lit (.bool false)], args := [d1, d2, d3] }
  | _ => none }
def PropsTakesWrongFalsely : Prop := propsTakesRow.holds Tryd.pinned (OpenSpec.ofChange propsTakesWrong)

/-- 'interchangelaw07.PropsParts': WHATEVER THE INPUT: true; the input reads as it did. -/
def propsPartsSpec : ChangeSpec := { name := "propsParts", fn := fun _ => fun
  | [d1, d2, d3] => { results := [.lit (.bool true)], args := [d1, d2, d3] }
  | _ => none }
def propsPartsRow : OpenClaim := { program := "ytjpldfkhacchdaadoor", sum := "9f751d333ededb7ff51214e95dfdb2155d4eaf7acd45c35b4ea5e770905ca3fd", func := "interchange/interchangelaw07.PropsParts", spec := "propsParts", inPlace := ["internal/abi.NoEscape", "slices.overlaps[interchange/api.Val]"], unfollowed := true, recurses := true, named := ["interchange/num.widths"], apart := false, laid := [("interchange/num.widths", laid_interchange_num_widths)] }
def PropsPartsSaid : Prop := propsPartsRow.holds Tryd.pinned (OpenSpec.ofChange propsPartsSpec)

/-- ITS FALSE NEIGHBOUR: 'it returns false'. Refute it at one input. -/
def propsPartsWrong : ChangeSpec := { name := "propsParts", fn := fun _ => fun
  | [d1, d2, d3] => { results := [.lit (.bool false)], args := [d1, d2, d3] }
  | _ => none }
def PropsPartsWrongFalsely : Prop := propsPartsRow.holds Tryd.pinned (OpenSpec.ofChange propsPartsWrong)

/-- 'interchangelaw07.PropsBack': WHATEVER THE INPUT: true; the input reads as it did. -/
def propsBackSpec : ChangeSpec := { name := "propsBack", fn := fun _ => fun
  | [d1, d2] => { results := [.lit (.bool true)], args := [d1, d2] }
  | _ => none }
def propsBackRow : OpenClaim := { program := "ytjpldfkhacchdaadoor", sum := "9f751d333ededb7ff51214e95dfdb2155d4eaf7acd45c35b4ea5e770905ca3fd", func := "interchange/interchangelaw07.PropsBack", spec := "propsBack", inPlace := ["internal/abi.NoEscape"], unfollowed := true, recurses := true, named := ["interchange/num.widths"], apart := false, laid := [("interchange/num.widths", laid_interchange_num_widths)] }
def PropsBackSaid : Prop := propsBackRow.holds Tryd.pinned (OpenSpec.ofChange propsBackSpec)

/-- ITS FALSE NEIGHBOUR: 'it returns false'. Refute it at one input. -/
def propsBackWrong : ChangeSpec := { name := "propsBack", fn := fun _ => fun
  | [d1, d2] => { results := [.lit (.bool false)], args := [d1, d2] }
  | _ => none }
def PropsBackWrongFalsely : Prop := propsBackRow.holds Tryd.pinned (OpenSpec.ofChange propsBackWrong)

/-- 'interchangelaw07.PropsSet': WHATEVER THE INPUT: true; the input reads as it did. -/
def propsSetSpec : ChangeSpec := { name := "propsSet", fn := fun _ => fun
  | [d] => { results := [.lit (.bool true)], args := [d] }
  | _ => none }
def propsSetRow : OpenClaim := { program := "ytjpldfkhacchdaadoor", sum := "9f751d333ededb7ff51214e95dfdb2155d4eaf7acd45c35b4ea5e770905ca3fd", func := "interchange/interchangelaw07.PropsSet", spec := "propsSet", inPlace := ["internal/abi.NoEscape", "slices.overlaps[interchange/api.Val]"], unfollowed := true, recurses := true, named := ["interchange/num.widths"], apart := false, laid := [("interchange/num.widths", laid_interchange_num_widths)] }
def PropsSetSaid : Prop := propsSetRow.holds Tryd.pinned (OpenSpec.ofChange propsSetSpec)

/-- ITS FALSE NEIGHBOUR: 'it returns false'. Refute it at one input. -/
def propsSetWrong : ChangeSpec := { name := "propsSet", fn := fun _ => fun
  | [d] => { results := [.lit (.bool false)], args := [d] }
  | _ => none }
def PropsSetWrongFalsely : Prop := propsSetRow.holds Tryd.pinned (OpenSpec.ofChange propsSetWrong)

/-- 'interchangelaw07.PropsTwo': WHATEVER THE INPUT: true; the input reads as it did. -/
def propsTwoSpec : ChangeSpec := { name := "propsTwo", fn := fun _ => fun
  | [d] => { results := [.lit (.bool true)], args := [d] }
  | _ => none }
def propsTwoRow : OpenClaim := { program := "ytjpldfkhacchdaadoor", sum := "9f751d333ededb7ff51214e95dfdb2155d4eaf7acd45c35b4ea5e770905ca3fd", func := "interchange/interchangelaw07.PropsTwo", spec := "propsTwo", inPlace := ["internal/abi.NoEscape", "slices.overlaps[interchange/api.Val]"], unfollowed := true, recurses := true, named := ["interchange/num.widths"], apart := false, laid := [("interchange/num.widths", laid_interchange_num_widths)] }
def PropsTwoSaid : Prop := propsTwoRow.holds Tryd.pinned (OpenSpec.ofChange propsTwoSpec)

/-- ITS FALSE NEIGHBOUR: 'it returns false'. Refute it at one input. -/
def propsTwoWrong : ChangeSpec := { name := "propsTwo", fn := fun _ => fun
  | [d] => { results := [.lit (.bool false)], args := [d] }
  | _ => none }
def PropsTwoWrongFalsely : Prop := propsTwoRow.holds Tryd.pinned (OpenSpec.ofChange propsTwoWrong)

/-- 'interchangelaw07.PropsMany': WHATEVER THE INPUT: true; the input reads as it did. -/
def propsManySpec : ChangeSpec := { name := "propsMany", fn := fun _ => fun
  | [d] => { results := [.lit (.bool true)], args := [d] }
  | _ => none }
def propsManyRow : OpenClaim := { program := "ytjpldfkhacchdaadoor", sum := "9f751d333ededb7ff51214e95dfdb2155d4eaf7acd45c35b4ea5e770905ca3fd", func := "interchange/interchangelaw07.PropsMany", spec := "propsMany", inPlace := ["internal/abi.NoEscape"], unfollowed := true, recurses := true, named := ["interchange/num.widths"], apart := false, laid := [("interchange/num.widths", laid_interchange_num_widths)] }
def PropsManySaid : Prop := propsManyRow.holds Tryd.pinned (OpenSpec.ofChange propsManySpec)

/-- ITS FALSE NEIGHBOUR: 'it returns false'. Refute it at one input. -/
def propsManyWrong : ChangeSpec := { name := "propsMany", fn := fun _ => fun
  | [d] => { results := [.lit (.bool false)], args := [d] }
  | _ => none }
def PropsManyWrongFalsely : Prop := propsManyRow.holds Tryd.pinned (OpenSpec.ofChange propsManyWrong)

/- THE SECOND FORM. 'bulk': how many values and letters a reading holds, each counted each time it is reached (what is shared counts as often as it is met; a slice's spare places count too). A statement '..UptoSaid' is the law's where the arguments, and the package variables that the reading takes, are together of bulk at most 1048576: NARROWER than '..Said'. Prove '..Said' where nothing that the law and all that it calls make is longer than what came in: it says more and counts as full. Else prove '..UptoSaid'. A law counts once. -/
mutual
def uptoBulk {H : Type} : DataW H → Nat
  | .lit (.string bytes) => bytes.length + 1
  | .lit _ => 1
  | .nil => 1
  | .ptr d => uptoBulk d + 1
  | .slice elems spare => uptoBulkAll elems + uptoBulkAll spare + 1
  | .agg parts => uptoBulkAll parts + 1
  | .iface _ d => uptoBulk d + 1
  | .map entries => uptoBulkEntries entries + 1
  | .held _ => 1
def uptoBulkAll {H : Type} : List (DataW H) → Nat
  | [] => 0
  | d :: r => uptoBulk d + uptoBulkAll r
def uptoBulkEntries {H : Type} : List (Lit × DataW H) → Nat
  | [] => 0
  | x :: r => uptoBulkEntry x + uptoBulkEntries r
def uptoBulkEntry {H : Type} : Lit × DataW H → Nat
  | (.string bytes, d) => bytes.length + uptoBulk d + 1
  | (_, d) => uptoBulk d + 1
 end
def uptoSmall : (H : Type) → List (DataW H) → Bool := fun _ ds => decide (uptoBulkAll ds ≤ 1048576)
def OpenSpec.upto (s : _root_.Go.ChangeSpec) : _root_.Go.OpenSpec := { _root_.Go.OpenSpec.ofChange s with cond := some uptoSmall }

/-- 'interchangelaw07.PropsTakes', WHERE WHAT IT READS IS OF BULK AT MOST 1048576: true; the input reads as it did. -/
def propsTakesUptoRow : OpenClaim := { program := "ytjpldfkhacchdaadoor", sum := "9f751d333ededb7ff51214e95dfdb2155d4eaf7acd45c35b4ea5e770905ca3fd", func := "interchange/interchangelaw07.PropsTakes", spec := "propsTakes", inPlace := ["internal/abi.NoEscape"], unfollowed := true, recurses := true, named := ["interchange/num.widths"], apart := false, laid := [("interchange/num.widths", laid_interchange_num_widths)], narrowed := true }
def PropsTakesUptoSaid : Prop := propsTakesUptoRow.holds Tryd.pinned (OpenSpec.upto propsTakesSpec)

/-- 'interchangelaw07.PropsParts', WHERE WHAT IT READS IS OF BULK AT MOST 1048576: true; the input reads as it did. -/
def propsPartsUptoRow : OpenClaim := { program := "ytjpldfkhacchdaadoor", sum := "9f751d333ededb7ff51214e95dfdb2155d4eaf7acd45c35b4ea5e770905ca3fd", func := "interchange/interchangelaw07.PropsParts", spec := "propsParts", inPlace := ["internal/abi.NoEscape", "slices.overlaps[interchange/api.Val]"], unfollowed := true, recurses := true, named := ["interchange/num.widths"], apart := false, laid := [("interchange/num.widths", laid_interchange_num_widths)], narrowed := true }
def PropsPartsUptoSaid : Prop := propsPartsUptoRow.holds Tryd.pinned (OpenSpec.upto propsPartsSpec)

/-- 'interchangelaw07.PropsBack', WHERE WHAT IT READS IS OF BULK AT MOST 1048576: true; the input reads as it did. -/
def propsBackUptoRow : OpenClaim := { program := "ytjpldfkhacchdaadoor", sum := "9f751d333ededb7ff51214e95dfdb2155d4eaf7acd45c35b4ea5e770905ca3fd", func := "interchange/interchangelaw07.PropsBack", spec := "propsBack", inPlace := ["internal/abi.NoEscape"], unfollowed := true, recurses := true, named := ["interchange/num.widths"], apart := false, laid := [("interchange/num.widths", laid_interchange_num_widths)], narrowed := true }
def PropsBackUptoSaid : Prop := propsBackUptoRow.holds Tryd.pinned (OpenSpec.upto propsBackSpec)

/-- 'interchangelaw07.PropsSet', WHERE WHAT IT READS IS OF BULK AT MOST 1048576: true; the input reads as it did. -/
def propsSetUptoRow : OpenClaim := { program := "ytjpldfkhacchdaadoor", sum := "9f751d333ededb7ff51214e95dfdb2155d4eaf7acd45c35b4ea5e770905ca3fd", func := "interchange/interchangelaw07.PropsSet", spec := "propsSet", inPlace := ["internal/abi.NoEscape", "slices.overlaps[interchange/api.Val]"], unfollowed := true, recurses := true, named := ["interchange/num.widths"], apart := false, laid := [("interchange/num.widths", laid_interchange_num_widths)], narrowed := true }
def PropsSetUptoSaid : Prop := propsSetUptoRow.holds Tryd.pinned (OpenSpec.upto propsSetSpec)

/-- 'interchangelaw07.PropsTwo', WHERE WHAT IT READS IS OF BULK AT MOST 1048576: true; the input reads as it did. -/
def propsTwoUptoRow : OpenClaim := { program := "ytjpldfkhacchdaadoor", sum := "9f751d333ededb7ff51214e95dfdb2155d4eaf7acd45c35b4ea5e770905ca3fd", func := "interchange/interchangelaw07.PropsTwo", spec := "propsTwo", inPlace := ["internal/abi.NoEscape", "slices.overlaps[interchange/api.Val]"], unfollowed := true, recurses := true, named := ["interchange/num.widths"], apart := false, laid := [("interchange/num.widths", laid_interchange_num_widths)], narrowed := true }
def PropsTwoUptoSaid : Prop := propsTwoUptoRow.holds Tryd.pinned (OpenSpec.upto propsTwoSpec)

/-- 'interchangelaw07.PropsMany', WHERE WHAT IT READS IS OF BULK AT MOST 1048576: true; the input reads as it did. -/
def propsManyUptoRow : OpenClaim := { program := "ytjpldfkhacchdaadoor", sum := "9f751d333ededb7ff51214e95dfdb2155d4eaf7acd45c35b4ea5e770905ca3fd", func := "interchange/interchangelaw07.PropsMany", spec := "propsMany", inPlace := ["internal/abi.NoEscape"], unfollowed := true, recurses := true, named := ["interchange/num.widths"], apart := false, laid := [("interchange/num.widths", laid_interchange_num_widths)], narrowed := true }
def PropsManyUptoSaid : Prop := propsManyUptoRow.holds Tryd.pinned (OpenSpec.upto propsManySpec)

end Rows
end Go.Proofs.YtjpldfkhacchdaaDoor
