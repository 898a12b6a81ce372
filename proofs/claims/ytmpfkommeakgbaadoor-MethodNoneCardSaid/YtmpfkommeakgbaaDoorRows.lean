/-
  NARROWER THAN 'FOR EVERY INPUT', by the rows' own cells (each row's printed sentence says how): MethodArgs: laid · MethodBack: laid · MethodCut: laid · MethodOne: laid · MethodNone: laid · MethodApart: laid · MethodArg: laid.
  DERIVED. THE GIVEN ROWS OF THIS SEAT. 7 by the template 'for every input the law returns true; each argument reads behind the call as it read before'; 0 by the template 'total and deterministic' (their statements: YtmpfkommeakgbaaDoorTotals.lean).
  GIVEN WITH THE SEED: the statements are not yours to turn. If you find one false, say at which input.
  Laid BY PROGRAM, IN A SANDBOX (cutbox-rows.mjs): the forced cells as the released guide's own fill.sh prints them over the translation d62eff4d984a7a72… (all of the seat's roots in one cut). By AI agents, Wed Nov 11 2026. No macro, syntax, notation, axiom, sorry.
-/
import Derived.Test.YtmpfkommeakgbaaDoorChecked
import GoSem.PinnedTables
import GoSem.Claim
import GoSem.ClaimJoined
import GoSem.ClaimMapViews
import Derived.JoinedTies
import Derived.KernelRfl
namespace Go.Proofs.YtmpfkommeakgbaaDoor
/- THE CELL 'sum', in the pinned program and in every row, IS THE sha256 OF THE DUMP (.gsa) THAT YtmpfkommeakgbaaDoorProg.lean LOADS. Nothing in Lean hashes anything: it is a label: what it is worth is what the hold of that sum in a sandbox is worth. -/
noncomputable def Tryd.pinned : Pinned := { name := "ytmpfkommeakgbaadoor", sum := "d62eff4d984a7a72b3e349a7f536bc0199a7d990e740fc078a0f725f074d6a66", checked := Tryd.checked }
namespace Rows
def none {H : Type} : Left H := { results := [], args := [] }

/- WHAT THE LISTED PACKAGE-LEVEL VARIABLES READ AS WHEN THE CALL BEGINS. Each datum BY PROGRAM (the guide's laid-datum.mjs) off the statement by which the dump's own 'gosem.cut.vars' lays the variable. In a bare row this is a premise. The card (YtmpfkommeakgbaaDoorCards.lean) ties it to the program's text. -/
def laid_interchange_num_widths {H : Type} : DataW H := .agg [.lit (.int .i64 1), .lit (.int .i64 2), .lit (.int .i64 4), .lit (.int .i64 8)]
def laid_unicode_utf8_acceptRanges {H : Type} : DataW H := .agg [.agg [.lit (.int .u8 128), .lit (.int .u8 191)], .agg [.lit (.int .u8 160), .lit (.int .u8 191)], .agg [.lit (.int .u8 128), .lit (.int .u8 159)], .agg [.lit (.int .u8 144), .lit (.int .u8 191)], .agg [.lit (.int .u8 128), .lit (.int .u8 143)], .agg [.lit (.int .u8 0), .lit (.int .u8 0)], .agg [.lit (.int .u8 0), .lit (.int .u8 0)], .agg [.lit (.int .u8 0), .lit (.int .u8 0)], .agg [.lit (.int .u8 0), .lit (.int .u8 0)], .agg [.lit (.int .u8 0), .lit (.int .u8 0)], .agg [.lit (.int .u8 0), .lit (.int .u8 0)], .agg [.lit (.int .u8 0), .lit (.int .u8 0)], .agg [.lit (.int .u8 0), .lit (.int .u8 0)], .agg [.lit (.int .u8 0), .lit (.int .u8 0)], .agg [.lit (.int .u8 0), .lit (.int .u8 0)], .agg [.lit (.int .u8 0), .lit (.int .u8 0)]]
/-- One of Go's own tables, pinned by name: the form's constant. -/
def laid_unicode_utf8_first : DataW Unit := Go.Pinned.utf8First

/-- 'interchangelaw06.MethodArgs': WHATEVER THE INPUT: true; the input reads as it did. -/
def methodArgsSpec : ChangeSpec := { name := "methodArgs", fn := fun _ => fun
  | [d1, d2, d3] => { results := [.lit (.bool true)], args := [d1, d2, d3] }
  | _ => none }
def methodArgsRow : OpenClaim := { program := "ytmpfkommeakgbaadoor", sum := "d62eff4d984a7a72b3e349a7f536bc0199a7d990e740fc078a0f725f074d6a66", func := "interchange/interchangelaw06.MethodArgs", spec := "methodArgs", inPlace := ["internal/abi.NoEscape"], unfollowed := true, recurses := true, named := ["interchange/num.widths"], apart := false, laid := [("interchange/num.widths", laid_interchange_num_widths)] }
def MethodArgsSaid : Prop := methodArgsRow.holds Tryd.pinned (OpenSpec.ofChange methodArgsSpec)

/-- ITS FALSE NEIGHBOUR: 'it returns false'. Refute it at one input. -/
def methodArgsWrong : ChangeSpec := { name := "methodArgs", fn := fun _ => fun
  | [d1, d2, d3] => { results := [.lit (.bool false)], args := [d1, d2, d3] }
  | _ => none }
def MethodArgsWrongFalsely : Prop := methodArgsRow.holds Tryd.pinned (OpenSpec.ofChange methodArgsWrong)

/-- 'interchangelaw06.MethodBack': WHATEVER THE INPUT: true; the input reads as it did. -/
def methodBackSpec : ChangeSpec := { name := "methodBack", fn := fun _ => fun
  | [d1, d2] => { results := [.lit (.bool true)], args := [d1, d2] }
  | _ => none }
def methodBackRow : OpenClaim := { program := "ytmpfkommeakgbaadoor", sum := "d62eff4d984a7a72b3e349a7f536bc0199a7d990e740fc078a0f725f074d6a66", func := "interchange/interchangelaw06.MethodBack", spec := "methodBack", inPlace := ["internal/abi.NoEscape", "internal/bytealg.IndexByteString", "internal/bytealg.IndexString"], unfollowed := true, recurses := true, named := ["interchange/num.widths", "unicode/utf8.first", "unicode/utf8.acceptRanges", "internal/bytealg.MaxLen"], apart := false, laid := [("interchange/num.widths", laid_interchange_num_widths), ("unicode/utf8.acceptRanges", laid_unicode_utf8_acceptRanges), ("unicode/utf8.first", laid_unicode_utf8_first)] }
def MethodBackSaid : Prop := methodBackRow.holds Tryd.pinned (OpenSpec.ofChange methodBackSpec)

/-- ITS FALSE NEIGHBOUR: 'it returns false'. Refute it at one input. -/
def methodBackWrong : ChangeSpec := { name := "methodBack", fn := fun _ => fun
  | [d1, d2] => { results := [.lit (.bool false)], args := [d1, d2] }
  | _ => none }
def MethodBackWrongFalsely : Prop := methodBackRow.holds Tryd.pinned (OpenSpec.ofChange methodBackWrong)

/-- 'interchangelaw06.MethodCut': WHATEVER THE INPUT: true; the input reads as it did. -/
def methodCutSpec : ChangeSpec := { name := "methodCut", fn := fun _ => fun
  | [d1, d2, d3] => { results := [.lit (.bool true)], args := [d1, d2, d3] }
  | _ => none }
def methodCutRow : OpenClaim := { program := "ytmpfkommeakgbaadoor", sum := "d62eff4d984a7a72b3e349a7f536bc0199a7d990e740fc078a0f725f074d6a66", func := "interchange/interchangelaw06.MethodCut", spec := "methodCut", inPlace := ["internal/abi.NoEscape", "internal/bytealg.IndexByteString", "internal/bytealg.IndexString"], unfollowed := true, recurses := true, named := ["interchange/num.widths", "unicode/utf8.first", "unicode/utf8.acceptRanges", "internal/bytealg.MaxLen"], apart := false, laid := [("interchange/num.widths", laid_interchange_num_widths), ("unicode/utf8.acceptRanges", laid_unicode_utf8_acceptRanges), ("unicode/utf8.first", laid_unicode_utf8_first)] }
def MethodCutSaid : Prop := methodCutRow.holds Tryd.pinned (OpenSpec.ofChange methodCutSpec)

/-- ITS FALSE NEIGHBOUR: 'it returns false'. Refute it at one input. -/
def methodCutWrong : ChangeSpec := { name := "methodCut", fn := fun _ => fun
  | [d1, d2, d3] => { results := [.lit (.bool false)], args := [d1, d2, d3] }
  | _ => none }
def MethodCutWrongFalsely : Prop := methodCutRow.holds Tryd.pinned (OpenSpec.ofChange methodCutWrong)

/-- 'interchangelaw06.MethodOne': WHATEVER THE INPUT: true; the input reads as it did. -/
def methodOneSpec : ChangeSpec := { name := "methodOne", fn := fun _ => fun
  | [d1, d2, d3] => { results := [.lit (.bool true)], args := [d1, d2, d3] }
  | _ => none }
def methodOneRow : OpenClaim := { program := "ytmpfkommeakgbaadoor", sum := "d62eff4d984a7a72b3e349a7f536bc0199a7d990e740fc078a0f725f074d6a66", func := "interchange/interchangelaw06.MethodOne", spec := "methodOne", inPlace := ["internal/abi.NoEscape"], unfollowed := true, recurses := true, named := ["interchange/num.widths"], apart := false, laid := [("interchange/num.widths", laid_interchange_num_widths)] }
def MethodOneSaid : Prop := methodOneRow.holds Tryd.pinned (OpenSpec.ofChange methodOneSpec)

/-- ITS FALSE NEIGHBOUR: 'it returns false'. Refute it at one input. -/
def methodOneWrong : ChangeSpec := { name := "methodOne", fn := fun _ => fun
  | [d1, d2, d3] => { results := [.lit (.bool false)], args := [d1, d2, d3] }
  | _ => none }
def MethodOneWrongFalsely : Prop := methodOneRow.holds Tryd.pinned (OpenSpec.ofChange methodOneWrong)

/-- 'interchangelaw06.MethodNone': WHATEVER THE INPUT: true; the input reads as it did. -/
def methodNoneSpec : ChangeSpec := { name := "methodNone", fn := fun _ => fun
  | [d1, d2] => { results := [.lit (.bool true)], args := [d1, d2] }
  | _ => none }
def methodNoneRow : OpenClaim := { program := "ytmpfkommeakgbaadoor", sum := "d62eff4d984a7a72b3e349a7f536bc0199a7d990e740fc078a0f725f074d6a66", func := "interchange/interchangelaw06.MethodNone", spec := "methodNone", inPlace := ["internal/abi.NoEscape"], unfollowed := true, recurses := true, named := ["interchange/num.widths"], apart := false, laid := [("interchange/num.widths", laid_interchange_num_widths)] }
def MethodNoneSaid : Prop := methodNoneRow.holds Tryd.pinned (OpenSpec.ofChange methodNoneSpec)

/-- ITS FALSE NEIGHBOUR: 'it returns false'. Refute it at one input. -/
def methodNoneWrong : ChangeSpec := { name := "methodNone", fn := fun _ => fun
  | [d1, d2] => { results := [.lit (.bool false)], args := [d1, d2] }
  | _ => none }
def MethodNoneWrongFalsely : Prop := methodNoneRow.holds Tryd.pinned (OpenSpec.ofChange methodNoneWrong)

/-- 'interchangelaw06.MethodApart': WHATEVER THE INPUT: true; the input reads as it did. -/
def methodApartSpec : ChangeSpec := { name := "methodApart", fn := fun _ => fun
  | [d1, d2] => { results := [.lit (.bool true)], args := [d1, d2] }
  | _ => none }
def methodApartRow : OpenClaim := { program := "ytmpfkommeakgbaadoor", sum := "d62eff4d984a7a72b3e349a7f536bc0199a7d990e740fc078a0f725f074d6a66", func := "interchange/interchangelaw06.MethodApart", spec := "methodApart", inPlace := ["internal/abi.NoEscape"], unfollowed := true, recurses := true, named := ["interchange/num.widths"], apart := false, laid := [("interchange/num.widths", laid_interchange_num_widths)] }
def MethodApartSaid : Prop := methodApartRow.holds Tryd.pinned (OpenSpec.ofChange methodApartSpec)

/-- ITS FALSE NEIGHBOUR: 'it returns false'. Refute it at one input. -/
def methodApartWrong : ChangeSpec := { name := "methodApart", fn := fun _ => fun
  | [d1, d2] => { results := [.lit (.bool false)], args := [d1, d2] }
  | _ => none }
def MethodApartWrongFalsely : Prop := methodApartRow.holds Tryd.pinned (OpenSpec.ofChange methodApartWrong)

/-- 'interchangelaw06.MethodArg': WHATEVER THE INPUT: true; the input reads as it did. -/
def methodArgSpec : ChangeSpec := { name := "methodArg", fn := fun _ => fun
  | [d] => { results := [.lit (.bool true)], args := [d] }
  | _ => none }
def methodArgRow : OpenClaim := { program := "ytmpfkommeakgbaadoor", sum := "d62eff4d984a7a72b3e349a7f536bc0199a7d990e740fc078a0f725f074d6a66", func := "interchange/interchangelaw06.MethodArg", spec := "methodArg", inPlace := ["internal/abi.NoEscape"], unfollowed := true, recurses := true, named := ["interchange/num.widths"], apart := false, laid := [("interchange/num.widths", laid_interchange_num_widths)] }
def MethodArgSaid : Prop := methodArgRow.holds Tryd.pinned (OpenSpec.ofChange methodArgSpec)

/-- ITS FALSE NEIGHBOUR: 'it returns false'. Refute it at one input. -/
def methodArgWrong : ChangeSpec := { name := "methodArg", fn := fun _ => fun
  | [d] => { results := [.lit (.bool false)], args := [d] }
  | _ => none }
def MethodArgWrongFalsely : Prop := methodArgRow.holds Tryd.pinned (OpenSpec.ofChange methodArgWrong)

/- THE SECOND FORM. 'bulk': how many values and letters a reading holds, each counted each time it is reached (what is shared counts as often as it is met; a slice's spare places count too). A statement '..UptoSaid' is the law's where the arguments, and the package variables that the reading takes, are together of bulk at most 1048576: NARROWER than '..Said'. Prove '..Said' where nothing that the law and all that it calls make is longer than what came in: it says more and counts as full. Else prove '..UptoSaid'. A law counts once. -/
mutual
def uptoBulk {H : Type} : DataW H → Nat
  | .lit (.string bytes) => bytes.length + 1
  | .lit _ => 1
  | .nil => 1
  | .ptr d => uptoBulk d + 1
  | .slice elems spare => uptoBulkAll elems + uptoBulkAll spare + 1
  | .agg parts => uptoBulkAll parts + 1
  | .iface _ d => uptoBulk d + 1
  | .map entries => uptoBulkEntries entries + 1
  | .held _ => 1
def uptoBulkAll {H : Type} : List (DataW H) → Nat
  | [] => 0
  | d :: r => uptoBulk d + uptoBulkAll r
def uptoBulkEntries {H : Type} : List (Lit × DataW H) → Nat
  | [] => 0
  | x :: r => uptoBulkEntry x + uptoBulkEntries r
def uptoBulkEntry {H : Type} : Lit × DataW H → Nat
  | (.string bytes, d) => bytes.length + uptoBulk d + 1
  | (_, d) => uptoBulk d + 1
 end
def uptoSmall : (H : Type) → List (DataW H) → Bool := fun _ ds => decide (uptoBulkAll ds ≤ 1048576)
def OpenSpec.upto (s : _root_.Go.ChangeSpec) : _root_.Go.OpenSpec := { _root_.Go.OpenSpec.ofChange s with cond := some uptoSmall }

/-- 'interchangelaw06.MethodArgs', WHERE WHAT IT READS IS OF BULK AT MOST 1048576: true; the input reads as it did. -/
def methodArgsUptoRow : OpenClaim := { program := "ytmpfkommeakgbaadoor", sum := "d62eff4d984a7a72b3e349a7f536bc0199a7d990e740fc078a0f725f074d6a66", func := "interchange/interchangelaw06.MethodArgs", spec := "methodArgs", inPlace := ["internal/abi.NoEscape"], unfollowed := true, recurses := true, named := ["interchange/num.widths"], apart := false, laid := [("interchange/num.widths", laid_interchange_num_widths)], narrowed := true }
def MethodArgsUptoSaid : Prop := methodArgsUptoRow.holds Tryd.pinned (OpenSpec.upto methodArgsSpec)

/-- 'interchangelaw06.MethodBack', WHERE WHAT IT READS IS OF BULK AT MOST 1048576: true; the input reads as it did. -/
def methodBackUptoRow : OpenClaim := { program := "ytmpfkommeakgbaadoor", sum := "d62eff4d984a7a72b3e349a7f536bc0199a7d990e740fc078a0f725f074d6a66", func := "interchange/interchangelaw06.MethodBack", spec := "methodBack", inPlace := ["internal/abi.NoEscape", "internal/bytealg.IndexByteString", "internal/bytealg.IndexString"], unfollowed := true, recurses := true, named := ["interchange/num.widths", "unicode/utf8.first", "unicode/utf8.acceptRanges", "internal/bytealg.MaxLen"], apart := false, laid := [("interchange/num.widths", laid_interchange_num_widths), ("unicode/utf8.acceptRanges", laid_unicode_utf8_acceptRanges), ("unicode/utf8.first", laid_unicode_utf8_first)], narrowed := true }
def MethodBackUptoSaid : Prop := methodBackUptoRow.holds Tryd.pinned (OpenSpec.upto methodBackSpec)

/-- 'interchangelaw06.MethodCut', WHERE WHAT IT READS IS OF BULK AT MOST 1048576: true; the input reads as it did. -/
def methodCutUptoRow : OpenClaim := { program := "ytmpfkommeakgbaadoor", sum := "d62eff4d984a7a72b3e349a7f536bc0199a7d990e740fc078a0f725f074d6a66", func := "interchange/interchangelaw06.MethodCut", spec := "methodCut", inPlace := ["internal/abi.NoEscape", "internal/bytealg.IndexByteString", "internal/bytealg.IndexString"], unfollowed := true, recurses := true, named := ["interchange/num.widths", "unicode/utf8.first", "unicode/utf8.acceptRanges", "internal/bytealg.MaxLen"], apart := false, laid := [("interchange/num.widths", laid_interchange_num_widths), ("unicode/utf8.acceptRanges", laid_unicode_utf8_acceptRanges), ("unicode/utf8.first", laid_unicode_utf8_first)], narrowed := true }
def MethodCutUptoSaid : Prop := methodCutUptoRow.holds Tryd.pinned (OpenSpec.upto methodCutSpec)

/-- 'interchangelaw06.MethodOne', WHERE WHAT IT READS IS OF BULK AT MOST 1048576: true; the input reads as it did. -/
def methodOneUptoRow : OpenClaim := { program := "ytmpfkommeakgbaadoor", sum := "d62eff4d984a7a72b3e349a7f536bc0199a7d990e740fc078a0f725f074d6a66", func := "interchange/interchangelaw06.MethodOne", spec := "methodOne", inPlace := ["internal/abi.NoEscape"], unfollowed := true, recurses := true, named := ["interchange/num.widths"], apart := false, laid := [("interchange/num.widths", laid_interchange_num_widths)], narrowed := true }
def MethodOneUptoSaid : Prop := methodOneUptoRow.holds Tryd.pinned (OpenSpec.upto methodOneSpec)

/-- 'interchangelaw06.MethodNone', WHERE WHAT IT READS IS OF BULK AT MOST 1048576: true; the input reads as it did. -/
def methodNoneUptoRow : OpenClaim := { program := "ytmpfkommeakgbaadoor", sum := "d62eff4d984a7a72b3e349a7f536bc0199a7d990e740fc078a0f725f074d6a66", func := "interchange/interchangelaw06.MethodNone", spec := "methodNone", inPlace := ["internal/abi.NoEscape"], unfollowed := true, recurses := true, named := ["interchange/num.widths"], apart := false, laid := [("interchange/num.widths", laid_interchange_num_widths)], narrowed := true }
def MethodNoneUptoSaid : Prop := methodNoneUptoRow.holds Tryd.pinned (OpenSpec.upto methodNoneSpec)

/-- 'interchangelaw06.MethodApart', WHERE WHAT IT READS IS OF BULK AT MOST 1048576: true; the input reads as it did. -/
def methodApartUptoRow : OpenClaim := { program := "ytmpfkommeakgbaadoor", sum := "d62eff4d984a7a72b3e349a7f536bc0199a7d990e740fc078a0f725f074d6a66", func := "interchange/interchangelaw06.MethodApart", spec := "methodApart", inPlace := ["internal/abi.NoEscape"], unfollowed := true, recurses := true, named := ["interchange/num.widths"], apart := false, laid := [("interchange/num.widths", laid_interchange_num_widths)], narrowed := true }
def MethodApartUptoSaid : Prop := methodApartUptoRow.holds Tryd.pinned (OpenSpec.upto methodApartSpec)

/-- 'interchangelaw06.MethodArg', WHERE WHAT IT READS IS OF BULK AT MOST 1048576: true; the input reads as it did. -/
def methodArgUptoRow : OpenClaim := { program := "ytmpfkommeakgbaadoor", sum := "d62eff4d984a7a72b3e349a7f536bc0199a7d990e740fc078a0f725f074d6a66", func := "interchange/interchangelaw06.MethodArg", spec := "methodArg", inPlace := ["internal/abi.NoEscape"], unfollowed := true, recurses := true, named := ["interchange/num.widths"], apart := false, laid := [("interchange/num.widths", laid_interchange_num_widths)], narrowed := true }
def MethodArgUptoSaid : Prop := methodArgUptoRow.holds Tryd.pinned (OpenSpec.upto methodArgSpec)

end Rows
end Go.Proofs.YtmpfkommeakgbaaDoor
