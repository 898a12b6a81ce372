/-
  NARROWER THAN 'FOR EVERY INPUT', by the rows' own cells (each row's printed sentence says how): ContentFeeds: laid · ContentBack: laid · ContentOnly: laid · ContentTwo: laid.
  DERIVED. THE GIVEN ROWS OF THIS SEAT. 4 by the template 'for every input the law returns true; each argument reads behind the call as it read before'; 0 by the template 'total and deterministic' (their statements: YtllgkohgcicbhaaGreatDoorTotals.lean).
  GIVEN WITH THE SEED: the statements are not yours to turn. If you find one false, say at which input.
  Laid BY PROGRAM, IN A SANDBOX (cutbox-rows.mjs): the forced cells as the released guide's own fill.sh prints them over the translation f9ae12b73d7d5169… (all of the seat's roots in one cut). By AI agents, Wed Nov 11 2026. No macro, syntax, notation, axiom, sorry.
-/
import Derived.Test.YtllgkohgcicbhaaGreatDoorChecked
import GoSem.PinnedTables
import GoSem.Claim
import GoSem.ClaimJoined
import GoSem.ClaimMapViews
import Derived.JoinedTies
import Derived.KernelRfl
namespace Go.Proofs.YtllgkohgcicbhaaGreatDoor
/- THE CELL 'sum', in the pinned program and in every row, IS THE sha256 OF THE DUMP (.gsa) THAT YtllgkohgcicbhaaGreatDoorProg.lean LOADS. Nothing in Lean hashes anything: it is a label: what it is worth is what the hold of that sum in a sandbox is worth. -/
noncomputable def Tryz.pinned : Pinned := { name := "ytllgkohgcicbhaagreatdoor", sum := "f9ae12b73d7d51697f8a26a1bf0edbd70b09a3616e54781059c0072c8ad883f4", checked := Tryz.checked }
namespace Rows
def none {H : Type} : Left H := { results := [], args := [] }

/- WHAT THE LISTED PACKAGE-LEVEL VARIABLES READ AS WHEN THE CALL BEGINS. Each datum BY PROGRAM (the guide's laid-datum.mjs) off the statement by which the dump's own 'gosem.cut.vars' lays the variable. In a bare row this is a premise. The card (YtllgkohgcicbhaaGreatDoorCards.lean) ties it to the program's text. -/
def laid_interchange_num_widths {H : Type} : DataW H := .agg [.lit (.int .i64 1), .lit (.int .i64 2), .lit (.int .i64 4), .lit (.int .i64 8)]
def laid_interchange_sig_contents {H : Type} : DataW H := .agg [.agg [.lit (.int .i64 60), .lit (.int .i64 40)], .agg [.lit (.int .i64 60), .lit (.int .i64 50)], .agg [.lit (.int .i64 60), .lit (.int .i64 60)], .agg [.lit (.int .i64 60), .lit (.int .i64 71)]]
def laid_unicode_utf8_acceptRanges {H : Type} : DataW H := .agg [.agg [.lit (.int .u8 128), .lit (.int .u8 191)], .agg [.lit (.int .u8 160), .lit (.int .u8 191)], .agg [.lit (.int .u8 128), .lit (.int .u8 159)], .agg [.lit (.int .u8 144), .lit (.int .u8 191)], .agg [.lit (.int .u8 128), .lit (.int .u8 143)], .agg [.lit (.int .u8 0), .lit (.int .u8 0)], .agg [.lit (.int .u8 0), .lit (.int .u8 0)], .agg [.lit (.int .u8 0), .lit (.int .u8 0)], .agg [.lit (.int .u8 0), .lit (.int .u8 0)], .agg [.lit (.int .u8 0), .lit (.int .u8 0)], .agg [.lit (.int .u8 0), .lit (.int .u8 0)], .agg [.lit (.int .u8 0), .lit (.int .u8 0)], .agg [.lit (.int .u8 0), .lit (.int .u8 0)], .agg [.lit (.int .u8 0), .lit (.int .u8 0)], .agg [.lit (.int .u8 0), .lit (.int .u8 0)], .agg [.lit (.int .u8 0), .lit (.int .u8 0)]]
/-- One of Go's own tables, pinned by name: the form's constant. -/
def laid_unicode_utf8_first : DataW Unit := Go.Pinned.utf8First

/-- 'interchangelaw08.ContentFeeds': WHATEVER THE INPUT: true; the input reads as it did. -/
def contentFeedsSpec : ChangeSpec := { name := "contentFeeds", fn := fun _ => fun
  | [d] => { results := [.lit (.bool true)], args := [d] }
  | _ => none }
def contentFeedsRow : OpenClaim := { program := "ytllgkohgcicbhaagreatdoor", sum := "f9ae12b73d7d51697f8a26a1bf0edbd70b09a3616e54781059c0072c8ad883f4", func := "interchange/interchangelaw08.ContentFeeds", spec := "contentFeeds", inPlace := ["internal/abi.NoEscape", "internal/bytealg.IndexByteString", "internal/bytealg.IndexString"], unfollowed := true, recurses := true, named := ["interchange/num.widths", "interchange/sig.contents", "unicode/utf8.first", "unicode/utf8.acceptRanges", "internal/bytealg.MaxLen"], apart := false, laid := [("interchange/num.widths", laid_interchange_num_widths), ("interchange/sig.contents", laid_interchange_sig_contents), ("unicode/utf8.acceptRanges", laid_unicode_utf8_acceptRanges), ("unicode/utf8.first", laid_unicode_utf8_first)] }
def ContentFeedsSaid : Prop := contentFeedsRow.holds Tryz.pinned (OpenSpec.ofChange contentFeedsSpec)

/-- ITS FALSE NEIGHBOUR: 'it returns false'. Refute it at one input. -/
def contentFeedsWrong : ChangeSpec := { name := "contentFeeds", fn := fun _ => fun
  | [d] => { results := [.lit (.bool false)], args := [d] }
  | _ => none }
def ContentFeedsWrongFalsely : Prop := contentFeedsRow.holds Tryz.pinned (OpenSpec.ofChange contentFeedsWrong)

/-- 'interchangelaw08.ContentBack': WHATEVER THE INPUT: true; the input reads as it did. -/
def contentBackSpec : ChangeSpec := { name := "contentBack", fn := fun _ => fun
  | [d1, d2, d3] => { results := [.lit (.bool true)], args := [d1, d2, d3] }
  | _ => none }
def contentBackRow : OpenClaim := { program := "ytllgkohgcicbhaagreatdoor", sum := "f9ae12b73d7d51697f8a26a1bf0edbd70b09a3616e54781059c0072c8ad883f4", func := "interchange/interchangelaw08.ContentBack", spec := "contentBack", inPlace := ["internal/abi.NoEscape", "internal/bytealg.IndexByteString", "internal/bytealg.IndexString"], unfollowed := true, recurses := true, named := ["interchange/num.widths", "interchange/sig.contents", "unicode/utf8.first", "unicode/utf8.acceptRanges", "internal/bytealg.MaxLen"], apart := false, laid := [("interchange/num.widths", laid_interchange_num_widths), ("interchange/sig.contents", laid_interchange_sig_contents), ("unicode/utf8.acceptRanges", laid_unicode_utf8_acceptRanges), ("unicode/utf8.first", laid_unicode_utf8_first)] }
def ContentBackSaid : Prop := contentBackRow.holds Tryz.pinned (OpenSpec.ofChange contentBackSpec)

/-- ITS FALSE NEIGHBOUR: 'it returns false'. Refute it at one input. -/
def contentBackWrong : ChangeSpec := { name := "contentBack", fn := fun _ => fun
  | [d1, d2, d3] => { results := [.lit (.bool false)], args := [d1, d2, d3] }
  | _ => none }
def ContentBackWrongFalsely : Prop := contentBackRow.holds Tryz.pinned (OpenSpec.ofChange contentBackWrong)

/-- 'interchangelaw08.ContentOnly': WHATEVER THE INPUT: true; the input reads as it did. -/
def contentOnlySpec : ChangeSpec := { name := "contentOnly", fn := fun _ => fun
  | [d] => { results := [.lit (.bool true)], args := [d] }
  | _ => none }
def contentOnlyRow : OpenClaim := { program := "ytllgkohgcicbhaagreatdoor", sum := "f9ae12b73d7d51697f8a26a1bf0edbd70b09a3616e54781059c0072c8ad883f4", func := "interchange/interchangelaw08.ContentOnly", spec := "contentOnly", inPlace := ["internal/abi.NoEscape", "internal/bytealg.IndexByteString", "internal/bytealg.IndexString"], unfollowed := true, recurses := true, named := ["interchange/num.widths", "interchange/sig.contents", "unicode/utf8.first", "unicode/utf8.acceptRanges", "internal/bytealg.MaxLen"], apart := false, laid := [("interchange/num.widths", laid_interchange_num_widths), ("interchange/sig.contents", laid_interchange_sig_contents), ("unicode/utf8.acceptRanges", laid_unicode_utf8_acceptRanges), ("unicode/utf8.first", laid_unicode_utf8_first)] }
def ContentOnlySaid : Prop := contentOnlyRow.holds Tryz.pinned (OpenSpec.ofChange contentOnlySpec)

/-- ITS FALSE NEIGHBOUR: 'it returns false'. Refute it at one input. -/
def contentOnlyWrong : ChangeSpec := { name := "contentOnly", fn := fun _ => fun
  | [d] => { results := [.lit (.bool false)], args := [d] }
  | _ => none }
def ContentOnlyWrongFalsely : Prop := contentOnlyRow.holds Tryz.pinned (OpenSpec.ofChange contentOnlyWrong)

/-- 'interchangelaw08.ContentTwo': WHATEVER THE INPUT: true; the input reads as it did. -/
def contentTwoSpec : ChangeSpec := { name := "contentTwo", fn := fun _ => fun
  | [d1, d2] => { results := [.lit (.bool true)], args := [d1, d2] }
  | _ => none }
def contentTwoRow : OpenClaim := { program := "ytllgkohgcicbhaagreatdoor", sum := "f9ae12b73d7d51697f8a26a1bf0edbd70b09a3616e54781059c0072c8ad883f4", func := "interchange/interchangelaw08.ContentTwo", spec := "contentTwo", inPlace := ["internal/abi.NoEscape", "internal/bytealg.IndexByteString", "internal/bytealg.IndexString"], unfollowed := true, recurses := true, named := ["interchange/num.widths", "interchange/sig.contents", "unicode/utf8.first", "unicode/utf8.acceptRanges", "internal/bytealg.MaxLen"], apart := false, laid := [("interchange/num.widths", laid_interchange_num_widths), ("interchange/sig.contents", laid_interchange_sig_contents), ("unicode/utf8.acceptRanges", laid_unicode_utf8_acceptRanges), ("unicode/utf8.first", laid_unicode_utf8_first)] }
def ContentTwoSaid : Prop := contentTwoRow.holds Tryz.pinned (OpenSpec.ofChange contentTwoSpec)

/-- ITS FALSE NEIGHBOUR: 'it returns false'. Refute it at one input. -/
def contentTwoWrong : ChangeSpec := { name := "contentTwo", fn := fun _ => fun
  | [d1, d2] => { results := [.lit (.bool false)], args := [d1, d2] }
  | _ => none }
def ContentTwoWrongFalsely : Prop := contentTwoRow.holds Tryz.pinned (OpenSpec.ofChange contentTwoWrong)

/- THE SECOND FORM. 'bulk': how many values and letters a reading holds, each counted each time it is reached (what is shared counts as often as it is met; a slice's spare places count too). A statement '..UptoSaid' is the law's where the arguments, and the package variables that the reading takes, are together of bulk at most 1048576: NARROWER than '..Said'. Prove '..Said' where nothing that the law and all that it calls make is longer than what came in: it says more and counts as full. Else prove '..UptoSaid'. A law counts once. -/
mutual
def uptoBulk {H : Type} : DataW H → Nat
  | .lit (.string bytes) => bytes.length + 1
  | .lit _ => 1
  | .nil => 1
  | .ptr d => uptoBulk d + 1
  | .slice elems spare => uptoBulkAll elems + uptoBulkAll spare + 1
  | .agg parts => uptoBulkAll parts + 1
  | .iface _ d => uptoBulk d + 1
  | .map entries => uptoBulkEntries entries + 1
  | .held _ => 1
def uptoBulkAll {H : Type} : List (DataW H) → Nat
  | [] => 0
  | d :: r => uptoBulk d + uptoBulkAll r
def uptoBulkEntries {H : Type} : List (Lit × DataW H) → Nat
  | [] => 0
  | x :: r => uptoBulkEntry x + uptoBulkEntries r
def uptoBulkEntry {H : Type} : Lit × DataW H → Nat
  | (.string bytes, d) => bytes.length + uptoBulk d + 1
  | (_, d) => uptoBulk d + 1
 end
def uptoSmall : (H : Type) → List (DataW H) → Bool := fun _ ds => decide (uptoBulkAll ds ≤ 1048576)
def OpenSpec.upto (s : _root_.Go.ChangeSpec) : _root_.Go.OpenSpec := { _root_.Go.OpenSpec.ofChange s with cond := some uptoSmall }

/-- 'interchangelaw08.ContentFeeds', WHERE WHAT IT READS IS OF BULK AT MOST 1048576: true; the input reads as it did. -/
def contentFeedsUptoRow : OpenClaim := { program := "ytllgkohgcicbhaagreatdoor", sum := "f9ae12b73d7d51697f8a26a1bf0edbd70b09a3616e54781059c0072c8ad883f4", func := "interchange/interchangelaw08.ContentFeeds", spec := "contentFeeds", inPlace := ["internal/abi.NoEscape", "internal/bytealg.IndexByteString", "internal/bytealg.IndexString"], unfollowed := true, recurses := true, named := ["interchange/num.widths", "interchange/sig.contents", "unicode/utf8.first", "unicode/utf8.acceptRanges", "internal/bytealg.MaxLen"], apart := false, laid := [("interchange/num.widths", laid_interchange_num_widths), ("interchange/sig.contents", laid_interchange_sig_contents), ("unicode/utf8.acceptRanges", laid_unicode_utf8_acceptRanges), ("unicode/utf8.first", laid_unicode_utf8_first)], narrowed := true }
def ContentFeedsUptoSaid : Prop := contentFeedsUptoRow.holds Tryz.pinned (OpenSpec.upto contentFeedsSpec)

/-- 'interchangelaw08.ContentBack', WHERE WHAT IT READS IS OF BULK AT MOST 1048576: true; the input reads as it did. -/
def contentBackUptoRow : OpenClaim := { program := "ytllgkohgcicbhaagreatdoor", sum := "f9ae12b73d7d51697f8a26a1bf0edbd70b09a3616e54781059c0072c8ad883f4", func := "interchange/interchangelaw08.ContentBack", spec := "contentBack", inPlace := ["internal/abi.NoEscape", "internal/bytealg.IndexByteString", "internal/bytealg.IndexString"], unfollowed := true, recurses := true, named := ["interchange/num.widths", "interchange/sig.contents", "unicode/utf8.first", "unicode/utf8.acceptRanges", "internal/bytealg.MaxLen"], apart := false, laid := [("interchange/num.widths", laid_interchange_num_widths), ("interchange/sig.contents", laid_interchange_sig_contents), ("unicode/utf8.acceptRanges", laid_unicode_utf8_acceptRanges), ("unicode/utf8.first", laid_unicode_utf8_first)], narrowed := true }
def ContentBackUptoSaid : Prop := contentBackUptoRow.holds Tryz.pinned (OpenSpec.upto contentBackSpec)

/-- 'interchangelaw08.ContentOnly', WHERE WHAT IT READS IS OF BULK AT MOST 1048576: true; the input reads as it did. -/
def contentOnlyUptoRow : OpenClaim := { program := "ytllgkohgcicbhaagreatdoor", sum := "f9ae12b73d7d51697f8a26a1bf0edbd70b09a3616e54781059c0072c8ad883f4", func := "interchange/interchangelaw08.ContentOnly", spec := "contentOnly", inPlace := ["internal/abi.NoEscape", "internal/bytealg.IndexByteString", "internal/bytealg.IndexString"], unfollowed := true, recurses := true, named := ["interchange/num.widths", "interchange/sig.contents", "unicode/utf8.first", "unicode/utf8.acceptRanges", "internal/bytealg.MaxLen"], apart := false, laid := [("interchange/num.widths", laid_interchange_num_widths), ("interchange/sig.contents", laid_interchange_sig_contents), ("unicode/utf8.acceptRanges", laid_unicode_utf8_acceptRanges), ("unicode/utf8.first", laid_unicode_utf8_first)], narrowed := true }
def ContentOnlyUptoSaid : Prop := contentOnlyUptoRow.holds Tryz.pinned (OpenSpec.upto contentOnlySpec)

/-- 'interchangelaw08.ContentTwo', WHERE WHAT IT READS IS OF BULK AT MOST 1048576: true; the input reads as it did. -/
def contentTwoUptoRow : OpenClaim := { program := "ytllgkohgcicbhaagreatdoor", sum := "f9ae12b73d7d51697f8a26a1bf0edbd70b09a3616e54781059c0072c8ad883f4", func := "interchange/interchangelaw08.ContentTwo", spec := "contentTwo", inPlace := ["internal/abi.NoEscape", "internal/bytealg.IndexByteString", "internal/bytealg.IndexString"], unfollowed := true, recurses := true, named := ["interchange/num.widths", "interchange/sig.contents", "unicode/utf8.first", "unicode/utf8.acceptRanges", "internal/bytealg.MaxLen"], apart := false, laid := [("interchange/num.widths", laid_interchange_num_widths), ("interchange/sig.contents", laid_interchange_sig_contents), ("unicode/utf8.acceptRanges", laid_unicode_utf8_acceptRanges), ("unicode/utf8.first", laid_unicode_utf8_first)], narrowed := true }
def ContentTwoUptoSaid : Prop := contentTwoUptoRow.holds Tryz.pinned (OpenSpec.upto contentTwoSpec)

end Rows
end Go.Proofs.YtllgkohgcicbhaaGreatDoor
