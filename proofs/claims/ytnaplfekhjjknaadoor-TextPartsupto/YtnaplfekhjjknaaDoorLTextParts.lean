/-
  TextParts: names, pieces, and what PLAIN answers, are as the document says: the walk of the law. Conditions: the package num's table of widths holds 1, 2, 4, 8; a text of at most 1048576 bytes.
-/
import Derived.Test.YtnaplfekhjjknaaDoorWTextShown
import Derived.Test.YtnaplfekhjjknaaDoorRName
import Derived.Test.YtnaplfekhjjknaaDoorRPairs
import Derived.Test.YtnaplfekhjjknaaDoorRStrings
namespace Go.Proofs.YtnaplfekhjjknaaDoor
open Go.RowKit

set_option maxHeartbeats 1000000 in
theorem textParts_any (s : ByteArray) (n : Int) (w : World) (hw : Wid w) (hs : s.size ≤ 1048576) :
    Calls Tryd.prog 4 #[.string s, .int .i64 n] w fun e w' => e = .returned (.bool true) ∧ Below w.heap.size w w' := by
  have hlen : (cutL (pieceLen n) s).length < 1125899906842624 := by have := cutL_le (n := pieceLen n) (by unfold pieceLen; omega) s; omega
  go_enter Tryd.func4, Tryd.ntmps4
  go_wp2_with fail
  refine (tshown_any w hw).mono ?_
  rintro e w1 ⟨rfl, hb1⟩
  clear hw
  go_wp2_with fail
  refine (pairs_any s w1 (by omega)).mono ?_
  rintro e w2 ⟨rfl, hb2⟩
  have hb2 := hb1.trans (hb2.mono hb1.size)
  clear hb1
  go_wp2_with fail
  refine (rpairs_any s w2 hs).mono ?_
  rintro e w3 ⟨rfl, hb3⟩
  have hb3 := hb2.trans (hb3.mono hb2.size)
  clear hb2
  go_wp2_with fail
  refine (tcut_any s n hs w3).mono ?_
  rintro e w4 ⟨v, rfl, hown, hb4⟩
  obtain ⟨A, ca, rfl, hA⟩ := vals_of_row hown
  have hb4 := hb3.trans (hb4.mono hb3.size)
  clear hb3 hown
  go_wp2_with fail
  refine (rcut_any s n hs w4).mono ?_
  rintro e w5 ⟨v, rfl, hown, hb5⟩
  obtain ⟨B, cb, rfl, hB⟩ := vals_of_row hown
  have hA := hA.below hb5
  have hb5 := hb4.trans (hb5.mono hb4.size)
  clear hb4 hown
  generalize cutL (pieceLen n) s = l at hlen hA hB ⊢
  go_wp2_with fail
  refine (strings_same A B ca cb l w5 hlen hA hB).mono ?_
  rintro e w6 ⟨rfl, hb6⟩
  have hb6 := hb5.trans (hb6.mono hb5.size)
  clear hb5 hA hB
  go_wp2_with fail
  refine (name_any s w6).mono ?_
  rintro e w7 ⟨rfl, hb7⟩
  have hb7 := hb6.trans (hb7.mono hb6.size)
  clear hb6
  go_wp2_with fail
  refine (rname_any s w7).mono ?_
  rintro e w8 ⟨rfl, hb8⟩
  have hb8 := hb7.trans (hb8.mono hb7.size)
  clear hb7
  generalize nameOk s = x
  generalize pairA s = y
  generalize pairB s = z
  generalize pairOk s = u
  go_wp2
  go_ret
  exact ⟨rfl, hb8⟩
end Go.Proofs.YtnaplfekhjjknaaDoor
