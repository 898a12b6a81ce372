/-
  TextLays: texts' bytes, and the texts of bytes, are as the document says: the walk of the law. Conditions: the package num's table of widths holds 1, 2, 4, 8; a text has fewer than 2^62 bytes.
-/
import Derived.Test.YtnaplfekhjjknaaDoorWTextShown
import Derived.Test.YtnaplfekhjjknaaDoorRText
namespace Go.Proofs.YtnaplfekhjjknaaDoor
open Go.RowKit

set_option maxHeartbeats 400000 in
theorem textLays_any (s : ByteArray) (w : World) (hw : Wid w) (hs : s.size < 4611686018427387904) :
    Calls Tryd.prog 3 #[.string s] w fun e w' => e = .returned (.bool true) ∧ Below w.heap.size w w' := by
  go_enter Tryd.func3, Tryd.ntmps3
  go_wp2_with fail
  refine (tshown_any w hw).mono ?_
  rintro e w1 ⟨rfl, hb1⟩
  have hw1 := hw.below hb1
  clear hw
  go_wp2_with fail
  refine (short_any s w1 hw1 hs).mono ?_
  rintro e w2 ⟨rfl, hb2⟩
  have hw2 := hw1.below hb2
  have hb2 := hb1.trans (hb2.mono hb1.size)
  clear hb1 hw1
  go_wp2_with fail
  refine (rshort_any s w2 hs).mono ?_
  rintro e w3 ⟨rfl, hb3⟩
  have hw3 := hw2.below hb3
  have hb3 := hb2.trans (hb3.mono hb2.size)
  clear hb2 hw2
  go_wp2_with fail
  refine (long_any s w3 hw3 hs).mono ?_
  rintro e w4 ⟨rfl, hb4⟩
  have hw4 := hw3.below hb4
  have hb4 := hb3.trans (hb4.mono hb3.size)
  clear hb3 hw3
  go_wp2_with fail
  refine (rlong_any s w4 hs).mono ?_
  rintro e w5 ⟨rfl, hb5⟩
  have hw5 := hw4.below hb5
  have hb5 := hb4.trans (hb5.mono hb4.size)
  clear hb4 hw4
  go_wp2_with fail
  refine (takeShort_any s w5 hw5 hs).mono ?_
  rintro e w6 ⟨rfl, hb6⟩
  have hw6 := hw5.below hb6
  have hb6 := hb5.trans (hb6.mono hb5.size)
  clear hb5 hw5
  go_wp2_with fail
  refine (rtakeShort_any s w6 hs).mono ?_
  rintro e w7 ⟨rfl, hb7⟩
  have hw7 := hw6.below hb7
  have hb7 := hb6.trans (hb7.mono hb6.size)
  clear hb6 hw6
  go_wp2_with fail
  refine (takeLong_any s w7 hw7 hs).mono ?_
  rintro e w8 ⟨rfl, hb8⟩
  have hb8 := hb7.trans (hb8.mono hb7.size)
  clear hb7 hw7
  go_wp2_with fail
  refine (rtakeLong_any s w8 hs).mono ?_
  rintro e w9 ⟨rfl, hb9⟩
  have hb9 := hb8.trans (hb9.mono hb8.size)
  clear hb8
  go_wp2
  go_ret
  exact ⟨rfl, hb9⟩
end Go.Proofs.YtnaplfekhjjknaaDoor
