/-
  TextTwo: two texts, a short one and a long one, are taken one behind the other: the walk of the law. Conditions: the package num's table of widths holds 1, 2, 4, 8; the first text has fewer than 2^60 bytes, the second one fewer than 2^32.
-/
import Derived.Test.YtnaplfekhjjknaaDoorWTextShown
namespace Go.Proofs.YtnaplfekhjjknaaDoor
open Go.RowKit

set_option maxHeartbeats 1000000 in
theorem textTwo_any (s t : ByteArray) (w : World) (hw : Wid w) (hs : s.size < 1152921504606846976) (ht : t.size < 4294967296) :
    Calls Tryd.prog 9 #[.string s, .string t] w fun e w' => e = .returned (.bool true) ∧ Below w.heap.size w w' := by
  have ok4 : layOk 4 t = true := by rw [layOk_four]; simpa using ht
  obtain ⟨k1, k2, k3⟩ := tt_lay ok4 ByteArray.empty
  rw [ByteArray.append_empty] at k1 k2 k3
  have k3 : ttR 4 (layR 4 t) = ⟨#[]⟩ := k3
  have r1 := layR_le 1 s
  have r4 := layR_le 4 t
  have z1 : (layR 1 s).size + (layR 4 t).size ≤ 9223372036854775807 := by omega
  have z1' : (layR 1 s ++ layR 4 t).size < 4611686018427387904 := by rw [ByteArray.size_append]; omega
  clear ok4
  go_enter Tryd.func9, Tryd.ntmps9
  go_wp2_with fail
  refine (tshown_any w hw).mono ?_
  rintro e w1 ⟨rfl, hb1⟩
  have hw1 := hw.below hb1
  clear hw
  go_wp2_with fail
  refine (short_any s w1 hw1 (by omega)).mono ?_
  rintro e w2 ⟨rfl, hb2⟩
  have hw2 := hw1.below hb2
  have hb2 := hb1.trans (hb2.mono hb1.size)
  clear hb1 hw1
  go_wp2_with fail
  refine (long_any t w2 hw2 (by omega)).mono ?_
  rintro e w3 ⟨rfl, hb3⟩
  have hw3 := hw2.below hb3
  have hb3 := hb2.trans (hb3.mono hb2.size)
  clear hb2 hw2
  cases h1 : layOk 1 s
  · obtain ⟨t1, -⟩ := layE_not h1
    clear h1 k1 k2 k3
    go_wp2
    go_ret
    exact ⟨rfl, hb3⟩
  · obtain ⟨g1, g2, g3⟩ := tt_lay h1 (layR 4 t)
    rw [layE_of h1]
    clear h1
    go_wp2_with fail
    refine (takeShort_any _ w3 hw3 z1').mono ?_
    rintro e w4 ⟨rfl, hb4⟩
    have hw4 := hw3.below hb4
    have hb4 := hb3.trans (hb4.mono hb3.size)
    clear hb3 hw3
    rw [g1, g2, g3]
    clear g1 g2 g3
    go_wp2_with fail
    refine (takeLong_any _ w4 hw4 (by omega)).mono ?_
    rintro e w5 ⟨rfl, hb5⟩
    have hb5 := hb4.trans (hb5.mono hb4.size)
    clear hb4 hw4
    rw [k1, k2, k3]
    clear k1 k2 k3
    go_wp2
    go_ret
    exact ⟨rfl, hb5⟩
end Go.Proofs.YtnaplfekhjjknaaDoor
