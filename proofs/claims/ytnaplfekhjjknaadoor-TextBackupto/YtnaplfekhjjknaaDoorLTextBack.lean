/-
  TextBack: what was laid is taken, whatever stands behind it; what is taken is laid as it was: the walk of the law. Conditions: the package num's table of widths holds 1, 2, 4, 8; the first text has fewer than 2^32 bytes, the others fewer than 2^60.
-/
import Derived.Test.YtnaplfekhjjknaaDoorWTextShown
namespace Go.Proofs.YtnaplfekhjjknaaDoor
open Go.RowKit

set_option maxHeartbeats 1000000 in
theorem textBack_any (s more t : ByteArray) (w : World) (hw : Wid w) (hs : s.size < 4294967296) (hm : more.size < 1152921504606846976) (ht : t.size < 1152921504606846976) :
    Calls Tryd.prog 5 #[.string s, .string more, .string t] w fun e w' => e = .returned (.bool true) ∧ Below w.heap.size w w' := by
  have r1 := layR_le 1 s
  have r4 := layR_le 4 s
  have z1 : (layR 1 s).size + more.size ≤ 9223372036854775807 := by omega
  have z4 : (layR 4 s).size + more.size ≤ 9223372036854775807 := by omega
  have z4' : (layR 4 s ++ more).size < 4611686018427387904 := by rw [ByteArray.size_append]; omega
  have z1' : (layR 1 s ++ more).size < 4611686018427387904 := by rw [ByteArray.size_append]; omega
  have ok4 : layOk 4 s = true := by rw [layOk_four]; simpa using hs
  obtain ⟨k1, k2, k3⟩ := tt_lay ok4 more
  have zv : (ttA 1 t).size < 4611686018427387904 := by have := ttA_le 1 t; omega
  have zc : (layR 1 (ttA 1 t)).size + (ttR 1 t).size ≤ 9223372036854775807 := by have := ttA_le 1 t; have := ttR_le 1 t; have := layR_le 1 (ttA 1 t); omega
  clear r1 r4
  go_enter Tryd.func5, Tryd.ntmps5
  go_wp2_with fail
  refine (tshown_any w hw).mono ?_
  rintro e w1 ⟨rfl, hb1⟩
  have hw1 := hw.below hb1
  clear hw
  go_wp2_with fail
  refine (short_any s w1 hw1 (by omega)).mono ?_
  rintro e w2 ⟨rfl, hb2⟩
  have hw2 := hw1.below hb2
  have hb2 := hb1.trans (hb2.mono hb1.size)
  clear hb1 hw1
  cases h1 : layOk 1 s
  · obtain ⟨-, t1⟩ := layE_not h1
    clear z1 z1'
    go_wp2_with fail
    refine (long_any s w2 hw2 (by omega)).mono ?_
    rintro e w3 ⟨rfl, hb3⟩
    have hw3 := hw2.below hb3
    have hb3 := hb2.trans (hb3.mono hb2.size)
    clear hb2 hw2
    go_wp2_with fail
    refine (takeLong_any _ w3 hw3 z4').mono ?_
    rintro e w4 ⟨rfl, hb4⟩
    have hw4 := hw3.below hb4
    have hb4 := hb3.trans (hb4.mono hb3.size)
    clear hb3 hw3
    rw [k1, k2, k3]
    clear k1 k2 k3
    go_wp2_with fail
    refine (takeShort_any t w4 hw4 (by omega)).mono ?_
    rintro e w5 ⟨rfl, hb5⟩
    have hw5 := hw4.below hb5
    have hb5 := hb4.trans (hb5.mono hb4.size)
    clear hb4 hw4
    go_wp2_with fail
    refine (short_any _ w5 hw5 zv).mono ?_
    rintro e w6 ⟨rfl, hb6⟩
    have hb6 := hb5.trans (hb6.mono hb5.size)
    clear hb5 hw5
    cases h2 : ttOk 1 t
    · obtain ⟨t2, -⟩ := ttE_not h2
      clear h2
      go_wp2
      go_ret
      exact ⟨rfl, hb6⟩
    · obtain ⟨l1, l2⟩ := lay_tt h2
      rw [ttE_of h2, layE_of l1]
      have H := Lib.hid l2
      clear h2 l1 l2
      go_wp2
      go_ret
      exact ⟨by simp [H.out], hb6⟩
  · obtain ⟨g1, g2, g3⟩ := tt_lay h1 more
    rw [layE_of h1]
    clear h1
    go_wp2_with fail
    refine (takeShort_any _ w2 hw2 z1').mono ?_
    rintro e w2x ⟨rfl, hb2x⟩
    have hw2x := hw2.below hb2x
    have hb2x := hb2.trans (hb2x.mono hb2.size)
    clear hb2 hw2
    rw [g1, g2, g3]
    clear g1 g2 g3
    go_wp2_with fail
    refine (long_any s w2x hw2x (by omega)).mono ?_
    rintro e w3 ⟨rfl, hb3⟩
    have hw3 := hw2x.below hb3
    have hb3 := hb2x.trans (hb3.mono hb2x.size)
    clear hb2x hw2x
    go_wp2_with fail
    refine (takeLong_any _ w3 hw3 z4').mono ?_
    rintro e w4 ⟨rfl, hb4⟩
    have hw4 := hw3.below hb4
    have hb4 := hb3.trans (hb4.mono hb3.size)
    clear hb3 hw3
    rw [k1, k2, k3]
    clear k1 k2 k3
    go_wp2_with fail
    refine (takeShort_any t w4 hw4 (by omega)).mono ?_
    rintro e w5 ⟨rfl, hb5⟩
    have hw5 := hw4.below hb5
    have hb5 := hb4.trans (hb5.mono hb4.size)
    clear hb4 hw4
    go_wp2_with fail
    refine (short_any _ w5 hw5 zv).mono ?_
    rintro e w6 ⟨rfl, hb6⟩
    have hb6 := hb5.trans (hb6.mono hb5.size)
    clear hb5 hw5
    cases h2 : ttOk 1 t
    · obtain ⟨t2, -⟩ := ttE_not h2
      clear h2
      go_wp2
      go_ret
      exact ⟨rfl, hb6⟩
    · obtain ⟨l1, l2⟩ := lay_tt h2
      rw [ttE_of h2, layE_of l1]
      have H := Lib.hid l2
      clear h2 l1 l2
      go_wp2
      go_ret
      exact ⟨by simp [H.out], hb6⟩
end Go.Proofs.YtnaplfekhjjknaaDoor
