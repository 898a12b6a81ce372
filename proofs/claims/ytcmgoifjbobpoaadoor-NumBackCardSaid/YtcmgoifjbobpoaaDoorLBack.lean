/-
  NumBack: a number that was put is taken, whatever stands behind it, and what is taken is put as it was: the walk of the law. Condition: the package's table of widths holds 1, 2, 4, 8; a text's length is at most the reach.
-/
import Derived.Test.YtcmgoifjbobpoaaDoorWShown
import Derived.Test.YtcmgoifjbobpoaaDoorPBack
namespace Go.Proofs.YtcmgoifjbobpoaaDoor
open Go.RowKit

set_option maxHeartbeats 400000 in
theorem back_any (n v : Int) (more s : ByteArray) (w : World) (hw : Wid w) (v0 : 0 ≤ v) (v1 : v < 18446744073709551616) (hm : more.size ≤ 140737488351232) (hs : s.size ≤ 140737488351232) :
    Calls Tryd.prog 5 #[.agg #[.int .i64 n, .int .u64 v, .string more, .string s]] w fun e w' => e = .returned (.bool true) ∧ Below w.heap.size w w' := by
  go_enter Tryd.func5, Tryd.ntmps5
  go_wp2_with fail
  have hb0 : Below w.heap.size w (w.alloc (.cells #[.int .i64 n, .int .u64 v, .string more, .string s] 49)) := (Below.refl _ _).alloc (Nat.le_refl _) _
  have hw0 := hw.below hb0
  refine (shown_any _ hw0).mono ?_
  rintro e w1 ⟨rfl, hb1⟩
  have hw1 := hw0.below hb1
  have hb1 := hb0.trans (hb1.mono hb0.size)
  clear hb0 hw0
  go_wp2_with fail
  refine (put_any n v w1 hw1 v0 v1).mono ?_
  rintro e w2 ⟨rfl, hb2⟩
  have hw2 := hw1.below hb2
  have hb2 := hb1.trans (hb2.mono hb1.size)
  clear hb1 hw1
  cases h1 : putOk n v
  · obtain ⟨-, t1⟩ := putE_not h1
    clear h1
    go_wp2_with fail
    refine (take_any s n w2 hw2).mono ?_
    rintro e w3 ⟨rfl, hb3⟩
    have hw3 := hw2.below hb3
    have hb3 := hb2.trans (hb3.mono hb2.size)
    clear hb2 hw2
    go_wp2_with fail
    refine (put_any n _ w3 hw3 (takeV_nonneg s n) (takeV_lt s n)).mono ?_
    rintro e w4 ⟨rfl, hb4⟩
    have hb4 := hb3.trans (hb4.mono hb3.size)
    clear hb3
    cases h2 : takeOk s n
    · obtain ⟨t2, -⟩ := takeE_not h2
      clear h2
      go_wp2
      go_ret
      exact ⟨rfl, hb4⟩
    · rw [takeE_of h2, putE_of (put_take_ok h2)]
      have HJ := put_take_s h2
      have hsz : (putR n (takeV s n)).size + (takeR s n).size ≤ 140737488351232 := by
        rw [← ByteArray.size_append, HJ]; exact hs
      clear h2
      go_wp2
      go_ret
      exact ⟨by simp, hb4⟩
  · rw [putE_of h1]
    have s1 : (putR n v).size ≤ 8 := by have := putR_size h1; have := isW_nat (putOk_w h1); omega
    have s2 : (((putR n v).size : Int) != n) = false := by have := putR_size h1; simp [this]
    have H1 := Lib.hid h1
    clear h1
    go_wp2_with fail
    refine (take_any _ n w2 hw2).mono ?_
    rintro e w2' ⟨rfl, hb2'⟩
    have hw2 := hw2.below hb2'
    have hb2 := hb2.trans (hb2'.mono hb2.size)
    rw [take_put_v H1.out v0, take_put_r H1.out, take_put_e H1.out]
    clear hb2'
    go_wp2_with fail
    refine (take_any s n w2' hw2).mono ?_
    rintro e w3 ⟨rfl, hb3⟩
    have hw3 := hw2.below hb3
    have hb3 := hb2.trans (hb3.mono hb2.size)
    clear hb2 hw2
    go_wp2_with fail
    refine (put_any n _ w3 hw3 (takeV_nonneg s n) (takeV_lt s n)).mono ?_
    rintro e w4 ⟨rfl, hb4⟩
    have hb4 := hb3.trans (hb4.mono hb3.size)
    clear hb3
    cases h2 : takeOk s n
    · obtain ⟨t2, -⟩ := takeE_not h2
      clear h2
      go_wp2
      go_ret
      exact ⟨rfl, hb4⟩
    · rw [takeE_of h2, putE_of (put_take_ok h2)]
      have HJ := put_take_s h2
      have hsz : (putR n (takeV s n)).size + (takeR s n).size ≤ 140737488351232 := by
        rw [← ByteArray.size_append, HJ]; exact hs
      clear h2
      go_wp2
      go_ret
      exact ⟨by simp, hb4⟩
end Go.Proofs.YtcmgoifjbobpoaaDoor
