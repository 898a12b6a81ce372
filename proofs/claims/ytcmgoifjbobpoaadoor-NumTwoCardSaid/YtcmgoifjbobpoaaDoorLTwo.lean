/-
  NumTwo: two numbers, one behind the other, are taken one behind the other: the walk of the law. Condition: the package's table of widths holds 1, 2, 4, 8.
-/
import Derived.Test.YtcmgoifjbobpoaaDoorWShown
import Derived.Test.YtcmgoifjbobpoaaDoorPBack
namespace Go.Proofs.YtcmgoifjbobpoaaDoor
open Go.RowKit

set_option maxHeartbeats 400000 in
theorem two_any (n v m u : Int) (w : World) (hw : Wid w) (v0 : 0 ≤ v) (v1 : v < 18446744073709551616) (u0 : 0 ≤ u) (u1 : u < 18446744073709551616) :
    Calls Tryd.prog 9 #[.agg #[.int .i64 n, .int .u64 v, .int .i64 m, .int .u64 u]] w fun e w' => e = .returned (.bool true) ∧ Below w.heap.size w w' := by
  go_enter Tryd.func9, Tryd.ntmps9
  go_wp2_with fail
  have hb0 : Below w.heap.size w (w.alloc (.cells #[.int .i64 n, .int .u64 v, .int .i64 m, .int .u64 u] 57)) := (Below.refl _ _).alloc (Nat.le_refl _) _
  have hw0 := hw.below hb0
  refine (shown_any _ hw0).mono ?_
  rintro e w1 ⟨rfl, hb1⟩
  have hw1 := hw0.below hb1
  have hb1 := hb0.trans (hb1.mono hb0.size)
  clear hb0 hw0
  go_wp2_with fail
  refine (put_any n v w1 hw1 v0 v1).mono ?_
  rintro e w2 ⟨rfl, hb2⟩
  have hw2 := hw1.below hb2
  have hb2 := hb1.trans (hb2.mono hb1.size)
  clear hb1 hw1
  go_wp2_with fail
  refine (put_any m u w2 hw2 u0 u1).mono ?_
  rintro e w3 ⟨rfl, hb3⟩
  have hw3 := hw2.below hb3
  have hb3 := hb2.trans (hb3.mono hb2.size)
  clear hb2 hw2
  cases h1 : putOk n v
  · obtain ⟨t1, -⟩ := putE_not h1
    clear h1
    go_wp2
    go_ret
    exact ⟨rfl, hb3⟩
  · rw [putE_of h1]
    cases h2 : putOk m u
    · obtain ⟨t1, -⟩ := putE_not h2
      clear h1 h2
      go_wp2
      go_ret
      exact ⟨rfl, hb3⟩
    · rw [putE_of h2]
      have s1 : (putR n v).size ≤ 8 := by have := putR_size h1; have := isW_nat (putOk_w h1); omega
      have s2 : (putR m u).size ≤ 8 := by have := putR_size h2; have := isW_nat (putOk_w h2); omega
      have H1 := Lib.hid h1
      have H2 := Lib.hid h2
      clear h1 h2
      go_wp2_with fail
      refine (take_any _ n w3 hw3).mono ?_
      rintro e w4 ⟨rfl, hb4⟩
      have hw4 := hw3.below hb4
      have hb4 := hb3.trans (hb4.mono hb3.size)
      clear hb3 hw3
      rw [take_put_v H1.out v0, take_put_r H1.out, take_put_e H1.out]
      go_wp2_with fail
      refine (take_any _ m w4 hw4).mono ?_
      rintro e w5 ⟨rfl, hb5⟩
      have hb5 := hb4.trans (hb5.mono hb4.size)
      clear hb4
      have k1 : takeV (putR m u) m = u := by simpa using take_put_v H2.out u0 ByteArray.empty
      have k2 : takeR (putR m u) m = ⟨#[]⟩ := (show takeR (putR m u) m = ByteArray.empty by simpa using take_put_r H2.out ByteArray.empty)
      have k3 : takeE (putR m u) m = 0 := by simpa using take_put_e H2.out ByteArray.empty
      rw [k1, k2, k3]
      clear k1 k2 k3
      go_wp2
      go_ret
      exact ⟨rfl, hb5⟩
end Go.Proofs.YtcmgoifjbobpoaaDoor
