/-
  DialAgrees' walk: what two agree on, how it begins, and whether a word is offered, is as the document's own functions answer. Condition: texts of fewer than 2^60 bytes.
-/
import Derived.Test.YtbdhppigmlfjhaaWDShown
import Derived.Test.YtbdhppigmlfjhaaRAgreeD
import Derived.Test.YtbdhppigmlfjhaaROffersD
import Derived.Test.YtbdhppigmlfjhaaRBeginD
namespace Go.Proofs.Ytbdhppigmlfjhaa
open Go.RowKit

set_option maxRecDepth 100000 in
set_option maxHeartbeats 8000000 in
theorem dialAgrees_walk (mc mf mb tc tf tb : Int) (us wo ho : ByteArray) (w : World) (hu : us.size < 1152921504606846976) (ho' : wo.size < 1152921504606846976) : Calls Try.prog 3 #[.agg #[.int .i64 mc, .int .i64 mf, .int .i64 mb, .int .i64 tc, .int .i64 tf, .int .i64 tb, .string us, .string wo, .string ho]] w fun e w' => e = .returned (.bool true) ∧ Below w.heap.size w w' := by
  obtain ⟨Wi, hWi⟩ : ∃ Wi, Wi = w.alloc (.cells #[.int .i64 mc, .int .i64 mf, .int .i64 mb, .int .i64 tc, .int .i64 tf, .int .i64 tb, .string us, .string wo, .string ho] 25) := ⟨_, rfl⟩
  have hi0 : Bx Wi w.heap.size 25 [.int .i64 mc, .int .i64 mf, .int .i64 mb, .int .i64 tc, .int .i64 tf, .int .i64 tb, .string us, .string wo, .string ho] := by rw [hWi]; exact Bx.new w _ _
  have hbi : Below w.heap.size w Wi := by rw [hWi]; exact (Below.refl _ w).alloc (Nat.le_refl _) _
  have hsi : Wi.heap.size = w.heap.size + 1 := by rw [hWi]; exact World.size_alloc _ _
  obtain ⟨W0, hW0⟩ : ∃ W0, W0 = (Wi.alloc (.cells #[.int .i64 mc, .int .i64 mf, .int .i64 mb] 23)).alloc (.cells #[.int .i64 tc, .int .i64 tf, .int .i64 tb] 23) := ⟨_, rfl⟩
  have hb0 : Below w.heap.size w W0 := by rw [hW0]; exact (hbi.alloc hbi.size _).alloc (by have := hbi.size; simp; omega) _
  have hm : Bx W0 (w.heap.size + 1) 23 [.int .i64 mc, .int .i64 mf, .int .i64 mb] := by
    have h := (Bx.new Wi 23 [.int .i64 mc, .int .i64 mf, .int .i64 mb]).alloc (.cells #[.int .i64 tc, .int .i64 tf, .int .i64 tb] 23)
    rw [hsi] at h
    rw [hW0]; exact h
  have ht : Bx W0 (w.heap.size + 1 + 1) 23 [.int .i64 tc, .int .i64 tf, .int .i64 tb] := by
    have h := Bx.new (Wi.alloc (.cells #[.int .i64 mc, .int .i64 mf, .int .i64 mb] 23)) 23 [.int .i64 tc, .int .i64 tf, .int .i64 tb]
    rw [World.size_alloc, hsi] at h
    rw [hW0]; exact h
  have hi : Bx W0 w.heap.size 25 [.int .i64 mc, .int .i64 mf, .int .i64 mb, .int .i64 tc, .int .i64 tf, .int .i64 tb, .string us, .string wo, .string ho] := by rw [hW0]; exact (hi0.alloc _).alloc _
  rw [hWi] at hW0
  clear hWi hi0 hbi hsi
  have i6 := hi.cell 6 (by simp)
  have i7 := hi.cell 7 (by simp)
  have i8 := hi.cell 8 (by simp)
  dsimp only [List.getElem_cons_zero, List.getElem_cons_succ] at i6 i7 i8
  have hSh := dshown_any W0
  have hA := fun W => dAgree_any mc mf mb tc tf tb W
  have hA2 := fun W => rAgree_any mc mf mb tc tf tb W
  have hG := fun W => dBegin_any mc mf mb us wo ho W (by omega)
  have hG2 := fun W => rBegin_any mc mf mb us wo ho W (by omega)
  have hO := fun W => offers_any us wo W (by omega)
  have hO2 := fun W => rOffers_any us wo W (by omega)
  clear hu ho'
  unfold bgT at hG hG2
  generalize offX us.data.toList wo.data.toList = q at *
  generalize bgE (tRight mc mf mb) us wo ho = G at *
  generalize dgV G 1 = g0 at *
  generalize dgV G mc = g1 at *
  generalize dgV G mf = g2 at *
  generalize dgV G mb = g3 at *
  generalize dgS G us = g4 at *
  generalize dgS G wo = g5 at *
  generalize dgS G ho = g6 at *
  generalize dgE mc mf mb tc tf tb = E at *
  generalize dgV E (lessN mc tc) = d1 at *
  generalize dgV E (lessN mf tf) = d2 at *
  generalize dgV E (min mb tb) = d3 at *
  go_enter Try.func3, Try.ntmps3
  go_upto_region 3 with fail
  rw [← hW0]
  clear hW0 hi
  go_wp2_with fail
  with_reducible refine hSh.mono ?_
  rintro e w1 ⟨rfl, hb1⟩
  have hB1 := hb0.trans (hb1.mono hb0.size)
  replace hm := hm.kept hb1
  replace ht := ht.kept hb1
  clear hSh hb0 hb1 i6 i7 i8
  obtain ⟨x0, x1, x2⟩ := hm.three
  obtain ⟨y0, y1, y2⟩ := ht.three
  go_wp2_with fail
  with_reducible refine (hA _).mono ?_
  rintro e w2 ⟨rfl, hb2⟩
  have hB2 := hB1.trans (hb2.mono hB1.size)
  replace hm := hm.kept hb2
  replace ht := ht.kept hb2
  clear hA hB1 hb2 x0 x1 x2 y0 y1 y2
  obtain ⟨W3, hW3⟩ : ∃ W3, W3 = w2.alloc (.cells #[.int .i64 d1, .int .i64 d2, .int .i64 d3] 23) := ⟨_, rfl⟩
  have hb3 : Below w2.heap.size w2 W3 := by rw [hW3]; exact (Below.refl _ w2).alloc (Nat.le_refl _) _
  have hx : Bx W3 w2.heap.size 23 [.int .i64 d1, .int .i64 d2, .int .i64 d3] := by rw [hW3]; exact Bx.new w2 _ _
  go_upto_region 8 with fail
  rw [← hW3]
  clear hW3
  have hB3 := hB2.trans (hb3.mono hB2.size)
  replace hm := hm.kept hb3
  replace ht := ht.kept hb3
  clear hB2 hb3
  obtain ⟨x0, x1, x2⟩ := hm.three
  obtain ⟨y0, y1, y2⟩ := ht.three
  go_wp2_with fail
  with_reducible refine (hA2 _).mono ?_
  rintro e w4 ⟨rfl, hb4⟩
  have hB4 := hB3.trans (hb4.mono hB3.size)
  replace hm := hm.kept hb4
  replace hx := hx.kept hb4
  clear hA2 hB3 hb4 x0 x1 x2 y0 y1 y2 ht
  obtain ⟨W5, hW5⟩ : ∃ W5, W5 = w4.alloc (.cells #[.int .i64 d1, .int .i64 d2, .int .i64 d3] 23) := ⟨_, rfl⟩
  have hb5 : Below w4.heap.size w4 W5 := by rw [hW5]; exact (Below.refl _ w4).alloc (Nat.le_refl _) _
  have hy : Bx W5 w4.heap.size 23 [.int .i64 d1, .int .i64 d2, .int .i64 d3] := by rw [hW5]; exact Bx.new w4 _ _
  go_upto_region 9 with fail
  rw [← hW5]
  clear hW5
  have hB5 := hB4.trans (hb5.mono hB4.size)
  replace hm := hm.kept hb5
  replace hx := hx.kept hb5
  clear hB4 hb5
  obtain ⟨x0, x1, x2⟩ := hm.three
  go_wp2_with fail
  with_reducible refine (hG _).mono ?_
  rintro e w6 ⟨rfl, hb6⟩
  have hB6 := hB5.trans (hb6.mono hB5.size)
  replace hm := hm.kept hb6
  replace hx := hx.kept hb6
  replace hy := hy.kept hb6
  clear hG hB5 hb6 x0 x1 x2
  obtain ⟨W7, hW7⟩ : ∃ W7, W7 = w6.alloc (.cells #[.int .i64 g0, .int .i64 g1, .int .i64 g2, .int .i64 g3, .string g4, .string g5, .string g6] 33) := ⟨_, rfl⟩
  have hb7 : Below w6.heap.size w6 W7 := by rw [hW7]; exact (Below.refl _ w6).alloc (Nat.le_refl _) _
  have hz : Bx W7 w6.heap.size 33 [.int .i64 g0, .int .i64 g1, .int .i64 g2, .int .i64 g3, .string g4, .string g5, .string g6] := by rw [hW7]; exact Bx.new w6 _ _
  go_upto_region 10 with fail
  rw [← hW7]
  clear hW7
  have hB7 := hB6.trans (hb7.mono hB6.size)
  replace hm := hm.kept hb7
  replace hx := hx.kept hb7
  replace hy := hy.kept hb7
  clear hB6 hb7
  obtain ⟨x0, x1, x2⟩ := hm.three
  go_wp2_with fail
  with_reducible refine (hG2 _).mono ?_
  rintro e w8 ⟨rfl, hb8⟩
  have hB8 := hB7.trans (hb8.mono hB7.size)
  replace hx := hx.kept hb8
  replace hy := hy.kept hb8
  replace hz := hz.kept hb8
  clear hG2 hB7 hb8 x0 x1 x2 hm
  obtain ⟨W9, hW9⟩ : ∃ W9, W9 = w8.alloc (.cells #[.int .i64 g0, .int .i64 g1, .int .i64 g2, .int .i64 g3, .string g4, .string g5, .string g6] 33) := ⟨_, rfl⟩
  have hb9 : Below w8.heap.size w8 W9 := by rw [hW9]; exact (Below.refl _ w8).alloc (Nat.le_refl _) _
  have hv : Bx W9 w8.heap.size 33 [.int .i64 g0, .int .i64 g1, .int .i64 g2, .int .i64 g3, .string g4, .string g5, .string g6] := by rw [hW9]; exact Bx.new w8 _ _
  go_upto_region 11 with fail
  rw [← hW9]
  clear hW9
  have hB9 := hB8.trans (hb9.mono hB8.size)
  replace hx := hx.kept hb9
  replace hy := hy.kept hb9
  replace hz := hz.kept hb9
  clear hB8 hb9
  obtain ⟨x0, x1, x2⟩ := hx.three
  obtain ⟨y0, y1, y2⟩ := hy.three
  obtain ⟨z0, z1, z2, z3, z4, z5, z6⟩ := hz.seven
  obtain ⟨v0, v1, v2, v3, v4, v5, v6⟩ := hv.seven
  clear hx hy hz hv
  go_wp2_with fail
  with_reducible refine (hO _).mono ?_
  rintro e w10 ⟨rfl, hb10⟩
  have hB10 := hB9.trans (hb10.mono hB9.size)
  clear hO hB9 hb10 x0 x1 x2 y0 y1 y2 z0 z1 z2 z3 z4 z5 z6 v0 v1 v2 v3 v4 v5 v6
  go_wp2_with fail
  with_reducible refine (hO2 _).mono ?_
  rintro e w11 ⟨rfl, hb11⟩
  have hB11 := hB10.trans (hb11.mono hB10.size)
  clear hO2 hB10 hb11
  go_wp2
  go_ret
  exact ⟨rfl, hB11⟩
end Go.Proofs.Ytbdhppigmlfjhaa
