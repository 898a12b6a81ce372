/-
  Several texts joined in one file: each says at its own head, below, what it proves, and its conditions.
-/
import Derived.Test.YtkdiccedkjbpeaaGreatDoorRKF
import Derived.Deep.RegionHeld3
/-
  serve's state that waits for tune-ok: it agrees, or refuses; nothing that was there is changed. Conditions: the method's values lie in old memory; a tune-ok's numbers are below 2^62.
-/
namespace Go.Proofs.YtkdiccedkjbpeaaGreatDoorR
open Go.RowKit

set_option maxRecDepth 100000 in
set_option maxHeartbeats 4000000 in
theorem tune_any (h : Hd) (m : Me) (A : Option Addr) (cap : Nat) (w : World) (hA : ValsAt w A (rowV m.l)) (hN : isM m 31 = true → ∀ k, 0 ≤ (argV m.l k).n ∧ (argV m.l k).n < 4611686018427387904) : Calls Tryz.prog 37 #[encHd h, encM m A cap] w (TnPost (hTune h m) w) := by
  obtain ⟨st, ch, fr, bt, us, wo, ho⟩ := h
  obtain ⟨mc, mi, ml⟩ := m
  unfold encHd encM
  dsimp only
  obtain ⟨r, HG⟩ : ∃ r, Hid (r = hTune ⟨st, ch, fr, bt, us, wo, ho⟩ ⟨mc, mi, ml⟩) := ⟨_, Lib.hid rfl⟩
  rw [← HG.out]
  unfold TnPost
  have HF : Hid (r = if (mc == 10 && mi == 31) = true then (if agOk ⟨st, ch, fr, bt, us, wo, ho⟩ (argV ml 0).n (argV ml 1).n = true then hSilent ⟨st, agV (argV ml 0).n ch, agV (argV ml 1).n fr, agB ⟨st, ch, fr, bt, us, wo, ho⟩ (argV ml 2).n, us, wo, ho⟩ 3 else hRefuse ⟨st, ch, fr, bt, us, wo, ho⟩ 14) else hRun ⟨st, ch, fr, bt, us, wo, ho⟩ ⟨mc, mi, ml⟩) := Lib.hid HG.out
  clear HG
  obtain ⟨q, hq⟩ : ∃ q, (mc == 10 && mi == 31) = q := ⟨_, rfl⟩
  rw [hq] at HF
  obtain ⟨W0, hW0⟩ : ∃ W0, W0 = ((w.alloc (.cells #[.int .i64 st, .int .i64 ch, .int .i64 fr, .int .i64 bt, .string us, .string wo, .string ho] 63)).alloc (.cells #[.int .i64 mc, .int .i64 mi, .slice A ml.length cap] 39)).alloc (.cells #[.int .i64 0, .int .i64 0, .int .i64 0, .int .i64 0, .string ⟨#[]⟩, .string ⟨#[]⟩, .string ⟨#[]⟩] 28) := ⟨_, rfl⟩
  have hb0 : Below w.heap.size w W0 := by rw [hW0]; exact (((Below.refl _ w).alloc (Nat.le_refl _) _).alloc (by simp) _).alloc (by simp; omega) _
  have hs0 : W0.heap.size = w.heap.size + 1 + 1 + 1 := by rw [hW0]; simp
  have hx : Bx W0 w.heap.size 63 [.int .i64 st, .int .i64 ch, .int .i64 fr, .int .i64 bt, .string us, .string wo, .string ho] := by rw [hW0]; exact ((Bx.new w 63 [.int .i64 st, .int .i64 ch, .int .i64 fr, .int .i64 bt, .string us, .string wo, .string ho]).alloc _).alloc _
  have hm : Bx W0 (w.heap.size + 1) 39 [.int .i64 mc, .int .i64 mi, .slice A ml.length cap] := by
    have h := (Bx.new (w.alloc (.cells #[.int .i64 st, .int .i64 ch, .int .i64 fr, .int .i64 bt, .string us, .string wo, .string ho] 63)) 39 [.int .i64 mc, .int .i64 mi, .slice A ml.length cap]).alloc (.cells #[.int .i64 0, .int .i64 0, .int .i64 0, .int .i64 0, .string ⟨#[]⟩, .string ⟨#[]⟩, .string ⟨#[]⟩] 28)
    rw [World.size_alloc] at h
    rw [hW0]; exact h
  have hr : Bx W0 (w.heap.size + 1 + 1) 28 [.int .i64 0, .int .i64 0, .int .i64 0, .int .i64 0, .string ⟨#[]⟩, .string ⟨#[]⟩, .string ⟨#[]⟩] := by
    have h := Bx.new ((w.alloc (.cells #[.int .i64 st, .int .i64 ch, .int .i64 fr, .int .i64 bt, .string us, .string wo, .string ho] 63)).alloc (.cells #[.int .i64 mc, .int .i64 mi, .slice A ml.length cap] 39)) 28 [.int .i64 0, .int .i64 0, .int .i64 0, .int .i64 0, .string ⟨#[]⟩, .string ⟨#[]⟩, .string ⟨#[]⟩]
    rw [World.size_alloc, World.size_alloc] at h
    rw [hW0]; exact h
  have hI := is_any mc mi A ml.length cap 31 W0
  have hAg := fun W (h : Below w.heap.size w W) (hq : (mc == 10 && mi == 31) = true) => agree_any ⟨st, ch, fr, bt, us, wo, ho⟩ mc mi ml A cap W (hA.below h) (hN hq)
  try unfold encHd at *
  try dsimp only at *
  rw [hq] at hI hAg
  clear hq hA hN
  go_enter Tryz.func37, Tryz.ntmps37
  go_wp2_with fail
  rw [← hW0]
  clear hW0
  with_reducible refine hI.mono ?_
  rintro e w1 ⟨rfl, hb1⟩
  have hB := hb0.trans (hb1.mono hb0.size)
  replace hx := hx.kept hb1
  replace hm := hm.kept hb1
  replace hr := hr.kept hb1
  clear hI hb1 hb0
  cases q
  · have HG : Hid (r = hRun ⟨st, ch, fr, bt, us, wo, ho⟩ ⟨mc, mi, ml⟩) := Lib.hid (by rw [HF.out]; rfl)
    clear HF hAg
    obtain ⟨x0, x1, x2, x3, x4, x5, x6⟩ := hx.seven
    obtain ⟨m0, m1, m2⟩ := hm.three
    have hC := run_any ⟨st, ch, fr, bt, us, wo, ho⟩ ⟨mc, mi, ml⟩ A cap w1
    unfold TnPost encHd encM at hC
    dsimp only at hC
    generalize hRun ⟨st, ch, fr, bt, us, wo, ho⟩ ⟨mc, mi, ml⟩ = r9 at hC HG
    obtain ⟨⟨p0, p1, p2, p3, p4, p5, p6⟩, ps, pe⟩ := r9
    dsimp only at hC
    go_wp2_with fail
    with_reducible refine hC.mono ?_
    rintro e w9 ⟨A9, k9, c9, rfl, hS, hb9⟩
    have hB9 := hB.trans (hb9.mono hB.size)
    have hlt := hr.lt
    replace hr := hr.kept hb9
    clear hC x0 x1 x2 x3 x4 x5 x6 m0 m1 m2
    obtain ⟨a0, f0, a1, f1, a2, f2, a3, f3, a4, f4, a5, f5, a6, f6, bR⟩ := hr.store7 (.int .i64 p0) (.int .i64 p1) (.int .i64 p2) (.int .i64 p3) (.string p4) (.string p5) (.string p6)
    have hBz := below_store7 hB9 (B := w.heap.size + 1 + 1) (by omega) (.int .i64 p0) (.int .i64 p1) (.int .i64 p2) (.int .i64 p3) (.string p4) (.string p5) (.string p6)
    have HS := Lib.hid (SaidAt.store7 (w := w9) (n' := w.heap.size) hS (by omega) (B := w.heap.size + 1 + 1) (by omega) (.int .i64 p0) (.int .i64 p1) (.int .i64 p2) (.int .i64 p3) (.string p4) (.string p5) (.string p6))
    obtain ⟨y0, y1, y2, y3, y4, y5, y6⟩ := bR.seven
    clear bR hx hm hr hs0 hB9 
    go_wp2
    refine bodyPost_ret (v := .tuple #[.agg #[.int .i64 p0, .int .i64 p1, .int .i64 p2, .int .i64 p3, .string p4, .string p5, .string p6], .slice A9 k9 c9, .int .i64 pe]) ?_ rfl ⟨A9, k9, c9, by rw [HG.out] <;> rfl, by rw [HG.out]; exact HS.out, hBz⟩
    rw [results_ctt rfl]
    simp [asAddr, Result.andThen, go_sem, y0, y1, y2, y3, y4, y5, y6]
  · have hAg1 := hAg w1 hB rfl
    have HF2 : Hid (r = if agOk ⟨st, ch, fr, bt, us, wo, ho⟩ (argV ml 0).n (argV ml 1).n = true then hSilent ⟨st, agV (argV ml 0).n ch, agV (argV ml 1).n fr, agB ⟨st, ch, fr, bt, us, wo, ho⟩ (argV ml 2).n, us, wo, ho⟩ 3 else hRefuse ⟨st, ch, fr, bt, us, wo, ho⟩ 14) := Lib.hid (by rw [HF.out]; rfl)
    clear HF hAg
    generalize agOk ⟨st, ch, fr, bt, us, wo, ho⟩ (argV ml 0).n (argV ml 1).n = ok at hAg1 HF2
    generalize agB ⟨st, ch, fr, bt, us, wo, ho⟩ (argV ml 2).n = gb at hAg1 HF2
    try dsimp only at hAg1 HF2
    generalize agV (argV ml 0).n ch = g0 at hAg1 HF2
    generalize agV (argV ml 1).n fr = g1 at hAg1 HF2
    obtain ⟨m0, m1, m2⟩ := hm.three
    obtain ⟨x0, x1, x2, x3, x4, x5, x6⟩ := hx.seven
    go_wp2_with fail
    with_reducible refine hAg1.mono ?_
    rintro e w2 ⟨⟨a, b, c, rfl, hok⟩, hb2⟩
    have hB2 := hB.trans (hb2.mono hB.size)
    replace hx := hx.kept hb2
    replace hr := hr.kept hb2
    clear hAg1 hb2 hB hm m0 m1 m2 x0 x1 x2 x3 x4 x5 x6 
    obtain ⟨W3, hW3⟩ : ∃ W3, W3 = w2.alloc (.cells #[.int .i64 a, .int .i64 b, .int .i64 c] 23) := ⟨_, rfl⟩
    have hb3 : Below w2.heap.size w2 W3 := by rw [hW3]; exact (Below.refl _ w2).alloc (Nat.le_refl _) _
    have hT : Bx W3 w2.heap.size 23 [.int .i64 a, .int .i64 b, .int .i64 c] := by rw [hW3]; exact Bx.new w2 _ _
    have hB3 := hB2.trans (hb3.mono hB2.size)
    replace hx := hx.kept hb3
    replace hr := hr.kept hb3
    go_upto_region 4 with fail
    rw [← hW3]
    clear hW3
    cases ok
    · have HG : Hid (r = hRefuse ⟨st, ch, fr, bt, us, wo, ho⟩ 14) := Lib.hid (by rw [HF2.out]; rfl)
      clear HF2 hok
      obtain ⟨x0, x1, x2, x3, x4, x5, x6⟩ := hx.seven
      have hC := refuse_any ⟨st, ch, fr, bt, us, wo, ho⟩ 14 W3
      unfold encHd at hC
      dsimp only at hC
      go_wp2_with fail
      with_reducible refine hC.mono ?_
      rintro e w9 ⟨rfl, hb9⟩
      have hB9 := hB3.trans (hb9.mono hB3.size)
      replace hr := hr.kept hb9
      clear hC x0 x1 x2 x3 x4 x5 x6 
      obtain ⟨a0, f0, a1, f1, a2, f2, a3, f3, a4, f4, a5, f5, a6, f6, bR⟩ := hr.store7 (.int .i64 st) (.int .i64 ch) (.int .i64 fr) (.int .i64 bt) (.string us) (.string wo) (.string ho)
      have hBz := below_store7 hB9 (B := w.heap.size + 1 + 1) (by omega) (.int .i64 st) (.int .i64 ch) (.int .i64 fr) (.int .i64 bt) (.string us) (.string wo) (.string ho)
      have HS := Lib.hid (SaidAt.store7 (w := w9) (n' := w.heap.size) (n := w.heap.size + 1 + 1 + 1) (s := none) (A := none) (k := 0) ⟨rfl, rfl⟩ (by omega) (B := w.heap.size + 1 + 1) (by omega) (.int .i64 st) (.int .i64 ch) (.int .i64 fr) (.int .i64 bt) (.string us) (.string wo) (.string ho))
      obtain ⟨y0, y1, y2, y3, y4, y5, y6⟩ := bR.seven
      clear bR hx hr hs0 hB9 
      go_wp2
      refine bodyPost_ret (v := .tuple #[.agg #[.int .i64 st, .int .i64 ch, .int .i64 fr, .int .i64 bt, .string us, .string wo, .string ho], .slice none 0 0, .int .i64 14]) ?_ rfl ⟨none, 0, 0, by rw [HG.out] <;> rfl, by rw [HG.out]; exact HS.out, hBz⟩
      rw [results_ctt rfl]
      simp [asAddr, Result.andThen, go_sem, y0, y1, y2, y3, y4, y5, y6]
    · have HG : Hid (r = hSilent ⟨st, a, b, c, us, wo, ho⟩ 3) := Lib.hid (by obtain ⟨g1, g2, g3⟩ := hok rfl; rw [HF2.out, g1, g2, g3]; rfl)
      clear HF2 hok
      obtain ⟨q0, q1, q2⟩ := hT.three
      obtain ⟨W4, hW4⟩ : ∃ W4, W4 = ((W3.setCell ⟨w.heap.size, 1, none⟩ (.int .i64 a)).setCell ⟨w.heap.size, 2, none⟩ (.int .i64 b)).setCell ⟨w.heap.size, 3, none⟩ (.int .i64 c) := ⟨_, rfl⟩
      have hx4 : Bx W4 w.heap.size 63 [.int .i64 st, .int .i64 a, .int .i64 b, .int .i64 c, .string us, .string wo, .string ho] := by rw [hW4]; exact ((hx.set 1 (.int .i64 a)).set 2 (.int .i64 b)).set 3 (.int .i64 c)
      have hr4 : Bx W4 (w.heap.size + 1 + 1) 28 [.int .i64 0, .int .i64 0, .int .i64 0, .int .i64 0, .string ⟨#[]⟩, .string ⟨#[]⟩, .string ⟨#[]⟩] := by rw [hW4]; exact ((hr.other (by omega) 1 (.int .i64 a)).other (by omega) 2 (.int .i64 b)).other (by omega) 3 (.int .i64 c)
      have hB4 : Below w.heap.size w W4 := by rw [hW4]; exact ((hB3.setCell (p := ⟨w.heap.size, 1, none⟩) (Nat.le_refl _) (.int .i64 a)).setCell (p := ⟨w.heap.size, 2, none⟩) (Nat.le_refl _) (.int .i64 b)).setCell (p := ⟨w.heap.size, 3, none⟩) (Nat.le_refl _) (.int .i64 c)
      have s1 := hx.cell 1 (by simp)
      have s2 := (hx.set 1 (.int .i64 a)).cell 2 (by simp)
      have s3 := ((hx.set 1 (.int .i64 a)).set 2 (.int .i64 b)).cell 3 (by simp)
      dsimp only [List.getElem_cons_zero, List.getElem_cons_succ, List.set] at s1 s2 s3
      have t1 := hx.frozen 1
      have t2 := (hx.set 1 (.int .i64 a)).frozen 2
      have t3 := ((hx.set 1 (.int .i64 a)).set 2 (.int .i64 b)).frozen 3
      go_upto_region 7 with fail
      rw [← hW4]
      clear hW4 s1 s2 s3 t1 t2 t3 hx hr hB3 hT q0 q1 q2
      have hx := hx4
      have hr := hr4
      clear hx4 hr4
      obtain ⟨x0, x1, x2, x3, x4, x5, x6⟩ := hx.seven
      have hC := silent_any ⟨st, a, b, c, us, wo, ho⟩ 3 W4
      unfold encHd at hC
      dsimp only at hC
      go_wp2_with fail
      with_reducible refine hC.mono ?_
      rintro e w9 ⟨rfl, hb9⟩
      have hB9 := hB4.trans (hb9.mono hB4.size)
      replace hr := hr.kept hb9
      clear hC x0 x1 x2 x3 x4 x5 x6 
      obtain ⟨a0, f0, a1, f1, a2, f2, a3, f3, a4, f4, a5, f5, a6, f6, bR⟩ := hr.store7 (.int .i64 3) (.int .i64 a) (.int .i64 b) (.int .i64 c) (.string us) (.string wo) (.string ho)
      have hBz := below_store7 hB9 (B := w.heap.size + 1 + 1) (by omega) (.int .i64 3) (.int .i64 a) (.int .i64 b) (.int .i64 c) (.string us) (.string wo) (.string ho)
      have HS := Lib.hid (SaidAt.store7 (w := w9) (n' := w.heap.size) (n := w.heap.size + 1 + 1 + 1) (s := none) (A := none) (k := 0) ⟨rfl, rfl⟩ (by omega) (B := w.heap.size + 1 + 1) (by omega) (.int .i64 3) (.int .i64 a) (.int .i64 b) (.int .i64 c) (.string us) (.string wo) (.string ho))
      obtain ⟨y0, y1, y2, y3, y4, y5, y6⟩ := bR.seven
      clear bR hx hr hs0 hB9 
      go_wp2
      refine bodyPost_ret (v := .tuple #[.agg #[.int .i64 3, .int .i64 a, .int .i64 b, .int .i64 c, .string us, .string wo, .string ho], .slice none 0 0, .int .i64 0]) ?_ rfl ⟨none, 0, 0, by rw [HG.out] <;> rfl, by rw [HG.out]; exact HS.out, hBz⟩
      rw [results_ctt rfl]
      simp [asAddr, Result.andThen, go_sem, y0, y1, y2, y3, y4, y5, y6]
end Go.Proofs.YtkdiccedkjbpeaaGreatDoorR

/-
  serve's state that waits for start-ok: it tells who it is, or refuses; nothing that was there is changed. Conditions: the method's values lie in old memory, and their texts have fewer than 2^62 bytes.
-/
namespace Go.Proofs.YtkdiccedkjbpeaaGreatDoorR
open Go.RowKit

theorem plain_ne {s : ByteArray} (h : ¬ s = plainS) : (s.toList == [80, 76, 65, 73, 78]) = false := by
  rw [ByteArray.toList_eq]
  by_cases g : s.data.toList = [80, 76, 65, 73, 78]
  · exact absurd (ba_ext (b := plainS) g) h
  · exact beq_eq_false_iff_ne.2 g
set_option maxRecDepth 100000 in
set_option maxHeartbeats 4000000 in
theorem start_any (h : Hd) (m : Me) (A : Option Addr) (cap : Nat) (w : World) (hA : ValsAt w A (rowV m.l)) (hz : ∀ k, (argV m.l k).s.size < 4611686018427387904) : Calls Tryz.prog 36 #[encHd h, encM m A cap] w (TnPost (hStart h m) w) := by
  obtain ⟨st, ch, fr, bt, us, wo, ho⟩ := h
  obtain ⟨mc, mi, ml⟩ := m
  unfold encHd encM
  dsimp only
  obtain ⟨r, HG⟩ : ∃ r, Hid (r = hStart ⟨st, ch, fr, bt, us, wo, ho⟩ ⟨mc, mi, ml⟩) := ⟨_, Lib.hid rfl⟩
  rw [← HG.out]
  unfold TnPost
  have HF : Hid (r = if (mc == 10 && mi == 11) = true then (if (argV ml 1).s = plainS then (if pairOk (argV ml 2).s = true then hSay ⟨st, ch, fr, bt, pairA (argV ml 2).s, pairB (argV ml 2).s, ho⟩ 2 30 [numV ch, numV fr, numV bt] else hRefuse ⟨st, ch, fr, bt, us, wo, ho⟩ 7) else hRefuse ⟨st, ch, fr, bt, us, wo, ho⟩ 14) else hRun ⟨st, ch, fr, bt, us, wo, ho⟩ ⟨mc, mi, ml⟩) := Lib.hid HG.out
  clear HG
  obtain ⟨q, hq⟩ : ∃ q, (mc == 10 && mi == 11) = q := ⟨_, rfl⟩
  rw [hq] at HF
  obtain ⟨W0, hW0⟩ : ∃ W0, W0 = ((w.alloc (.cells #[.int .i64 st, .int .i64 ch, .int .i64 fr, .int .i64 bt, .string us, .string wo, .string ho] 63)).alloc (.cells #[.int .i64 mc, .int .i64 mi, .slice A ml.length cap] 39)).alloc (.cells #[.int .i64 0, .int .i64 0, .int .i64 0, .int .i64 0, .string ⟨#[]⟩, .string ⟨#[]⟩, .string ⟨#[]⟩] 28) := ⟨_, rfl⟩
  have hb0 : Below w.heap.size w W0 := by rw [hW0]; exact (((Below.refl _ w).alloc (Nat.le_refl _) _).alloc (by simp) _).alloc (by simp; omega) _
  have hs0 : W0.heap.size = w.heap.size + 1 + 1 + 1 := by rw [hW0]; simp
  have hx : Bx W0 w.heap.size 63 [.int .i64 st, .int .i64 ch, .int .i64 fr, .int .i64 bt, .string us, .string wo, .string ho] := by rw [hW0]; exact ((Bx.new w 63 [.int .i64 st, .int .i64 ch, .int .i64 fr, .int .i64 bt, .string us, .string wo, .string ho]).alloc _).alloc _
  have hm : Bx W0 (w.heap.size + 1) 39 [.int .i64 mc, .int .i64 mi, .slice A ml.length cap] := by
    have h := (Bx.new (w.alloc (.cells #[.int .i64 st, .int .i64 ch, .int .i64 fr, .int .i64 bt, .string us, .string wo, .string ho] 63)) 39 [.int .i64 mc, .int .i64 mi, .slice A ml.length cap]).alloc (.cells #[.int .i64 0, .int .i64 0, .int .i64 0, .int .i64 0, .string ⟨#[]⟩, .string ⟨#[]⟩, .string ⟨#[]⟩] 28)
    rw [World.size_alloc] at h
    rw [hW0]; exact h
  have hr : Bx W0 (w.heap.size + 1 + 1) 28 [.int .i64 0, .int .i64 0, .int .i64 0, .int .i64 0, .string ⟨#[]⟩, .string ⟨#[]⟩, .string ⟨#[]⟩] := by
    have h := Bx.new ((w.alloc (.cells #[.int .i64 st, .int .i64 ch, .int .i64 fr, .int .i64 bt, .string us, .string wo, .string ho] 63)).alloc (.cells #[.int .i64 mc, .int .i64 mi, .slice A ml.length cap] 39)) 28 [.int .i64 0, .int .i64 0, .int .i64 0, .int .i64 0, .string ⟨#[]⟩, .string ⟨#[]⟩, .string ⟨#[]⟩]
    rw [World.size_alloc, World.size_alloc] at h
    rw [hW0]; exact h
  have hI := is_any mc mi A ml.length cap 11 W0
  have hAr := fun k W (h : Below w.heap.size w W) => arg_any ⟨mc, mi, ml⟩ A cap k W (hA.below h)
  unfold encM at hAr
  try unfold encHd at *
  try dsimp only at *
  rw [hq] at hI
  clear hq hA
  go_enter Tryz.func36, Tryz.ntmps36
  go_wp2_with fail
  rw [← hW0]
  clear hW0
  with_reducible refine hI.mono ?_
  rintro e w1 ⟨rfl, hb1⟩
  have hB := hb0.trans (hb1.mono hb0.size)
  replace hx := hx.kept hb1
  replace hm := hm.kept hb1
  replace hr := hr.kept hb1
  clear hI hb1 hb0
  cases q
  · have HG : Hid (r = hRun ⟨st, ch, fr, bt, us, wo, ho⟩ ⟨mc, mi, ml⟩) := Lib.hid (by rw [HF.out]; rfl)
    clear HF hAr hz
    obtain ⟨x0, x1, x2, x3, x4, x5, x6⟩ := hx.seven
    obtain ⟨m0, m1, m2⟩ := hm.three
    have hC := run_any ⟨st, ch, fr, bt, us, wo, ho⟩ ⟨mc, mi, ml⟩ A cap w1
    unfold TnPost encHd encM at hC
    dsimp only at hC
    generalize hRun ⟨st, ch, fr, bt, us, wo, ho⟩ ⟨mc, mi, ml⟩ = r9 at hC HG
    obtain ⟨⟨p0, p1, p2, p3, p4, p5, p6⟩, ps, pe⟩ := r9
    dsimp only at hC
    go_wp2_with fail
    with_reducible refine hC.mono ?_
    rintro e w9 ⟨A9, k9, c9, rfl, hS, hb9⟩
    have hB9 := hB.trans (hb9.mono hB.size)
    have hlt := hr.lt
    replace hr := hr.kept hb9
    clear hC x0 x1 x2 x3 x4 x5 x6 m0 m1 m2
    obtain ⟨a0, f0, a1, f1, a2, f2, a3, f3, a4, f4, a5, f5, a6, f6, bR⟩ := hr.store7 (.int .i64 p0) (.int .i64 p1) (.int .i64 p2) (.int .i64 p3) (.string p4) (.string p5) (.string p6)
    have hBz := below_store7 hB9 (B := w.heap.size + 1 + 1) (by omega) (.int .i64 p0) (.int .i64 p1) (.int .i64 p2) (.int .i64 p3) (.string p4) (.string p5) (.string p6)
    have HS := Lib.hid (SaidAt.store7 (w := w9) (n' := w.heap.size) hS (by omega) (B := w.heap.size + 1 + 1) (by omega) (.int .i64 p0) (.int .i64 p1) (.int .i64 p2) (.int .i64 p3) (.string p4) (.string p5) (.string p6))
    obtain ⟨y0, y1, y2, y3, y4, y5, y6⟩ := bR.seven
    clear bR hx hm hr hs0 hB9 
    go_wp2
    refine bodyPost_ret (v := .tuple #[.agg #[.int .i64 p0, .int .i64 p1, .int .i64 p2, .int .i64 p3, .string p4, .string p5, .string p6], .slice A9 k9 c9, .int .i64 pe]) ?_ rfl ⟨A9, k9, c9, by rw [HG.out] <;> rfl, by rw [HG.out]; exact HS.out, hBz⟩
    rw [results_ctt rfl]
    simp [asAddr, Result.andThen, go_sem, y0, y1, y2, y3, y4, y5, y6]
  · have HF2 : Hid (r = if (argV ml 1).s = plainS then (if pairOk (argV ml 2).s = true then hSay ⟨st, ch, fr, bt, pairA (argV ml 2).s, pairB (argV ml 2).s, ho⟩ 2 30 [numV ch, numV fr, numV bt] else hRefuse ⟨st, ch, fr, bt, us, wo, ho⟩ 7) else hRefuse ⟨st, ch, fr, bt, us, wo, ho⟩ 14) := Lib.hid (by rw [HF.out]; rfl)
    clear HF
    have hz2 := hz 2
    have hAr1 := hAr 1 w1 hB
    have hAr2 := hAr 2
    clear hAr hz
    unfold encV at hAr1 hAr2
    generalize argV ml 1 = v1 at hAr1 HF2
    generalize argV ml 2 = v2 at hAr2 HF2 hz2
    obtain ⟨n1, s1⟩ := v1
    obtain ⟨n2, s2⟩ := v2
    dsimp only at hAr1 hAr2 HF2 hz2
    obtain ⟨m0, m1, m2⟩ := hm.three
    go_wp2_with fail
    with_reducible refine hAr1.mono ?_
    rintro e w2 ⟨rfl, hb2⟩
    have hB2 := hB.trans (hb2.mono hB.size)
    replace hx := hx.kept hb2
    replace hm := hm.kept hb2
    replace hr := hr.kept hb2
    clear hAr1 hb2 hB m0 m1 m2
    have hFd := field_s n1 s1 w2
    by_cases hp : s1 = plainS
    · have HF3 : Hid (r = if pairOk s2 = true then hSay ⟨st, ch, fr, bt, pairA s2, pairB s2, ho⟩ 2 30 [numV ch, numV fr, numV bt] else hRefuse ⟨st, ch, fr, bt, us, wo, ho⟩ 7) := Lib.hid (by rw [HF2.out, if_pos hp])
      clear HF2
      subst hp
      unfold plainS at hFd
      unfold plainS
      have hAr2 := hAr2 w2 hB2
      obtain ⟨m0, m1, m2⟩ := hm.three
      go_wp2_with fail
      with_reducible refine hAr2.mono ?_
      rintro e w3 ⟨rfl, hb3⟩
      have hB3 := hB2.trans (hb3.mono hB2.size)
      replace hx := hx.kept hb3
      replace hr := hr.kept hb3
      clear hAr2 hb3 hB2 m0 m1 m2 hFd hm
      have hFd := field_s n2 s2 w3
      have hPr := pairs_any s2 w3 hz2
      go_wp2_with fail
      with_reducible refine hPr.mono ?_
      rintro e w4 ⟨rfl, hb4⟩
      have hB4 := hB3.trans (hb4.mono hB3.size)
      replace hx := hx.kept hb4
      replace hr := hr.kept hb4
      clear hPr hFd hb4 hB3 hz2
      generalize pairOk s2 = ok at HF3 ⊢
      generalize pairA s2 = pa at HF3 ⊢
      generalize pairB s2 = pb at HF3 ⊢
      cases ok
      · have HG : Hid (r = hRefuse ⟨st, ch, fr, bt, us, wo, ho⟩ 7) := Lib.hid (by rw [HF3.out]; rfl)
        clear HF3
        obtain ⟨x0, x1, x2, x3, x4, x5, x6⟩ := hx.seven
        have hC := refuse_any ⟨st, ch, fr, bt, us, wo, ho⟩ 7 w4
        unfold encHd at hC
        dsimp only at hC
        go_wp2_with fail
        with_reducible refine hC.mono ?_
        rintro e w9 ⟨rfl, hb9⟩
        have hB9 := hB4.trans (hb9.mono hB4.size)
        replace hr := hr.kept hb9
        clear hC x0 x1 x2 x3 x4 x5 x6 
        obtain ⟨a0, f0, a1, f1, a2, f2, a3, f3, a4, f4, a5, f5, a6, f6, bR⟩ := hr.store7 (.int .i64 st) (.int .i64 ch) (.int .i64 fr) (.int .i64 bt) (.string us) (.string wo) (.string ho)
        have hBz := below_store7 hB9 (B := w.heap.size + 1 + 1) (by omega) (.int .i64 st) (.int .i64 ch) (.int .i64 fr) (.int .i64 bt) (.string us) (.string wo) (.string ho)
        have HS := Lib.hid (SaidAt.store7 (w := w9) (n' := w.heap.size) (n := w.heap.size + 1 + 1 + 1) (s := none) (A := none) (k := 0) ⟨rfl, rfl⟩ (by omega) (B := w.heap.size + 1 + 1) (by omega) (.int .i64 st) (.int .i64 ch) (.int .i64 fr) (.int .i64 bt) (.string us) (.string wo) (.string ho))
        obtain ⟨y0, y1, y2, y3, y4, y5, y6⟩ := bR.seven
        clear bR hx hr hs0 hB9 
        go_wp2
        refine bodyPost_ret (v := .tuple #[.agg #[.int .i64 st, .int .i64 ch, .int .i64 fr, .int .i64 bt, .string us, .string wo, .string ho], .slice none 0 0, .int .i64 7]) ?_ rfl ⟨none, 0, 0, by rw [HG.out] <;> rfl, by rw [HG.out]; exact HS.out, hBz⟩
        rw [results_ctt rfl]
        simp [asAddr, Result.andThen, go_sem, y0, y1, y2, y3, y4, y5, y6]
      · have HG0 : Hid (r = hSay ⟨st, ch, fr, bt, pa, pb, ho⟩ 2 30 [numV ch, numV fr, numV bt]) := Lib.hid (by rw [HF3.out]; rfl)
        clear HF3
        obtain ⟨W2, hW2⟩ : ∃ W2, W2 = (w4.setCell ⟨w.heap.size, 4, none⟩ (.string pa)).setCell ⟨w.heap.size, 5, none⟩ (.string pb) := ⟨_, rfl⟩
        have hx2 : Bx W2 w.heap.size 63 [.int .i64 st, .int .i64 ch, .int .i64 fr, .int .i64 bt, .string pa, .string pb, .string ho] := by rw [hW2]; exact (hx.set 4 (.string pa)).set 5 (.string pb)
        have hr2 : Bx W2 (w.heap.size + 1 + 1) 28 [.int .i64 0, .int .i64 0, .int .i64 0, .int .i64 0, .string ⟨#[]⟩, .string ⟨#[]⟩, .string ⟨#[]⟩] := by rw [hW2]; exact (hr.other (by omega) 4 (.string pa)).other (by omega) 5 (.string pb)
        have hB5 : Below w.heap.size w W2 := by rw [hW2]; exact (hB4.setCell (p := ⟨w.heap.size, 4, none⟩) (Nat.le_refl _) (.string pa)).setCell (p := ⟨w.heap.size, 5, none⟩) (Nat.le_refl _) (.string pb)
        have x4 := hx.cell 4 (by simp)
        have x5 := (hx.set 4 (.string pa)).cell 5 (by simp)
        dsimp only [List.getElem_cons_zero, List.getElem_cons_succ, List.set] at x4 x5
        have g4 := hx.frozen 4
        have g5 := (hx.set 4 (.string pa)).frozen 5
        go_upto_region 9 with fail
        rw [← hW2]
        clear hW2 x4 x5 g4 g5 hx hr hB4
        have hlt := hr2.lt
        have hNc := fun W => sNumber_any ch W
        have hNf := fun W => sNumber_any fr W
        have hNb := fun W => sNumber_any bt W
        generalize numV ch = uc at hNc HG0
        generalize numV fr = uf at hNf HG0
        generalize numV bt = ub at hNb HG0
        obtain ⟨cn, cs⟩ := uc
        obtain ⟨fn, fs⟩ := uf
        obtain ⟨bn, bs⟩ := ub
        unfold encV at hNc hNf hNb
        dsimp only at hNc hNf hNb
        have keep : ∀ w', Below W2.heap.size W2 w' → w'.cell? ⟨w.heap.size, 0, none⟩ = some (.int .i64 st) ∧ w'.cell? ⟨w.heap.size, 1, none⟩ = some (.int .i64 ch) ∧ w'.cell? ⟨w.heap.size, 2, none⟩ = some (.int .i64 fr) ∧ w'.cell? ⟨w.heap.size, 3, none⟩ = some (.int .i64 bt) ∧ w'.cell? ⟨w.heap.size, 4, none⟩ = some (.string pa) ∧ w'.cell? ⟨w.heap.size, 5, none⟩ = some (.string pb) ∧ w'.cell? ⟨w.heap.size, 6, none⟩ = some (.string ho) := fun w' h => (hx2.kept h).seven
        have hSa : ∀ w4, Below W2.heap.size W2 w4 → _ := fun w4 (h : Below W2.heap.size W2 w4) => say_any ⟨st, ch, fr, bt, pa, pb, ho⟩ 2 30 (some ⟨w4.heap.size, 0, none⟩) [⟨cn, cs⟩, ⟨fn, fs⟩, ⟨bn, bs⟩] 3 3 (w.heap.size + 1 + 1 + 1) (w4.alloc (.cells #[.int .u64 cn, .string cs, .int .u64 fn, .string fs, .int .u64 bn, .string bs] 51)) rfl (.inr ⟨_, rfl, by have := h.size; omega, Bx.new w4 51 [.int .u64 cn, .string cs, .int .u64 fn, .string fs, .int .u64 bn, .string bs]⟩) (by have := h.size; rw [World.size_alloc]; omega)
        unfold encHd at hSa
        dsimp only at hSa
        have HG := HG0
        clear HG0
        go_region_held3 (fun w' => w'.cell? ⟨w.heap.size, 0, none⟩ = some (.int .i64 st) ∧ w'.cell? ⟨w.heap.size, 1, none⟩ = some (.int .i64 ch) ∧ w'.cell? ⟨w.heap.size, 2, none⟩ = some (.int .i64 fr) ∧ w'.cell? ⟨w.heap.size, 3, none⟩ = some (.int .i64 bt) ∧ w'.cell? ⟨w.heap.size, 4, none⟩ = some (.string pa) ∧ w'.cell? ⟨w.heap.size, 5, none⟩ = some (.string pb) ∧ w'.cell? ⟨w.heap.size, 6, none⟩ = some (.string ho)) (first | (with_reducible exact keep _ hf4) | (with_reducible exact hx5.seven) | (with_reducible exact keep _ (hf3.alloc hf3.size _)) | (with_reducible exact keep _ hf3) | (with_reducible exact keep _ hf2) | (with_reducible exact keep _ hf1) | (with_reducible exact keep _ (Below.refl _ W2).drew)) (first | (go_at_call 19; refine (hNc _).mono ?_; rintro e w6 ⟨rfl, hr6⟩; have hf1 : Below W2.heap.size W2 w6 := ⟨hr6.os, hr6.tape, hr6.output, hr6.size, hr6.block⟩) | (go_at_call 19; refine (hNf _).mono ?_; rintro e w7 ⟨rfl, hr7⟩; have hf2 : Below W2.heap.size W2 w7 := hf1.trans (hr7.mono hf1.size)) | (go_at_call 19; refine (hNb _).mono ?_; rintro e w8 ⟨rfl, hr8⟩; have hf3 : Below W2.heap.size W2 w8 := hf2.trans (hr8.mono hf2.size)) | (go_at_call 18; with_reducible refine (hSa w8 hf3).mono ?_; rintro e w9 ⟨B9, rfl, hS, hr9⟩; have hf4 : Below W2.heap.size W2 w9 := (hf3.alloc hf3.size _).trans (hr9.mono (hf3.alloc hf3.size _).size); have hr3 := hr2.kept hf4; obtain ⟨a0, f0, a1, f1, a2, f2, a3, f3, a4, f4, a5, f5, a6, f6, bR⟩ := hr3.store7 (.int .i64 2) (.int .i64 ch) (.int .i64 fr) (.int .i64 bt) (.string pa) (.string pb) (.string ho); have hx5 := (hx2.kept hf4).other7 (B := w.heap.size + 1 + 1) (by omega) (.int .i64 2) (.int .i64 ch) (.int .i64 fr) (.int .i64 bt) (.string pa) (.string pb) (.string ho)))
        have hB9 := hB5.trans (hf4.mono hB5.size)
        have hBz := below_store7 hB9 (B := w.heap.size + 1 + 1) (by omega) (.int .i64 2) (.int .i64 ch) (.int .i64 fr) (.int .i64 bt) (.string pa) (.string pb) (.string ho)
        have HS := Lib.hid (SaidAt.store7 (w := w9) (n' := w.heap.size) hS (by omega) (B := w.heap.size + 1 + 1) (by omega) (.int .i64 2) (.int .i64 ch) (.int .i64 fr) (.int .i64 bt) (.string pa) (.string pb) (.string ho))
        obtain ⟨y0, y1, y2, y3, y4, y5, y6⟩ := bR.seven
        go_wp2
        refine bodyPost_ret (v := .tuple #[.agg #[.int .i64 2, .int .i64 ch, .int .i64 fr, .int .i64 bt, .string pa, .string pb, .string ho], .slice (some ⟨B9, 0, none⟩) 1 1, .int .i64 0]) ?_ rfl ⟨some ⟨B9, 0, none⟩, 1, 1, by rw [HG.out] <;> rfl, by rw [HG.out]; exact HS.out, hBz⟩
        rw [results_ctt rfl]
        simp [asAddr, Result.andThen, go_sem, y0, y1, y2, y3, y4, y5, y6]
    · have HG : Hid (r = hRefuse ⟨st, ch, fr, bt, us, wo, ho⟩ 14) := Lib.hid (by rw [HF2.out, if_neg hp])
      clear HF2 hAr2
      have e1 : (s1.toList == [80, 76, 65, 73, 78]) = false := plain_ne hp
      unfold plainS at hp
      obtain ⟨x0, x1, x2, x3, x4, x5, x6⟩ := hx.seven
      have hC := refuse_any ⟨st, ch, fr, bt, us, wo, ho⟩ 14 w2
      unfold encHd at hC
      dsimp only at hC
      go_wp2_with fail
      with_reducible refine hC.mono ?_
      rintro e w9 ⟨rfl, hb9⟩
      have hB9 := hB2.trans (hb9.mono hB2.size)
      replace hr := hr.kept hb9
      clear hC x0 x1 x2 x3 x4 x5 x6 
      obtain ⟨a0, f0, a1, f1, a2, f2, a3, f3, a4, f4, a5, f5, a6, f6, bR⟩ := hr.store7 (.int .i64 st) (.int .i64 ch) (.int .i64 fr) (.int .i64 bt) (.string us) (.string wo) (.string ho)
      have hBz := below_store7 hB9 (B := w.heap.size + 1 + 1) (by omega) (.int .i64 st) (.int .i64 ch) (.int .i64 fr) (.int .i64 bt) (.string us) (.string wo) (.string ho)
      have HS := Lib.hid (SaidAt.store7 (w := w9) (n' := w.heap.size) (n := w.heap.size + 1 + 1 + 1) (s := none) (A := none) (k := 0) ⟨rfl, rfl⟩ (by omega) (B := w.heap.size + 1 + 1) (by omega) (.int .i64 st) (.int .i64 ch) (.int .i64 fr) (.int .i64 bt) (.string us) (.string wo) (.string ho))
      obtain ⟨y0, y1, y2, y3, y4, y5, y6⟩ := bR.seven
      clear bR hx hm hr hs0 hB9 hFd 
      go_wp2
      refine bodyPost_ret (v := .tuple #[.agg #[.int .i64 st, .int .i64 ch, .int .i64 fr, .int .i64 bt, .string us, .string wo, .string ho], .slice none 0 0, .int .i64 14]) ?_ rfl ⟨none, 0, 0, by rw [HG.out] <;> rfl, by rw [HG.out]; exact HS.out, hBz⟩
      rw [results_ctt rfl]
      simp [asAddr, Result.andThen, go_sem, y0, y1, y2, y3, y4, y5, y6]
end Go.Proofs.YtkdiccedkjbpeaaGreatDoorR
