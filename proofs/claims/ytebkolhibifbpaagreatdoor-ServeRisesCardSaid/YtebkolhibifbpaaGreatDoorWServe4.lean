/-
  serve's state that waits for tune-ok: it agrees, or refuses; nothing that was there is changed. Conditions: the method's values lie in old memory; a tune-ok's numbers are below 2^62.
-/
import Derived.Test.YtebkolhibifbpaaGreatDoorWServe1
import Derived.Test.YtebkolhibifbpaaGreatDoorWServe3
namespace Go.Proofs.YtebkolhibifbpaaGreatDoor
open Go.RowKit

set_option maxRecDepth 100000 in
set_option maxHeartbeats 4000000 in
theorem tune_any (h : Hd) (m : Me) (A : Option Addr) (cap : Nat) (w : World) (hA : ValsAt w A (rowV m.l)) (hN : isM m 31 = true → ∀ k, 0 ≤ (argV m.l k).n ∧ (argV m.l k).n < 4611686018427387904) : Calls Tryz.prog 25 #[encHd h, encM m A cap] w (TnPost (hTune h m) w) := by
  obtain ⟨st, ch, fr, bt, us, wo, ho⟩ := h
  obtain ⟨mc, mi, ml⟩ := m
  unfold encHd encM
  dsimp only
  obtain ⟨r, HG⟩ : ∃ r, Hid (r = hTune ⟨st, ch, fr, bt, us, wo, ho⟩ ⟨mc, mi, ml⟩) := ⟨_, Lib.hid rfl⟩
  rw [← HG.out]
  unfold TnPost
  have HF : Hid (r = if (mc == 10 && mi == 31) = true then (if agOk ⟨st, ch, fr, bt, us, wo, ho⟩ (argV ml 0).n (argV ml 1).n = true then hSilent ⟨st, agV (argV ml 0).n ch, agV (argV ml 1).n fr, agB ⟨st, ch, fr, bt, us, wo, ho⟩ (argV ml 2).n, us, wo, ho⟩ 3 else hRefuse ⟨st, ch, fr, bt, us, wo, ho⟩ 14) else hRun ⟨st, ch, fr, bt, us, wo, ho⟩ ⟨mc, mi, ml⟩) := Lib.hid HG.out
  clear HG
  obtain ⟨q, hq⟩ : ∃ q, (mc == 10 && mi == 31) = q := ⟨_, rfl⟩
  rw [hq] at HF
  obtain ⟨W0, hW0⟩ : ∃ W0, W0 = ((w.alloc (.cells #[.int .i64 st, .int .i64 ch, .int .i64 fr, .int .i64 bt, .string us, .string wo, .string ho] 53)).alloc (.cells #[.int .i64 mc, .int .i64 mi, .slice A ml.length cap] 37)).alloc (.cells #[.int .i64 0, .int .i64 0, .int .i64 0, .int .i64 0, .string ⟨#[]⟩, .string ⟨#[]⟩, .string ⟨#[]⟩] 27) := ⟨_, rfl⟩
  have hb0 : Below w.heap.size w W0 := by rw [hW0]; exact (((Below.refl _ w).alloc (Nat.le_refl _) _).alloc (by simp) _).alloc (by simp; omega) _
  have hs0 : W0.heap.size = w.heap.size + 1 + 1 + 1 := by rw [hW0]; simp
  have hx : Bx W0 w.heap.size 53 [.int .i64 st, .int .i64 ch, .int .i64 fr, .int .i64 bt, .string us, .string wo, .string ho] := by rw [hW0]; exact ((Bx.new w 53 [.int .i64 st, .int .i64 ch, .int .i64 fr, .int .i64 bt, .string us, .string wo, .string ho]).alloc _).alloc _
  have hm : Bx W0 (w.heap.size + 1) 37 [.int .i64 mc, .int .i64 mi, .slice A ml.length cap] := by
    have h := (Bx.new (w.alloc (.cells #[.int .i64 st, .int .i64 ch, .int .i64 fr, .int .i64 bt, .string us, .string wo, .string ho] 53)) 37 [.int .i64 mc, .int .i64 mi, .slice A ml.length cap]).alloc (.cells #[.int .i64 0, .int .i64 0, .int .i64 0, .int .i64 0, .string ⟨#[]⟩, .string ⟨#[]⟩, .string ⟨#[]⟩] 27)
    rw [World.size_alloc] at h
    rw [hW0]; exact h
  have hr : Bx W0 (w.heap.size + 1 + 1) 27 [.int .i64 0, .int .i64 0, .int .i64 0, .int .i64 0, .string ⟨#[]⟩, .string ⟨#[]⟩, .string ⟨#[]⟩] := by
    have h := Bx.new ((w.alloc (.cells #[.int .i64 st, .int .i64 ch, .int .i64 fr, .int .i64 bt, .string us, .string wo, .string ho] 53)).alloc (.cells #[.int .i64 mc, .int .i64 mi, .slice A ml.length cap] 37)) 27 [.int .i64 0, .int .i64 0, .int .i64 0, .int .i64 0, .string ⟨#[]⟩, .string ⟨#[]⟩, .string ⟨#[]⟩]
    rw [World.size_alloc, World.size_alloc] at h
    rw [hW0]; exact h
  have hI := is_any mc mi A ml.length cap 31 W0
  have hAg := fun W (h : Below w.heap.size w W) (hq : (mc == 10 && mi == 31) = true) => agree_any ⟨st, ch, fr, bt, us, wo, ho⟩ mc mi ml A cap W (hA.below h) (hN hq)
  try unfold encHd at *
  try dsimp only at *
  rw [hq] at hI hAg
  clear hq hA hN
  go_enter Tryz.func25, Tryz.ntmps25
  go_wp2_with fail
  rw [← hW0]
  clear hW0
  with_reducible refine hI.mono ?_
  rintro e w1 ⟨rfl, hb1⟩
  have hB := hb0.trans (hb1.mono hb0.size)
  replace hx := hx.kept hb1
  replace hm := hm.kept hb1
  replace hr := hr.kept hb1
  clear hI hb1 hb0
  cases q
  · have HG : Hid (r = hRun ⟨st, ch, fr, bt, us, wo, ho⟩ ⟨mc, mi, ml⟩) := Lib.hid (by rw [HF.out]; rfl)
    clear HF hAg
    obtain ⟨x0, x1, x2, x3, x4, x5, x6⟩ := hx.seven
    obtain ⟨m0, m1, m2⟩ := hm.three
    have hC := run_any ⟨st, ch, fr, bt, us, wo, ho⟩ ⟨mc, mi, ml⟩ A cap w1
    unfold TnPost encHd encM at hC
    dsimp only at hC
    generalize hRun ⟨st, ch, fr, bt, us, wo, ho⟩ ⟨mc, mi, ml⟩ = r9 at hC HG
    obtain ⟨⟨p0, p1, p2, p3, p4, p5, p6⟩, ps, pe⟩ := r9
    dsimp only at hC
    go_wp2_with fail
    with_reducible refine hC.mono ?_
    rintro e w9 ⟨A9, k9, c9, rfl, hS, hb9⟩
    have hB9 := hB.trans (hb9.mono hB.size)
    have hlt := hr.lt
    replace hr := hr.kept hb9
    clear hC x0 x1 x2 x3 x4 x5 x6 m0 m1 m2
    obtain ⟨a0, f0, a1, f1, a2, f2, a3, f3, a4, f4, a5, f5, a6, f6, bR⟩ := hr.store7 (.int .i64 p0) (.int .i64 p1) (.int .i64 p2) (.int .i64 p3) (.string p4) (.string p5) (.string p6)
    have hBz := below_store7 hB9 (B := w.heap.size + 1 + 1) (by omega) (.int .i64 p0) (.int .i64 p1) (.int .i64 p2) (.int .i64 p3) (.string p4) (.string p5) (.string p6)
    have HS := Lib.hid (SaidAt.store7 (w := w9) (n' := w.heap.size) hS (by omega) (B := w.heap.size + 1 + 1) (by omega) (.int .i64 p0) (.int .i64 p1) (.int .i64 p2) (.int .i64 p3) (.string p4) (.string p5) (.string p6))
    obtain ⟨y0, y1, y2, y3, y4, y5, y6⟩ := bR.seven
    clear bR hx hm hr hs0 hB9 
    go_wp2
    refine bodyPost_ret (v := .tuple #[.agg #[.int .i64 p0, .int .i64 p1, .int .i64 p2, .int .i64 p3, .string p4, .string p5, .string p6], .slice A9 k9 c9, .int .i64 pe]) ?_ rfl ⟨A9, k9, c9, by rw [HG.out] <;> rfl, by rw [HG.out]; exact HS.out, hBz⟩
    rw [results_ctt rfl]
    simp [asAddr, Result.andThen, go_sem, y0, y1, y2, y3, y4, y5, y6]
  · have hAg1 := hAg w1 hB rfl
    have HF2 : Hid (r = if agOk ⟨st, ch, fr, bt, us, wo, ho⟩ (argV ml 0).n (argV ml 1).n = true then hSilent ⟨st, agV (argV ml 0).n ch, agV (argV ml 1).n fr, agB ⟨st, ch, fr, bt, us, wo, ho⟩ (argV ml 2).n, us, wo, ho⟩ 3 else hRefuse ⟨st, ch, fr, bt, us, wo, ho⟩ 14) := Lib.hid (by rw [HF.out]; rfl)
    clear HF hAg
    generalize agOk ⟨st, ch, fr, bt, us, wo, ho⟩ (argV ml 0).n (argV ml 1).n = ok at hAg1 HF2
    generalize agB ⟨st, ch, fr, bt, us, wo, ho⟩ (argV ml 2).n = gb at hAg1 HF2
    try dsimp only at hAg1 HF2
    generalize agV (argV ml 0).n ch = g0 at hAg1 HF2
    generalize agV (argV ml 1).n fr = g1 at hAg1 HF2
    obtain ⟨m0, m1, m2⟩ := hm.three
    obtain ⟨x0, x1, x2, x3, x4, x5, x6⟩ := hx.seven
    go_wp2_with fail
    with_reducible refine hAg1.mono ?_
    rintro e w2 ⟨⟨a, b, c, rfl, hok⟩, hb2⟩
    have hB2 := hB.trans (hb2.mono hB.size)
    replace hx := hx.kept hb2
    replace hr := hr.kept hb2
    clear hAg1 hb2 hB hm m0 m1 m2 x0 x1 x2 x3 x4 x5 x6 
    obtain ⟨W3, hW3⟩ : ∃ W3, W3 = w2.alloc (.cells #[.int .i64 a, .int .i64 b, .int .i64 c] 23) := ⟨_, rfl⟩
    have hb3 : Below w2.heap.size w2 W3 := by rw [hW3]; exact (Below.refl _ w2).alloc (Nat.le_refl _) _
    have hT : Bx W3 w2.heap.size 23 [.int .i64 a, .int .i64 b, .int .i64 c] := by rw [hW3]; exact Bx.new w2 _ _
    have hB3 := hB2.trans (hb3.mono hB2.size)
    replace hx := hx.kept hb3
    replace hr := hr.kept hb3
    go_upto_region 4 with fail
    rw [← hW3]
    clear hW3
    cases ok
    · have HG : Hid (r = hRefuse ⟨st, ch, fr, bt, us, wo, ho⟩ 14) := Lib.hid (by rw [HF2.out]; rfl)
      clear HF2 hok
      obtain ⟨x0, x1, x2, x3, x4, x5, x6⟩ := hx.seven
      have hC := refuse_any ⟨st, ch, fr, bt, us, wo, ho⟩ 14 W3
      unfold encHd at hC
      dsimp only at hC
      go_wp2_with fail
      with_reducible refine hC.mono ?_
      rintro e w9 ⟨rfl, hb9⟩
      have hB9 := hB3.trans (hb9.mono hB3.size)
      replace hr := hr.kept hb9
      clear hC x0 x1 x2 x3 x4 x5 x6 
      obtain ⟨a0, f0, a1, f1, a2, f2, a3, f3, a4, f4, a5, f5, a6, f6, bR⟩ := hr.store7 (.int .i64 st) (.int .i64 ch) (.int .i64 fr) (.int .i64 bt) (.string us) (.string wo) (.string ho)
      have hBz := below_store7 hB9 (B := w.heap.size + 1 + 1) (by omega) (.int .i64 st) (.int .i64 ch) (.int .i64 fr) (.int .i64 bt) (.string us) (.string wo) (.string ho)
      have HS := Lib.hid (SaidAt.store7 (w := w9) (n' := w.heap.size) (n := w.heap.size + 1 + 1 + 1) (s := none) (A := none) (k := 0) ⟨rfl, rfl⟩ (by omega) (B := w.heap.size + 1 + 1) (by omega) (.int .i64 st) (.int .i64 ch) (.int .i64 fr) (.int .i64 bt) (.string us) (.string wo) (.string ho))
      obtain ⟨y0, y1, y2, y3, y4, y5, y6⟩ := bR.seven
      clear bR hx hr hs0 hB9 
      go_wp2
      refine bodyPost_ret (v := .tuple #[.agg #[.int .i64 st, .int .i64 ch, .int .i64 fr, .int .i64 bt, .string us, .string wo, .string ho], .slice none 0 0, .int .i64 14]) ?_ rfl ⟨none, 0, 0, by rw [HG.out] <;> rfl, by rw [HG.out]; exact HS.out, hBz⟩
      rw [results_ctt rfl]
      simp [asAddr, Result.andThen, go_sem, y0, y1, y2, y3, y4, y5, y6]
    · have HG : Hid (r = hSilent ⟨st, a, b, c, us, wo, ho⟩ 3) := Lib.hid (by obtain ⟨g1, g2, g3⟩ := hok rfl; rw [HF2.out, g1, g2, g3]; rfl)
      clear HF2 hok
      obtain ⟨q0, q1, q2⟩ := hT.three
      obtain ⟨W4, hW4⟩ : ∃ W4, W4 = ((W3.setCell ⟨w.heap.size, 1, none⟩ (.int .i64 a)).setCell ⟨w.heap.size, 2, none⟩ (.int .i64 b)).setCell ⟨w.heap.size, 3, none⟩ (.int .i64 c) := ⟨_, rfl⟩
      have hx4 : Bx W4 w.heap.size 53 [.int .i64 st, .int .i64 a, .int .i64 b, .int .i64 c, .string us, .string wo, .string ho] := by rw [hW4]; exact ((hx.set 1 (.int .i64 a)).set 2 (.int .i64 b)).set 3 (.int .i64 c)
      have hr4 : Bx W4 (w.heap.size + 1 + 1) 27 [.int .i64 0, .int .i64 0, .int .i64 0, .int .i64 0, .string ⟨#[]⟩, .string ⟨#[]⟩, .string ⟨#[]⟩] := by rw [hW4]; exact ((hr.other (by omega) 1 (.int .i64 a)).other (by omega) 2 (.int .i64 b)).other (by omega) 3 (.int .i64 c)
      have hB4 : Below w.heap.size w W4 := by rw [hW4]; exact ((hB3.setCell (p := ⟨w.heap.size, 1, none⟩) (Nat.le_refl _) (.int .i64 a)).setCell (p := ⟨w.heap.size, 2, none⟩) (Nat.le_refl _) (.int .i64 b)).setCell (p := ⟨w.heap.size, 3, none⟩) (Nat.le_refl _) (.int .i64 c)
      have s1 := hx.cell 1 (by simp)
      have s2 := (hx.set 1 (.int .i64 a)).cell 2 (by simp)
      have s3 := ((hx.set 1 (.int .i64 a)).set 2 (.int .i64 b)).cell 3 (by simp)
      dsimp only [List.getElem_cons_zero, List.getElem_cons_succ, List.set] at s1 s2 s3
      have t1 := hx.frozen 1
      have t2 := (hx.set 1 (.int .i64 a)).frozen 2
      have t3 := ((hx.set 1 (.int .i64 a)).set 2 (.int .i64 b)).frozen 3
      go_upto_region 7 with fail
      rw [← hW4]
      clear hW4 s1 s2 s3 t1 t2 t3 hx hr hB3 hT q0 q1 q2
      have hx := hx4
      have hr := hr4
      clear hx4 hr4
      obtain ⟨x0, x1, x2, x3, x4, x5, x6⟩ := hx.seven
      have hC := silent_any ⟨st, a, b, c, us, wo, ho⟩ 3 W4
      unfold encHd at hC
      dsimp only at hC
      go_wp2_with fail
      with_reducible refine hC.mono ?_
      rintro e w9 ⟨rfl, hb9⟩
      have hB9 := hB4.trans (hb9.mono hB4.size)
      replace hr := hr.kept hb9
      clear hC x0 x1 x2 x3 x4 x5 x6 
      obtain ⟨a0, f0, a1, f1, a2, f2, a3, f3, a4, f4, a5, f5, a6, f6, bR⟩ := hr.store7 (.int .i64 3) (.int .i64 a) (.int .i64 b) (.int .i64 c) (.string us) (.string wo) (.string ho)
      have hBz := below_store7 hB9 (B := w.heap.size + 1 + 1) (by omega) (.int .i64 3) (.int .i64 a) (.int .i64 b) (.int .i64 c) (.string us) (.string wo) (.string ho)
      have HS := Lib.hid (SaidAt.store7 (w := w9) (n' := w.heap.size) (n := w.heap.size + 1 + 1 + 1) (s := none) (A := none) (k := 0) ⟨rfl, rfl⟩ (by omega) (B := w.heap.size + 1 + 1) (by omega) (.int .i64 3) (.int .i64 a) (.int .i64 b) (.int .i64 c) (.string us) (.string wo) (.string ho))
      obtain ⟨y0, y1, y2, y3, y4, y5, y6⟩ := bR.seven
      clear bR hx hr hs0 hB9 
      go_wp2
      refine bodyPost_ret (v := .tuple #[.agg #[.int .i64 3, .int .i64 a, .int .i64 b, .int .i64 c, .string us, .string wo, .string ho], .slice none 0 0, .int .i64 0]) ?_ rfl ⟨none, 0, 0, by rw [HG.out] <;> rfl, by rw [HG.out]; exact HS.out, hBz⟩
      rw [results_ctt rfl]
      simp [asAddr, Result.andThen, go_sem, y0, y1, y2, y3, y4, y5, y6]
end Go.Proofs.YtebkolhibifbpaaGreatDoor
