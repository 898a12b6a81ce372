/-
  serve's state that waits for open: it tells where to, or refuses; nothing that was there is changed. Condition: the method's values lie in old memory.
-/
import Derived.Deep.RegionHeld3
import Derived.Test.YtebkolhibifbpaaGreatDoorWServe1
namespace Go.Proofs.YtebkolhibifbpaaGreatDoor
open Go.RowKit

set_option maxRecDepth 100000 in
set_option maxHeartbeats 4000000 in
theorem open_any (h : Hd) (m : Me) (A : Option Addr) (cap : Nat) (w : World) (hA : ValsAt w A (rowV m.l)) : Calls Tryz.prog 26 #[encHd h, encM m A cap] w (TnPost (hOpen h m) w) := by
  obtain ⟨st, ch, fr, bt, us, wo, ho⟩ := h
  obtain ⟨mc, mi, ml⟩ := m
  unfold encHd encM
  dsimp only
  obtain ⟨r, HG⟩ : ∃ r, Hid (r = hOpen ⟨st, ch, fr, bt, us, wo, ho⟩ ⟨mc, mi, ml⟩) := ⟨_, Lib.hid rfl⟩
  rw [← HG.out]
  unfold TnPost
  have HF : Hid (r = if (mc == 10 && mi == 40) = true then hSay ⟨st, ch, fr, bt, us, wo, (argV ml 0).s⟩ 4 41 [noV] else hRun ⟨st, ch, fr, bt, us, wo, ho⟩ ⟨mc, mi, ml⟩) := Lib.hid HG.out
  clear HG
  obtain ⟨q, hq⟩ : ∃ q, (mc == 10 && mi == 40) = q := ⟨_, rfl⟩
  rw [hq] at HF
  obtain ⟨W0, hW0⟩ : ∃ W0, W0 = ((w.alloc (.cells #[.int .i64 st, .int .i64 ch, .int .i64 fr, .int .i64 bt, .string us, .string wo, .string ho] 53)).alloc (.cells #[.int .i64 mc, .int .i64 mi, .slice A ml.length cap] 37)).alloc (.cells #[.int .i64 0, .int .i64 0, .int .i64 0, .int .i64 0, .string ⟨#[]⟩, .string ⟨#[]⟩, .string ⟨#[]⟩] 27) := ⟨_, rfl⟩
  have hb0 : Below w.heap.size w W0 := by rw [hW0]; exact (((Below.refl _ w).alloc (Nat.le_refl _) _).alloc (by simp) _).alloc (by simp; omega) _
  have hs0 : W0.heap.size = w.heap.size + 1 + 1 + 1 := by rw [hW0]; simp
  have hx : Bx W0 w.heap.size 53 [.int .i64 st, .int .i64 ch, .int .i64 fr, .int .i64 bt, .string us, .string wo, .string ho] := by rw [hW0]; exact ((Bx.new w 53 [.int .i64 st, .int .i64 ch, .int .i64 fr, .int .i64 bt, .string us, .string wo, .string ho]).alloc _).alloc _
  have hm : Bx W0 (w.heap.size + 1) 37 [.int .i64 mc, .int .i64 mi, .slice A ml.length cap] := by
    have h := (Bx.new (w.alloc (.cells #[.int .i64 st, .int .i64 ch, .int .i64 fr, .int .i64 bt, .string us, .string wo, .string ho] 53)) 37 [.int .i64 mc, .int .i64 mi, .slice A ml.length cap]).alloc (.cells #[.int .i64 0, .int .i64 0, .int .i64 0, .int .i64 0, .string ⟨#[]⟩, .string ⟨#[]⟩, .string ⟨#[]⟩] 27)
    rw [World.size_alloc] at h
    rw [hW0]; exact h
  have hr : Bx W0 (w.heap.size + 1 + 1) 27 [.int .i64 0, .int .i64 0, .int .i64 0, .int .i64 0, .string ⟨#[]⟩, .string ⟨#[]⟩, .string ⟨#[]⟩] := by
    have h := Bx.new ((w.alloc (.cells #[.int .i64 st, .int .i64 ch, .int .i64 fr, .int .i64 bt, .string us, .string wo, .string ho] 53)).alloc (.cells #[.int .i64 mc, .int .i64 mi, .slice A ml.length cap] 37)) 27 [.int .i64 0, .int .i64 0, .int .i64 0, .int .i64 0, .string ⟨#[]⟩, .string ⟨#[]⟩, .string ⟨#[]⟩]
    rw [World.size_alloc, World.size_alloc] at h
    rw [hW0]; exact h
  have hI := is_any mc mi A ml.length cap 40 W0
  have hAr := fun W (h : Below w.heap.size w W) => arg_any ⟨mc, mi, ml⟩ A cap 0 W (hA.below h)
  unfold encM at hAr
  have hWo := fun W => sWord_any ⟨#[]⟩ W
  unfold encV wordV at hWo
  try unfold encHd at *
  try dsimp only at *
  rw [hq] at hI
  clear hq hA
  go_enter Tryz.func26, Tryz.ntmps26
  go_wp2_with fail
  rw [← hW0]
  clear hW0
  with_reducible refine hI.mono ?_
  rintro e w1 ⟨rfl, hb1⟩
  have hB := hb0.trans (hb1.mono hb0.size)
  replace hx := hx.kept hb1
  replace hm := hm.kept hb1
  replace hr := hr.kept hb1
  clear hI hb1 hb0
  cases q
  · have HG : Hid (r = hRun ⟨st, ch, fr, bt, us, wo, ho⟩ ⟨mc, mi, ml⟩) := Lib.hid (by rw [HF.out]; rfl)
    clear HF hAr hWo
    obtain ⟨x0, x1, x2, x3, x4, x5, x6⟩ := hx.seven
    obtain ⟨m0, m1, m2⟩ := hm.three
    have hC := run_any ⟨st, ch, fr, bt, us, wo, ho⟩ ⟨mc, mi, ml⟩ A cap w1
    unfold TnPost encHd encM at hC
    dsimp only at hC
    generalize hRun ⟨st, ch, fr, bt, us, wo, ho⟩ ⟨mc, mi, ml⟩ = r9 at hC HG
    obtain ⟨⟨p0, p1, p2, p3, p4, p5, p6⟩, ps, pe⟩ := r9
    dsimp only at hC
    go_wp2_with fail
    with_reducible refine hC.mono ?_
    rintro e w9 ⟨A9, k9, c9, rfl, hS, hb9⟩
    have hB9 := hB.trans (hb9.mono hB.size)
    have hlt := hr.lt
    replace hr := hr.kept hb9
    clear hC x0 x1 x2 x3 x4 x5 x6 m0 m1 m2
    obtain ⟨a0, f0, a1, f1, a2, f2, a3, f3, a4, f4, a5, f5, a6, f6, bR⟩ := hr.store7 (.int .i64 p0) (.int .i64 p1) (.int .i64 p2) (.int .i64 p3) (.string p4) (.string p5) (.string p6)
    have hBz := below_store7 hB9 (B := w.heap.size + 1 + 1) (by omega) (.int .i64 p0) (.int .i64 p1) (.int .i64 p2) (.int .i64 p3) (.string p4) (.string p5) (.string p6)
    have HS := Lib.hid (SaidAt.store7 (w := w9) (n' := w.heap.size) hS (by omega) (B := w.heap.size + 1 + 1) (by omega) (.int .i64 p0) (.int .i64 p1) (.int .i64 p2) (.int .i64 p3) (.string p4) (.string p5) (.string p6))
    obtain ⟨y0, y1, y2, y3, y4, y5, y6⟩ := bR.seven
    clear bR hx hm hr hs0 hB9 
    go_wp2
    first | refine bodyPost_ret (v := .tuple #[.agg #[.int .i64 p0, .int .i64 p1, .int .i64 p2, .int .i64 p3, .string p4, .string p5, .string p6], .slice A9 k9 c9, .int .i64 pe]) ?_ rfl ⟨A9, k9, c9, by rw [HG.out] <;> rfl, by rw [HG.out]; exact HS.out, hBz⟩ | refine bodyPost_ret (v := .tuple #[.agg #[.int .i64 p0, .int .i64 p1, .int .i64 p2, .int .i64 p3, .string p4, .string p5, .string p6], .slice A9 k9 c9, .int .i64 pe]) ?_ rfl ⟨A9, k9, ⟨c9, by rw [HG.out] <;> rfl⟩, by rw [HG.out]; exact HS.out, hBz⟩
    rw [results_ctt rfl]
    simp [asAddr, Result.andThen, go_sem, y0, y1, y2, y3, y4, y5, y6]
  · have HG : Hid (r = hSay ⟨st, ch, fr, bt, us, wo, (argV ml 0).s⟩ 4 41 [noV]) := Lib.hid (by rw [HF.out]; rfl)
    clear HF
    have hAr1 := hAr w1 hB
    unfold encV at hAr1
    generalize argV ml 0 = v at hAr1 HG
    obtain ⟨vn, vs⟩ := v
    dsimp only at hAr1 HG
    obtain ⟨m0, m1, m2⟩ := hm.three
    go_wp2_with fail
    with_reducible refine hAr1.mono ?_
    rintro e w2 ⟨rfl, hb2⟩
    have hB2 := hB.trans (hb2.mono hB.size)
    replace hx := hx.kept hb2
    replace hr := hr.kept hb2
    clear hAr hAr1 hb2 hB hm m0 m1 m2
    obtain ⟨W2, hW2⟩ : ∃ W2, W2 = w2.setCell ⟨w.heap.size, 6, none⟩ (.string vs) := ⟨_, rfl⟩
    have hx2 : Bx W2 w.heap.size 53 [.int .i64 st, .int .i64 ch, .int .i64 fr, .int .i64 bt, .string us, .string wo, .string vs] := by rw [hW2]; exact hx.set 6 (.string vs)
    have hr2 : Bx W2 (w.heap.size + 1 + 1) 27 [.int .i64 0, .int .i64 0, .int .i64 0, .int .i64 0, .string ⟨#[]⟩, .string ⟨#[]⟩, .string ⟨#[]⟩] := by rw [hW2]; exact hr.other (by omega) 6 (.string vs)
    have hB3 : Below w.heap.size w W2 := by rw [hW2]; exact hB2.setCell (p := ⟨w.heap.size, 6, none⟩) (Nat.le_refl _) (.string vs)
    have x6 := hx.cell 6 (by simp)
    dsimp only [List.getElem_cons_zero, List.getElem_cons_succ] at x6
    have g6 := hx.frozen 6
    have hFd := field_s vn vs w2
    go_upto_region 4 with fail
    rw [← hW2]
    clear hW2 x6 g6 hx hr hB2 hFd
    have hlt := hr2.lt
    have keep : ∀ w', Below W2.heap.size W2 w' → w'.cell? ⟨w.heap.size, 0, none⟩ = some (.int .i64 st) ∧ w'.cell? ⟨w.heap.size, 1, none⟩ = some (.int .i64 ch) ∧ w'.cell? ⟨w.heap.size, 2, none⟩ = some (.int .i64 fr) ∧ w'.cell? ⟨w.heap.size, 3, none⟩ = some (.int .i64 bt) ∧ w'.cell? ⟨w.heap.size, 4, none⟩ = some (.string us) ∧ w'.cell? ⟨w.heap.size, 5, none⟩ = some (.string wo) ∧ w'.cell? ⟨w.heap.size, 6, none⟩ = some (.string vs) := fun w' h => (hx2.kept h).seven
    have hSa : ∀ w4, Below W2.heap.size W2 w4 → _ := fun w4 (h : Below W2.heap.size W2 w4) => say_any ⟨st, ch, fr, bt, us, wo, vs⟩ 4 41 (some ⟨w4.heap.size, 0, none⟩) [noV] 1 1 (w.heap.size + 1 + 1 + 1) (w4.alloc (.cells #[.int .u64 0, .string ⟨#[]⟩] 44)) rfl (.inr ⟨_, rfl, by have := h.size; omega, Bx.new w4 44 [.int .u64 0, .string ⟨#[]⟩]⟩) (by have := h.size; rw [World.size_alloc]; omega)
    unfold encHd at hSa
    dsimp only at hSa
    go_region_held3 (fun w' => w'.cell? ⟨w.heap.size, 0, none⟩ = some (.int .i64 st) ∧ w'.cell? ⟨w.heap.size, 1, none⟩ = some (.int .i64 ch) ∧ w'.cell? ⟨w.heap.size, 2, none⟩ = some (.int .i64 fr) ∧ w'.cell? ⟨w.heap.size, 3, none⟩ = some (.int .i64 bt) ∧ w'.cell? ⟨w.heap.size, 4, none⟩ = some (.string us) ∧ w'.cell? ⟨w.heap.size, 5, none⟩ = some (.string wo) ∧ w'.cell? ⟨w.heap.size, 6, none⟩ = some (.string vs)) (first | (with_reducible exact keep _ hf2) | (with_reducible exact hx5.seven) | (with_reducible exact keep _ (hf1.alloc hf1.size _)) | (with_reducible exact keep _ hf1) | (with_reducible exact keep _ (Below.refl _ W2).drew)) (first | (go_at_call 15; refine (hWo _).mono ?_; rintro e w4 ⟨rfl, hr4⟩; have hf1 : Below W2.heap.size W2 w4 := ⟨hr4.os, hr4.tape, hr4.output, hr4.size, hr4.block⟩) | (go_at_call 13; refine (hSa w4 hf1).mono ?_; rintro e w5 ⟨B5, rfl, hS, hr5⟩; have hf2 : Below W2.heap.size W2 w5 := (hf1.alloc hf1.size _).trans (hr5.mono (hf1.alloc hf1.size _).size); have hr9 := hr2.kept hf2; obtain ⟨a0, f0, a1, f1, a2, f2, a3, f3, a4, f4, a5, f5, a6, f6, bR⟩ := hr9.store7 (.int .i64 4) (.int .i64 ch) (.int .i64 fr) (.int .i64 bt) (.string us) (.string wo) (.string vs); have hx5 := (hx2.kept hf2).other7 (B := w.heap.size + 1 + 1) (by omega) (.int .i64 4) (.int .i64 ch) (.int .i64 fr) (.int .i64 bt) (.string us) (.string wo) (.string vs)))
    have hB9 := hB3.trans (hf2.mono hB3.size)
    have hBz := below_store7 hB9 (B := w.heap.size + 1 + 1) (by omega) (.int .i64 4) (.int .i64 ch) (.int .i64 fr) (.int .i64 bt) (.string us) (.string wo) (.string vs)
    have HS := Lib.hid (SaidAt.store7 (w := w5) (n' := w.heap.size) hS (by omega) (B := w.heap.size + 1 + 1) (by omega) (.int .i64 4) (.int .i64 ch) (.int .i64 fr) (.int .i64 bt) (.string us) (.string wo) (.string vs))
    obtain ⟨y0, y1, y2, y3, y4, y5, y6⟩ := bR.seven
    trace_state
    go_wp2
    refine bodyPost_ret (v := .tuple #[.agg #[.int .i64 4, .int .i64 ch, .int .i64 fr, .int .i64 bt, .string us, .string wo, .string vs], .slice (some ⟨B5, 0, none⟩) 1 1, .int .i64 0]) ?_ rfl ⟨some ⟨B5, 0, none⟩, 1, 1, by rw [HG.out]; rfl, by rw [HG.out]; exact HS.out, hBz⟩
    rw [results_ctt rfl]
    simp [asAddr, Result.andThen, go_sem, y0, y1, y2, y3, y4, y5, y6]
end Go.Proofs.YtebkolhibifbpaaGreatDoor
