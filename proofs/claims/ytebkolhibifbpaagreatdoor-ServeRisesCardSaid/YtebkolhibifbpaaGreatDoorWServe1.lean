/-
  serve's states that only say or refuse: header, closed, run, closing; nothing that was there is changed. No condition.
-/
import Derived.Test.YtebkolhibifbpaaGreatDoorWServe0
namespace Go.Proofs.YtebkolhibifbpaaGreatDoor
open Go.RowKit

/-- what a state's taking answers -/
def TnPost (r : Tn) (w : World) (e : Ending) (w' : World) : Prop := ∃ A k c, e = .returned (.tuple #[encHd r.k, .slice A k c, .int .i64 r.e]) ∧ SaidAt w.heap.size w' A k r.s ∧ Below w.heap.size w w'
set_option maxRecDepth 100000 in
set_option maxHeartbeats 2000000 in
theorem header_any (h : Hd) (m : Me) (A : Option Addr) (cap : Nat) (w : World) : Calls Tryz.prog 23 #[encHd h, encM m A cap] w (TnPost (hRefuse h 8) w) := by
  obtain ⟨st, ch, fr, bt, us, wo, ho⟩ := h
  obtain ⟨mc, mi, ml⟩ := m
  unfold encHd encM
  dsimp only
  obtain ⟨r, HG⟩ : ∃ r, Hid (r = hRefuse ⟨st, ch, fr, bt, us, wo, ho⟩ 8) := ⟨_, Lib.hid rfl⟩
  rw [← HG.out]
  unfold TnPost
  obtain ⟨W0, hW0⟩ : ∃ W0, W0 = ((w.alloc (.cells #[.int .i64 st, .int .i64 ch, .int .i64 fr, .int .i64 bt, .string us, .string wo, .string ho] 53)).alloc (.cells #[.int .i64 mc, .int .i64 mi, .slice A ml.length cap] 37)).alloc (.cells #[.int .i64 0, .int .i64 0, .int .i64 0, .int .i64 0, .string ⟨#[]⟩, .string ⟨#[]⟩, .string ⟨#[]⟩] 27) := ⟨_, rfl⟩
  have hb0 : Below w.heap.size w W0 := by rw [hW0]; exact (((Below.refl _ w).alloc (Nat.le_refl _) _).alloc (by simp) _).alloc (by simp; omega) _
  have hs0 : W0.heap.size = w.heap.size + 1 + 1 + 1 := by rw [hW0]; simp
  have hx : Bx W0 w.heap.size 53 [.int .i64 st, .int .i64 ch, .int .i64 fr, .int .i64 bt, .string us, .string wo, .string ho] := by rw [hW0]; exact ((Bx.new w 53 [.int .i64 st, .int .i64 ch, .int .i64 fr, .int .i64 bt, .string us, .string wo, .string ho]).alloc _).alloc _
  have hm : Bx W0 (w.heap.size + 1) 37 [.int .i64 mc, .int .i64 mi, .slice A ml.length cap] := by
    have h := (Bx.new (w.alloc (.cells #[.int .i64 st, .int .i64 ch, .int .i64 fr, .int .i64 bt, .string us, .string wo, .string ho] 53)) 37 [.int .i64 mc, .int .i64 mi, .slice A ml.length cap]).alloc (.cells #[.int .i64 0, .int .i64 0, .int .i64 0, .int .i64 0, .string ⟨#[]⟩, .string ⟨#[]⟩, .string ⟨#[]⟩] 27)
    rw [World.size_alloc] at h
    rw [hW0]; exact h
  have hr : Bx W0 (w.heap.size + 1 + 1) 27 [.int .i64 0, .int .i64 0, .int .i64 0, .int .i64 0, .string ⟨#[]⟩, .string ⟨#[]⟩, .string ⟨#[]⟩] := by
    have h := Bx.new ((w.alloc (.cells #[.int .i64 st, .int .i64 ch, .int .i64 fr, .int .i64 bt, .string us, .string wo, .string ho] 53)).alloc (.cells #[.int .i64 mc, .int .i64 mi, .slice A ml.length cap] 37)) 27 [.int .i64 0, .int .i64 0, .int .i64 0, .int .i64 0, .string ⟨#[]⟩, .string ⟨#[]⟩, .string ⟨#[]⟩]
    rw [World.size_alloc, World.size_alloc] at h
    rw [hW0]; exact h
  have hC := refuse_any ⟨st, ch, fr, bt, us, wo, ho⟩ 8 W0
  try unfold encHd at *
  try dsimp only at *
  go_enter Tryz.func23, Tryz.ntmps23
  go_wp2_with fail
  rw [← hW0]
  clear hW0
  with_reducible refine hC.mono ?_
  rintro e w9 ⟨rfl, hb9⟩
  have hB9 := hb0.trans (hb9.mono hb0.size)
  replace hr := hr.kept hb9
  clear hC
  obtain ⟨a0, f0, a1, f1, a2, f2, a3, f3, a4, f4, a5, f5, a6, f6, bR⟩ := hr.store7 (.int .i64 st) (.int .i64 ch) (.int .i64 fr) (.int .i64 bt) (.string us) (.string wo) (.string ho)
  have hBz := below_store7 hB9 (B := w.heap.size + 1 + 1) (by omega) (.int .i64 st) (.int .i64 ch) (.int .i64 fr) (.int .i64 bt) (.string us) (.string wo) (.string ho)
  have HS := Lib.hid (SaidAt.store7 (w := w9) (n' := w.heap.size) (n := w.heap.size + 1 + 1 + 1) (s := none) (A := none) (k := 0) ⟨rfl, rfl⟩ (by omega) (B := w.heap.size + 1 + 1) (by omega) (.int .i64 st) (.int .i64 ch) (.int .i64 fr) (.int .i64 bt) (.string us) (.string wo) (.string ho))
  obtain ⟨y0, y1, y2, y3, y4, y5, y6⟩ := bR.seven
  clear bR hx hm hr hs0 hB9 
  go_wp2
  first | refine bodyPost_ret (v := .tuple #[.agg #[.int .i64 st, .int .i64 ch, .int .i64 fr, .int .i64 bt, .string us, .string wo, .string ho], .slice none 0 0, .int .i64 8]) ?_ rfl ⟨none, 0, 0, by rw [HG.out] <;> rfl, by rw [HG.out]; exact HS.out, hBz⟩ | refine bodyPost_ret (v := .tuple #[.agg #[.int .i64 st, .int .i64 ch, .int .i64 fr, .int .i64 bt, .string us, .string wo, .string ho], .slice none 0 0, .int .i64 8]) ?_ rfl ⟨none, 0, ⟨0, by rw [HG.out] <;> rfl⟩, by rw [HG.out]; exact HS.out, hBz⟩
  rw [results_ctt rfl]
  simp [asAddr, Result.andThen, go_sem, y0, y1, y2, y3, y4, y5, y6]
set_option maxRecDepth 100000 in
set_option maxHeartbeats 2000000 in
theorem closed_any (h : Hd) (m : Me) (A : Option Addr) (cap : Nat) (w : World) : Calls Tryz.prog 29 #[encHd h, encM m A cap] w (TnPost (hClosed h) w) := by
  unfold hClosed
  obtain ⟨st, ch, fr, bt, us, wo, ho⟩ := h
  obtain ⟨mc, mi, ml⟩ := m
  unfold encHd encM
  dsimp only
  obtain ⟨r, HG⟩ : ∃ r, Hid (r = hSilent ⟨st, ch, fr, bt, us, wo, ho⟩ 6) := ⟨_, Lib.hid rfl⟩
  rw [← HG.out]
  unfold TnPost
  obtain ⟨W0, hW0⟩ : ∃ W0, W0 = ((w.alloc (.cells #[.int .i64 st, .int .i64 ch, .int .i64 fr, .int .i64 bt, .string us, .string wo, .string ho] 53)).alloc (.cells #[.int .i64 mc, .int .i64 mi, .slice A ml.length cap] 37)).alloc (.cells #[.int .i64 0, .int .i64 0, .int .i64 0, .int .i64 0, .string ⟨#[]⟩, .string ⟨#[]⟩, .string ⟨#[]⟩] 27) := ⟨_, rfl⟩
  have hb0 : Below w.heap.size w W0 := by rw [hW0]; exact (((Below.refl _ w).alloc (Nat.le_refl _) _).alloc (by simp) _).alloc (by simp; omega) _
  have hs0 : W0.heap.size = w.heap.size + 1 + 1 + 1 := by rw [hW0]; simp
  have hx : Bx W0 w.heap.size 53 [.int .i64 st, .int .i64 ch, .int .i64 fr, .int .i64 bt, .string us, .string wo, .string ho] := by rw [hW0]; exact ((Bx.new w 53 [.int .i64 st, .int .i64 ch, .int .i64 fr, .int .i64 bt, .string us, .string wo, .string ho]).alloc _).alloc _
  have hm : Bx W0 (w.heap.size + 1) 37 [.int .i64 mc, .int .i64 mi, .slice A ml.length cap] := by
    have h := (Bx.new (w.alloc (.cells #[.int .i64 st, .int .i64 ch, .int .i64 fr, .int .i64 bt, .string us, .string wo, .string ho] 53)) 37 [.int .i64 mc, .int .i64 mi, .slice A ml.length cap]).alloc (.cells #[.int .i64 0, .int .i64 0, .int .i64 0, .int .i64 0, .string ⟨#[]⟩, .string ⟨#[]⟩, .string ⟨#[]⟩] 27)
    rw [World.size_alloc] at h
    rw [hW0]; exact h
  have hr : Bx W0 (w.heap.size + 1 + 1) 27 [.int .i64 0, .int .i64 0, .int .i64 0, .int .i64 0, .string ⟨#[]⟩, .string ⟨#[]⟩, .string ⟨#[]⟩] := by
    have h := Bx.new ((w.alloc (.cells #[.int .i64 st, .int .i64 ch, .int .i64 fr, .int .i64 bt, .string us, .string wo, .string ho] 53)).alloc (.cells #[.int .i64 mc, .int .i64 mi, .slice A ml.length cap] 37)) 27 [.int .i64 0, .int .i64 0, .int .i64 0, .int .i64 0, .string ⟨#[]⟩, .string ⟨#[]⟩, .string ⟨#[]⟩]
    rw [World.size_alloc, World.size_alloc] at h
    rw [hW0]; exact h
  have hC := silent_any ⟨st, ch, fr, bt, us, wo, ho⟩ 6 W0
  try unfold encHd at *
  try dsimp only at *
  go_enter Tryz.func29, Tryz.ntmps29
  go_wp2_with fail
  rw [← hW0]
  clear hW0
  with_reducible refine hC.mono ?_
  rintro e w9 ⟨rfl, hb9⟩
  have hB9 := hb0.trans (hb9.mono hb0.size)
  replace hr := hr.kept hb9
  clear hC
  obtain ⟨a0, f0, a1, f1, a2, f2, a3, f3, a4, f4, a5, f5, a6, f6, bR⟩ := hr.store7 (.int .i64 6) (.int .i64 ch) (.int .i64 fr) (.int .i64 bt) (.string us) (.string wo) (.string ho)
  have hBz := below_store7 hB9 (B := w.heap.size + 1 + 1) (by omega) (.int .i64 6) (.int .i64 ch) (.int .i64 fr) (.int .i64 bt) (.string us) (.string wo) (.string ho)
  have HS := Lib.hid (SaidAt.store7 (w := w9) (n' := w.heap.size) (n := w.heap.size + 1 + 1 + 1) (s := none) (A := none) (k := 0) ⟨rfl, rfl⟩ (by omega) (B := w.heap.size + 1 + 1) (by omega) (.int .i64 6) (.int .i64 ch) (.int .i64 fr) (.int .i64 bt) (.string us) (.string wo) (.string ho))
  obtain ⟨y0, y1, y2, y3, y4, y5, y6⟩ := bR.seven
  clear bR hx hm hr hs0 hB9 
  go_wp2
  first | refine bodyPost_ret (v := .tuple #[.agg #[.int .i64 6, .int .i64 ch, .int .i64 fr, .int .i64 bt, .string us, .string wo, .string ho], .slice none 0 0, .int .i64 0]) ?_ rfl ⟨none, 0, 0, by rw [HG.out] <;> rfl, by rw [HG.out]; exact HS.out, hBz⟩ | refine bodyPost_ret (v := .tuple #[.agg #[.int .i64 6, .int .i64 ch, .int .i64 fr, .int .i64 bt, .string us, .string wo, .string ho], .slice none 0 0, .int .i64 0]) ?_ rfl ⟨none, 0, ⟨0, by rw [HG.out] <;> rfl⟩, by rw [HG.out]; exact HS.out, hBz⟩
  rw [results_ctt rfl]
  simp [asAddr, Result.andThen, go_sem, y0, y1, y2, y3, y4, y5, y6]
set_option maxRecDepth 100000 in
set_option maxHeartbeats 2000000 in
theorem run_any (h : Hd) (m : Me) (A : Option Addr) (cap : Nat) (w : World) : Calls Tryz.prog 27 #[encHd h, encM m A cap] w (TnPost (hRun h m) w) := by
  obtain ⟨st, ch, fr, bt, us, wo, ho⟩ := h
  obtain ⟨mc, mi, ml⟩ := m
  unfold encHd encM
  dsimp only
  obtain ⟨r, HG⟩ : ∃ r, Hid (r = hRun ⟨st, ch, fr, bt, us, wo, ho⟩ ⟨mc, mi, ml⟩) := ⟨_, Lib.hid rfl⟩
  rw [← HG.out]
  unfold TnPost
  have HF : Hid (r = if (mc == 10 && mi == 50) = true then hSay ⟨st, ch, fr, bt, us, wo, ho⟩ 6 51 [] else hRefuse ⟨st, ch, fr, bt, us, wo, ho⟩ 8) := Lib.hid HG.out
  clear HG
  obtain ⟨q, hq⟩ : ∃ q, (mc == 10 && mi == 50) = q := ⟨_, rfl⟩
  rw [hq] at HF
  obtain ⟨W0, hW0⟩ : ∃ W0, W0 = ((w.alloc (.cells #[.int .i64 st, .int .i64 ch, .int .i64 fr, .int .i64 bt, .string us, .string wo, .string ho] 53)).alloc (.cells #[.int .i64 mc, .int .i64 mi, .slice A ml.length cap] 37)).alloc (.cells #[.int .i64 0, .int .i64 0, .int .i64 0, .int .i64 0, .string ⟨#[]⟩, .string ⟨#[]⟩, .string ⟨#[]⟩] 27) := ⟨_, rfl⟩
  have hb0 : Below w.heap.size w W0 := by rw [hW0]; exact (((Below.refl _ w).alloc (Nat.le_refl _) _).alloc (by simp) _).alloc (by simp; omega) _
  have hs0 : W0.heap.size = w.heap.size + 1 + 1 + 1 := by rw [hW0]; simp
  have hx : Bx W0 w.heap.size 53 [.int .i64 st, .int .i64 ch, .int .i64 fr, .int .i64 bt, .string us, .string wo, .string ho] := by rw [hW0]; exact ((Bx.new w 53 [.int .i64 st, .int .i64 ch, .int .i64 fr, .int .i64 bt, .string us, .string wo, .string ho]).alloc _).alloc _
  have hm : Bx W0 (w.heap.size + 1) 37 [.int .i64 mc, .int .i64 mi, .slice A ml.length cap] := by
    have h := (Bx.new (w.alloc (.cells #[.int .i64 st, .int .i64 ch, .int .i64 fr, .int .i64 bt, .string us, .string wo, .string ho] 53)) 37 [.int .i64 mc, .int .i64 mi, .slice A ml.length cap]).alloc (.cells #[.int .i64 0, .int .i64 0, .int .i64 0, .int .i64 0, .string ⟨#[]⟩, .string ⟨#[]⟩, .string ⟨#[]⟩] 27)
    rw [World.size_alloc] at h
    rw [hW0]; exact h
  have hr : Bx W0 (w.heap.size + 1 + 1) 27 [.int .i64 0, .int .i64 0, .int .i64 0, .int .i64 0, .string ⟨#[]⟩, .string ⟨#[]⟩, .string ⟨#[]⟩] := by
    have h := Bx.new ((w.alloc (.cells #[.int .i64 st, .int .i64 ch, .int .i64 fr, .int .i64 bt, .string us, .string wo, .string ho] 53)).alloc (.cells #[.int .i64 mc, .int .i64 mi, .slice A ml.length cap] 37)) 27 [.int .i64 0, .int .i64 0, .int .i64 0, .int .i64 0, .string ⟨#[]⟩, .string ⟨#[]⟩, .string ⟨#[]⟩]
    rw [World.size_alloc, World.size_alloc] at h
    rw [hW0]; exact h
  have hI := is_any mc mi A ml.length cap 50 W0
  try unfold encHd at *
  try dsimp only at *
  rw [hq] at hI
  clear hq
  go_enter Tryz.func27, Tryz.ntmps27
  go_wp2_with fail
  rw [← hW0]
  clear hW0
  with_reducible refine hI.mono ?_
  rintro e w1 ⟨rfl, hb1⟩
  have hB := hb0.trans (hb1.mono hb0.size)
  replace hx := hx.kept hb1
  replace hm := hm.kept hb1
  replace hr := hr.kept hb1
  clear hI hb1 hb0
  cases q
  · have HG : Hid (r = hRefuse ⟨st, ch, fr, bt, us, wo, ho⟩ 8) := Lib.hid (by rw [HF.out]; rfl)
    clear HF
    obtain ⟨x0, x1, x2, x3, x4, x5, x6⟩ := hx.seven
    have hC := refuse_any ⟨st, ch, fr, bt, us, wo, ho⟩ 8 w1
    unfold encHd at hC
    dsimp only at hC
    go_wp2_with fail
    with_reducible refine hC.mono ?_
    rintro e w9 ⟨rfl, hb9⟩
    have hB9 := hB.trans (hb9.mono hB.size)
    replace hr := hr.kept hb9
    clear hC x0 x1 x2 x3 x4 x5 x6 
    obtain ⟨a0, f0, a1, f1, a2, f2, a3, f3, a4, f4, a5, f5, a6, f6, bR⟩ := hr.store7 (.int .i64 st) (.int .i64 ch) (.int .i64 fr) (.int .i64 bt) (.string us) (.string wo) (.string ho)
    have hBz := below_store7 hB9 (B := w.heap.size + 1 + 1) (by omega) (.int .i64 st) (.int .i64 ch) (.int .i64 fr) (.int .i64 bt) (.string us) (.string wo) (.string ho)
    have HS := Lib.hid (SaidAt.store7 (w := w9) (n' := w.heap.size) (n := w.heap.size + 1 + 1 + 1) (s := none) (A := none) (k := 0) ⟨rfl, rfl⟩ (by omega) (B := w.heap.size + 1 + 1) (by omega) (.int .i64 st) (.int .i64 ch) (.int .i64 fr) (.int .i64 bt) (.string us) (.string wo) (.string ho))
    obtain ⟨y0, y1, y2, y3, y4, y5, y6⟩ := bR.seven
    clear bR hx hm hr hs0 hB9 
    go_wp2
    first | refine bodyPost_ret (v := .tuple #[.agg #[.int .i64 st, .int .i64 ch, .int .i64 fr, .int .i64 bt, .string us, .string wo, .string ho], .slice none 0 0, .int .i64 8]) ?_ rfl ⟨none, 0, 0, by rw [HG.out] <;> rfl, by rw [HG.out]; exact HS.out, hBz⟩ | refine bodyPost_ret (v := .tuple #[.agg #[.int .i64 st, .int .i64 ch, .int .i64 fr, .int .i64 bt, .string us, .string wo, .string ho], .slice none 0 0, .int .i64 8]) ?_ rfl ⟨none, 0, ⟨0, by rw [HG.out] <;> rfl⟩, by rw [HG.out]; exact HS.out, hBz⟩
    rw [results_ctt rfl]
    simp [asAddr, Result.andThen, go_sem, y0, y1, y2, y3, y4, y5, y6]
  · have HG : Hid (r = hSay ⟨st, ch, fr, bt, us, wo, ho⟩ 6 51 []) := Lib.hid (by rw [HF.out]; rfl)
    clear HF
    obtain ⟨x0, x1, x2, x3, x4, x5, x6⟩ := hx.seven
    have hC := say_any ⟨st, ch, fr, bt, us, wo, ho⟩ 6 51 none [] 0 0 (w.heap.size + 1 + 1 + 1) w1 rfl (.inl rfl) (by have := hB.size; have := hr.lt; omega)
    unfold encHd at hC
    dsimp only at hC
    go_wp2_with fail
    with_reducible refine hC.mono ?_
    rintro e w9 ⟨B9, rfl, hS, hb9⟩
    have hB9 := hB.trans (hb9.mono hB.size)
    replace hr := hr.kept hb9
    clear hC x0 x1 x2 x3 x4 x5 x6 
    obtain ⟨a0, f0, a1, f1, a2, f2, a3, f3, a4, f4, a5, f5, a6, f6, bR⟩ := hr.store7 (.int .i64 6) (.int .i64 ch) (.int .i64 fr) (.int .i64 bt) (.string us) (.string wo) (.string ho)
    have hBz := below_store7 hB9 (B := w.heap.size + 1 + 1) (by omega) (.int .i64 6) (.int .i64 ch) (.int .i64 fr) (.int .i64 bt) (.string us) (.string wo) (.string ho)
    have HS := Lib.hid (SaidAt.store7 (w := w9) (n' := w.heap.size) hS (by omega) (B := w.heap.size + 1 + 1) (by omega) (.int .i64 6) (.int .i64 ch) (.int .i64 fr) (.int .i64 bt) (.string us) (.string wo) (.string ho))
    obtain ⟨y0, y1, y2, y3, y4, y5, y6⟩ := bR.seven
    clear bR hx hm hr hs0 hB9 
    go_wp2
    first | refine bodyPost_ret (v := .tuple #[.agg #[.int .i64 6, .int .i64 ch, .int .i64 fr, .int .i64 bt, .string us, .string wo, .string ho], .slice (some ⟨B9, 0, none⟩) 1 1, .int .i64 0]) ?_ rfl ⟨(some ⟨B9, 0, none⟩), 1, 1, by rw [HG.out] <;> rfl, by rw [HG.out]; exact HS.out, hBz⟩ | refine bodyPost_ret (v := .tuple #[.agg #[.int .i64 6, .int .i64 ch, .int .i64 fr, .int .i64 bt, .string us, .string wo, .string ho], .slice (some ⟨B9, 0, none⟩) 1 1, .int .i64 0]) ?_ rfl ⟨(some ⟨B9, 0, none⟩), 1, ⟨1, by rw [HG.out] <;> rfl⟩, by rw [HG.out]; exact HS.out, hBz⟩
    rw [results_ctt rfl]
    simp [asAddr, Result.andThen, go_sem, y0, y1, y2, y3, y4, y5, y6]
set_option maxRecDepth 100000 in
set_option maxHeartbeats 2000000 in
theorem closing_any (h : Hd) (m : Me) (A : Option Addr) (cap : Nat) (w : World) : Calls Tryz.prog 28 #[encHd h, encM m A cap] w (TnPost (hClosing h m) w) := by
  obtain ⟨st, ch, fr, bt, us, wo, ho⟩ := h
  obtain ⟨mc, mi, ml⟩ := m
  unfold encHd encM
  dsimp only
  obtain ⟨r, HG⟩ : ∃ r, Hid (r = hClosing ⟨st, ch, fr, bt, us, wo, ho⟩ ⟨mc, mi, ml⟩) := ⟨_, Lib.hid rfl⟩
  rw [← HG.out]
  unfold TnPost
  have HF : Hid (r = if (mc == 10 && mi == 50) = true then hSay ⟨st, ch, fr, bt, us, wo, ho⟩ 5 51 [] else if (mc == 10 && mi == 51) = true then hSilent ⟨st, ch, fr, bt, us, wo, ho⟩ 6 else hSilent ⟨st, ch, fr, bt, us, wo, ho⟩ 5) := Lib.hid HG.out
  clear HG
  obtain ⟨q, hq⟩ : ∃ q, (mc == 10 && mi == 50) = q := ⟨_, rfl⟩
  obtain ⟨p, hp⟩ : ∃ p, (mc == 10 && mi == 51) = p := ⟨_, rfl⟩
  rw [hq, hp] at HF
  obtain ⟨W0, hW0⟩ : ∃ W0, W0 = ((w.alloc (.cells #[.int .i64 st, .int .i64 ch, .int .i64 fr, .int .i64 bt, .string us, .string wo, .string ho] 53)).alloc (.cells #[.int .i64 mc, .int .i64 mi, .slice A ml.length cap] 37)).alloc (.cells #[.int .i64 0, .int .i64 0, .int .i64 0, .int .i64 0, .string ⟨#[]⟩, .string ⟨#[]⟩, .string ⟨#[]⟩] 27) := ⟨_, rfl⟩
  have hb0 : Below w.heap.size w W0 := by rw [hW0]; exact (((Below.refl _ w).alloc (Nat.le_refl _) _).alloc (by simp) _).alloc (by simp; omega) _
  have hs0 : W0.heap.size = w.heap.size + 1 + 1 + 1 := by rw [hW0]; simp
  have hx : Bx W0 w.heap.size 53 [.int .i64 st, .int .i64 ch, .int .i64 fr, .int .i64 bt, .string us, .string wo, .string ho] := by rw [hW0]; exact ((Bx.new w 53 [.int .i64 st, .int .i64 ch, .int .i64 fr, .int .i64 bt, .string us, .string wo, .string ho]).alloc _).alloc _
  have hm : Bx W0 (w.heap.size + 1) 37 [.int .i64 mc, .int .i64 mi, .slice A ml.length cap] := by
    have h := (Bx.new (w.alloc (.cells #[.int .i64 st, .int .i64 ch, .int .i64 fr, .int .i64 bt, .string us, .string wo, .string ho] 53)) 37 [.int .i64 mc, .int .i64 mi, .slice A ml.length cap]).alloc (.cells #[.int .i64 0, .int .i64 0, .int .i64 0, .int .i64 0, .string ⟨#[]⟩, .string ⟨#[]⟩, .string ⟨#[]⟩] 27)
    rw [World.size_alloc] at h
    rw [hW0]; exact h
  have hr : Bx W0 (w.heap.size + 1 + 1) 27 [.int .i64 0, .int .i64 0, .int .i64 0, .int .i64 0, .string ⟨#[]⟩, .string ⟨#[]⟩, .string ⟨#[]⟩] := by
    have h := Bx.new ((w.alloc (.cells #[.int .i64 st, .int .i64 ch, .int .i64 fr, .int .i64 bt, .string us, .string wo, .string ho] 53)).alloc (.cells #[.int .i64 mc, .int .i64 mi, .slice A ml.length cap] 37)) 27 [.int .i64 0, .int .i64 0, .int .i64 0, .int .i64 0, .string ⟨#[]⟩, .string ⟨#[]⟩, .string ⟨#[]⟩]
    rw [World.size_alloc, World.size_alloc] at h
    rw [hW0]; exact h
  have hI := is_any mc mi A ml.length cap 50 W0
  have hJ := fun W => is_any mc mi A ml.length cap 51 W
  try unfold encHd at *
  try dsimp only at *
  rw [hq] at hI
  rw [hp] at hJ
  clear hq hp
  go_enter Tryz.func28, Tryz.ntmps28
  go_wp2_with fail
  rw [← hW0]
  clear hW0
  with_reducible refine hI.mono ?_
  rintro e w1 ⟨rfl, hb1⟩
  have hB := hb0.trans (hb1.mono hb0.size)
  replace hx := hx.kept hb1
  replace hm := hm.kept hb1
  replace hr := hr.kept hb1
  clear hI hb1 hb0
  cases q
  · obtain ⟨m0, m1, m2⟩ := hm.three
    go_wp2_with fail
    with_reducible refine (hJ _).mono ?_
    rintro e w2 ⟨rfl, hb2⟩
    have hB2 := hB.trans (hb2.mono hB.size)
    replace hx := hx.kept hb2
    replace hm := hm.kept hb2
    replace hr := hr.kept hb2
    clear hJ hb2 hB m0 m1 m2
    cases p
    · have HG : Hid (r = hSilent ⟨st, ch, fr, bt, us, wo, ho⟩ 5) := Lib.hid (by rw [HF.out]; rfl)
      clear HF
      obtain ⟨x0, x1, x2, x3, x4, x5, x6⟩ := hx.seven
      have hC := silent_any ⟨st, ch, fr, bt, us, wo, ho⟩ 5 w2
      unfold encHd at hC
      dsimp only at hC
      go_wp2_with fail
      with_reducible refine hC.mono ?_
      rintro e w9 ⟨rfl, hb9⟩
      have hB9 := hB2.trans (hb9.mono hB2.size)
      replace hr := hr.kept hb9
      clear hC x0 x1 x2 x3 x4 x5 x6 
      obtain ⟨a0, f0, a1, f1, a2, f2, a3, f3, a4, f4, a5, f5, a6, f6, bR⟩ := hr.store7 (.int .i64 5) (.int .i64 ch) (.int .i64 fr) (.int .i64 bt) (.string us) (.string wo) (.string ho)
      have hBz := below_store7 hB9 (B := w.heap.size + 1 + 1) (by omega) (.int .i64 5) (.int .i64 ch) (.int .i64 fr) (.int .i64 bt) (.string us) (.string wo) (.string ho)
      have HS := Lib.hid (SaidAt.store7 (w := w9) (n' := w.heap.size) (n := w.heap.size + 1 + 1 + 1) (s := none) (A := none) (k := 0) ⟨rfl, rfl⟩ (by omega) (B := w.heap.size + 1 + 1) (by omega) (.int .i64 5) (.int .i64 ch) (.int .i64 fr) (.int .i64 bt) (.string us) (.string wo) (.string ho))
      obtain ⟨y0, y1, y2, y3, y4, y5, y6⟩ := bR.seven
      clear bR hx hm hr hs0 hB9 
      go_wp2
      first | refine bodyPost_ret (v := .tuple #[.agg #[.int .i64 5, .int .i64 ch, .int .i64 fr, .int .i64 bt, .string us, .string wo, .string ho], .slice none 0 0, .int .i64 0]) ?_ rfl ⟨none, 0, 0, by rw [HG.out] <;> rfl, by rw [HG.out]; exact HS.out, hBz⟩ | refine bodyPost_ret (v := .tuple #[.agg #[.int .i64 5, .int .i64 ch, .int .i64 fr, .int .i64 bt, .string us, .string wo, .string ho], .slice none 0 0, .int .i64 0]) ?_ rfl ⟨none, 0, ⟨0, by rw [HG.out] <;> rfl⟩, by rw [HG.out]; exact HS.out, hBz⟩
      rw [results_ctt rfl]
      simp [asAddr, Result.andThen, go_sem, y0, y1, y2, y3, y4, y5, y6]
    · have HG : Hid (r = hSilent ⟨st, ch, fr, bt, us, wo, ho⟩ 6) := Lib.hid (by rw [HF.out]; rfl)
      clear HF
      obtain ⟨x0, x1, x2, x3, x4, x5, x6⟩ := hx.seven
      have hC := silent_any ⟨st, ch, fr, bt, us, wo, ho⟩ 6 w2
      unfold encHd at hC
      dsimp only at hC
      go_wp2_with fail
      with_reducible refine hC.mono ?_
      rintro e w9 ⟨rfl, hb9⟩
      have hB9 := hB2.trans (hb9.mono hB2.size)
      replace hr := hr.kept hb9
      clear hC x0 x1 x2 x3 x4 x5 x6 
      obtain ⟨a0, f0, a1, f1, a2, f2, a3, f3, a4, f4, a5, f5, a6, f6, bR⟩ := hr.store7 (.int .i64 6) (.int .i64 ch) (.int .i64 fr) (.int .i64 bt) (.string us) (.string wo) (.string ho)
      have hBz := below_store7 hB9 (B := w.heap.size + 1 + 1) (by omega) (.int .i64 6) (.int .i64 ch) (.int .i64 fr) (.int .i64 bt) (.string us) (.string wo) (.string ho)
      have HS := Lib.hid (SaidAt.store7 (w := w9) (n' := w.heap.size) (n := w.heap.size + 1 + 1 + 1) (s := none) (A := none) (k := 0) ⟨rfl, rfl⟩ (by omega) (B := w.heap.size + 1 + 1) (by omega) (.int .i64 6) (.int .i64 ch) (.int .i64 fr) (.int .i64 bt) (.string us) (.string wo) (.string ho))
      obtain ⟨y0, y1, y2, y3, y4, y5, y6⟩ := bR.seven
      clear bR hx hm hr hs0 hB9 
      go_wp2
      first | refine bodyPost_ret (v := .tuple #[.agg #[.int .i64 6, .int .i64 ch, .int .i64 fr, .int .i64 bt, .string us, .string wo, .string ho], .slice none 0 0, .int .i64 0]) ?_ rfl ⟨none, 0, 0, by rw [HG.out] <;> rfl, by rw [HG.out]; exact HS.out, hBz⟩ | refine bodyPost_ret (v := .tuple #[.agg #[.int .i64 6, .int .i64 ch, .int .i64 fr, .int .i64 bt, .string us, .string wo, .string ho], .slice none 0 0, .int .i64 0]) ?_ rfl ⟨none, 0, ⟨0, by rw [HG.out] <;> rfl⟩, by rw [HG.out]; exact HS.out, hBz⟩
      rw [results_ctt rfl]
      simp [asAddr, Result.andThen, go_sem, y0, y1, y2, y3, y4, y5, y6]
  · have HG : Hid (r = hSay ⟨st, ch, fr, bt, us, wo, ho⟩ 5 51 []) := Lib.hid (by rw [HF.out]; rfl)
    clear HF hJ
    obtain ⟨x0, x1, x2, x3, x4, x5, x6⟩ := hx.seven
    have hC := say_any ⟨st, ch, fr, bt, us, wo, ho⟩ 5 51 none [] 0 0 (w.heap.size + 1 + 1 + 1) w1 rfl (.inl rfl) (by have := hB.size; have := hr.lt; omega)
    unfold encHd at hC
    dsimp only at hC
    go_wp2_with fail
    with_reducible refine hC.mono ?_
    rintro e w9 ⟨B9, rfl, hS, hb9⟩
    have hB9 := hB.trans (hb9.mono hB.size)
    replace hr := hr.kept hb9
    clear hC x0 x1 x2 x3 x4 x5 x6 
    obtain ⟨a0, f0, a1, f1, a2, f2, a3, f3, a4, f4, a5, f5, a6, f6, bR⟩ := hr.store7 (.int .i64 5) (.int .i64 ch) (.int .i64 fr) (.int .i64 bt) (.string us) (.string wo) (.string ho)
    have hBz := below_store7 hB9 (B := w.heap.size + 1 + 1) (by omega) (.int .i64 5) (.int .i64 ch) (.int .i64 fr) (.int .i64 bt) (.string us) (.string wo) (.string ho)
    have HS := Lib.hid (SaidAt.store7 (w := w9) (n' := w.heap.size) hS (by omega) (B := w.heap.size + 1 + 1) (by omega) (.int .i64 5) (.int .i64 ch) (.int .i64 fr) (.int .i64 bt) (.string us) (.string wo) (.string ho))
    obtain ⟨y0, y1, y2, y3, y4, y5, y6⟩ := bR.seven
    clear bR hx hm hr hs0 hB9 
    go_wp2
    first | refine bodyPost_ret (v := .tuple #[.agg #[.int .i64 5, .int .i64 ch, .int .i64 fr, .int .i64 bt, .string us, .string wo, .string ho], .slice (some ⟨B9, 0, none⟩) 1 1, .int .i64 0]) ?_ rfl ⟨(some ⟨B9, 0, none⟩), 1, 1, by rw [HG.out] <;> rfl, by rw [HG.out]; exact HS.out, hBz⟩ | refine bodyPost_ret (v := .tuple #[.agg #[.int .i64 5, .int .i64 ch, .int .i64 fr, .int .i64 bt, .string us, .string wo, .string ho], .slice (some ⟨B9, 0, none⟩) 1 1, .int .i64 0]) ?_ rfl ⟨(some ⟨B9, 0, none⟩), 1, ⟨1, by rw [HG.out] <;> rfl⟩, by rw [HG.out]; exact HS.out, hBz⟩
    rw [results_ctt rfl]
    simp [asAddr, Result.andThen, go_sem, y0, y1, y2, y3, y4, y5, y6]
end Go.Proofs.YtebkolhibifbpaaGreatDoor
