/-
  Several texts joined in one file: each says at its own head, below, what it proves, and its conditions.
-/
import Derived.Test.YtkdiccedkjbpeaaGreatDoorRWServe0
import Derived.Deep.RegionHeld3
/-
  serve's states that only say or refuse: header, closed, run, closing; nothing that was there is changed. No condition.
-/
namespace Go.Proofs.YtkdiccedkjbpeaaGreatDoorR
open Go.RowKit

/-- what a state's taking answers -/
def TnPost (r : Tn) (w : World) (e : Ending) (w' : World) : Prop := ∃ A k c, e = .returned (.tuple #[encHd r.k, .slice A k c, .int .i64 r.e]) ∧ SaidAt w.heap.size w' A k r.s ∧ Below w.heap.size w w'
set_option maxRecDepth 100000 in
set_option maxHeartbeats 2000000 in
theorem header_any (h : Hd) (m : Me) (A : Option Addr) (cap : Nat) (w : World) : Calls Tryz.prog 35 #[encHd h, encM m A cap] w (TnPost (hRefuse h 8) w) := by
  obtain ⟨st, ch, fr, bt, us, wo, ho⟩ := h
  obtain ⟨mc, mi, ml⟩ := m
  unfold encHd encM
  dsimp only
  obtain ⟨r, HG⟩ : ∃ r, Hid (r = hRefuse ⟨st, ch, fr, bt, us, wo, ho⟩ 8) := ⟨_, Lib.hid rfl⟩
  rw [← HG.out]
  unfold TnPost
  obtain ⟨W0, hW0⟩ : ∃ W0, W0 = ((w.alloc (.cells #[.int .i64 st, .int .i64 ch, .int .i64 fr, .int .i64 bt, .string us, .string wo, .string ho] 63)).alloc (.cells #[.int .i64 mc, .int .i64 mi, .slice A ml.length cap] 39)).alloc (.cells #[.int .i64 0, .int .i64 0, .int .i64 0, .int .i64 0, .string ⟨#[]⟩, .string ⟨#[]⟩, .string ⟨#[]⟩] 28) := ⟨_, rfl⟩
  have hb0 : Below w.heap.size w W0 := by rw [hW0]; exact (((Below.refl _ w).alloc (Nat.le_refl _) _).alloc (by simp) _).alloc (by simp; omega) _
  have hs0 : W0.heap.size = w.heap.size + 1 + 1 + 1 := by rw [hW0]; simp
  have hx : Bx W0 w.heap.size 63 [.int .i64 st, .int .i64 ch, .int .i64 fr, .int .i64 bt, .string us, .string wo, .string ho] := by rw [hW0]; exact ((Bx.new w 63 [.int .i64 st, .int .i64 ch, .int .i64 fr, .int .i64 bt, .string us, .string wo, .string ho]).alloc _).alloc _
  have hm : Bx W0 (w.heap.size + 1) 39 [.int .i64 mc, .int .i64 mi, .slice A ml.length cap] := by
    have h := (Bx.new (w.alloc (.cells #[.int .i64 st, .int .i64 ch, .int .i64 fr, .int .i64 bt, .string us, .string wo, .string ho] 63)) 39 [.int .i64 mc, .int .i64 mi, .slice A ml.length cap]).alloc (.cells #[.int .i64 0, .int .i64 0, .int .i64 0, .int .i64 0, .string ⟨#[]⟩, .string ⟨#[]⟩, .string ⟨#[]⟩] 28)
    rw [World.size_alloc] at h
    rw [hW0]; exact h
  have hr : Bx W0 (w.heap.size + 1 + 1) 28 [.int .i64 0, .int .i64 0, .int .i64 0, .int .i64 0, .string ⟨#[]⟩, .string ⟨#[]⟩, .string ⟨#[]⟩] := by
    have h := Bx.new ((w.alloc (.cells #[.int .i64 st, .int .i64 ch, .int .i64 fr, .int .i64 bt, .string us, .string wo, .string ho] 63)).alloc (.cells #[.int .i64 mc, .int .i64 mi, .slice A ml.length cap] 39)) 28 [.int .i64 0, .int .i64 0, .int .i64 0, .int .i64 0, .string ⟨#[]⟩, .string ⟨#[]⟩, .string ⟨#[]⟩]
    rw [World.size_alloc, World.size_alloc] at h
    rw [hW0]; exact h
  have hC := refuse_any ⟨st, ch, fr, bt, us, wo, ho⟩ 8 W0
  try unfold encHd at *
  try dsimp only at *
  go_enter Tryz.func35, Tryz.ntmps35
  go_wp2_with fail
  rw [← hW0]
  clear hW0
  with_reducible refine hC.mono ?_
  rintro e w9 ⟨rfl, hb9⟩
  have hB9 := hb0.trans (hb9.mono hb0.size)
  replace hr := hr.kept hb9
  clear hC
  obtain ⟨a0, f0, a1, f1, a2, f2, a3, f3, a4, f4, a5, f5, a6, f6, bR⟩ := hr.store7 (.int .i64 st) (.int .i64 ch) (.int .i64 fr) (.int .i64 bt) (.string us) (.string wo) (.string ho)
  have hBz := below_store7 hB9 (B := w.heap.size + 1 + 1) (by omega) (.int .i64 st) (.int .i64 ch) (.int .i64 fr) (.int .i64 bt) (.string us) (.string wo) (.string ho)
  have HS := Lib.hid (SaidAt.store7 (w := w9) (n' := w.heap.size) (n := w.heap.size + 1 + 1 + 1) (s := none) (A := none) (k := 0) ⟨rfl, rfl⟩ (by omega) (B := w.heap.size + 1 + 1) (by omega) (.int .i64 st) (.int .i64 ch) (.int .i64 fr) (.int .i64 bt) (.string us) (.string wo) (.string ho))
  obtain ⟨y0, y1, y2, y3, y4, y5, y6⟩ := bR.seven
  clear bR hx hm hr hs0 hB9 
  go_wp2
  first | refine bodyPost_ret (v := .tuple #[.agg #[.int .i64 st, .int .i64 ch, .int .i64 fr, .int .i64 bt, .string us, .string wo, .string ho], .slice none 0 0, .int .i64 8]) ?_ rfl ⟨none, 0, 0, by rw [HG.out] <;> rfl, by rw [HG.out]; exact HS.out, hBz⟩ | refine bodyPost_ret (v := .tuple #[.agg #[.int .i64 st, .int .i64 ch, .int .i64 fr, .int .i64 bt, .string us, .string wo, .string ho], .slice none 0 0, .int .i64 8]) ?_ rfl ⟨none, 0, ⟨0, by rw [HG.out] <;> rfl⟩, by rw [HG.out]; exact HS.out, hBz⟩
  rw [results_ctt rfl]
  simp [asAddr, Result.andThen, go_sem, y0, y1, y2, y3, y4, y5, y6]
set_option maxRecDepth 100000 in
set_option maxHeartbeats 2000000 in
theorem closed_any (h : Hd) (m : Me) (A : Option Addr) (cap : Nat) (w : World) : Calls Tryz.prog 41 #[encHd h, encM m A cap] w (TnPost (hClosed h) w) := by
  unfold hClosed
  obtain ⟨st, ch, fr, bt, us, wo, ho⟩ := h
  obtain ⟨mc, mi, ml⟩ := m
  unfold encHd encM
  dsimp only
  obtain ⟨r, HG⟩ : ∃ r, Hid (r = hSilent ⟨st, ch, fr, bt, us, wo, ho⟩ 6) := ⟨_, Lib.hid rfl⟩
  rw [← HG.out]
  unfold TnPost
  obtain ⟨W0, hW0⟩ : ∃ W0, W0 = ((w.alloc (.cells #[.int .i64 st, .int .i64 ch, .int .i64 fr, .int .i64 bt, .string us, .string wo, .string ho] 63)).alloc (.cells #[.int .i64 mc, .int .i64 mi, .slice A ml.length cap] 39)).alloc (.cells #[.int .i64 0, .int .i64 0, .int .i64 0, .int .i64 0, .string ⟨#[]⟩, .string ⟨#[]⟩, .string ⟨#[]⟩] 28) := ⟨_, rfl⟩
  have hb0 : Below w.heap.size w W0 := by rw [hW0]; exact (((Below.refl _ w).alloc (Nat.le_refl _) _).alloc (by simp) _).alloc (by simp; omega) _
  have hs0 : W0.heap.size = w.heap.size + 1 + 1 + 1 := by rw [hW0]; simp
  have hx : Bx W0 w.heap.size 63 [.int .i64 st, .int .i64 ch, .int .i64 fr, .int .i64 bt, .string us, .string wo, .string ho] := by rw [hW0]; exact ((Bx.new w 63 [.int .i64 st, .int .i64 ch, .int .i64 fr, .int .i64 bt, .string us, .string wo, .string ho]).alloc _).alloc _
  have hm : Bx W0 (w.heap.size + 1) 39 [.int .i64 mc, .int .i64 mi, .slice A ml.length cap] := by
    have h := (Bx.new (w.alloc (.cells #[.int .i64 st, .int .i64 ch, .int .i64 fr, .int .i64 bt, .string us, .string wo, .string ho] 63)) 39 [.int .i64 mc, .int .i64 mi, .slice A ml.length cap]).alloc (.cells #[.int .i64 0, .int .i64 0, .int .i64 0, .int .i64 0, .string ⟨#[]⟩, .string ⟨#[]⟩, .string ⟨#[]⟩] 28)
    rw [World.size_alloc] at h
    rw [hW0]; exact h
  have hr : Bx W0 (w.heap.size + 1 + 1) 28 [.int .i64 0, .int .i64 0, .int .i64 0, .int .i64 0, .string ⟨#[]⟩, .string ⟨#[]⟩, .string ⟨#[]⟩] := by
    have h := Bx.new ((w.alloc (.cells #[.int .i64 st, .int .i64 ch, .int .i64 fr, .int .i64 bt, .string us, .string wo, .string ho] 63)).alloc (.cells #[.int .i64 mc, .int .i64 mi, .slice A ml.length cap] 39)) 28 [.int .i64 0, .int .i64 0, .int .i64 0, .int .i64 0, .string ⟨#[]⟩, .string ⟨#[]⟩, .string ⟨#[]⟩]
    rw [World.size_alloc, World.size_alloc] at h
    rw [hW0]; exact h
  have hC := silent_any ⟨st, ch, fr, bt, us, wo, ho⟩ 6 W0
  try unfold encHd at *
  try dsimp only at *
  go_enter Tryz.func41, Tryz.ntmps41
  go_wp2_with fail
  rw [← hW0]
  clear hW0
  with_reducible refine hC.mono ?_
  rintro e w9 ⟨rfl, hb9⟩
  have hB9 := hb0.trans (hb9.mono hb0.size)
  replace hr := hr.kept hb9
  clear hC
  obtain ⟨a0, f0, a1, f1, a2, f2, a3, f3, a4, f4, a5, f5, a6, f6, bR⟩ := hr.store7 (.int .i64 6) (.int .i64 ch) (.int .i64 fr) (.int .i64 bt) (.string us) (.string wo) (.string ho)
  have hBz := below_store7 hB9 (B := w.heap.size + 1 + 1) (by omega) (.int .i64 6) (.int .i64 ch) (.int .i64 fr) (.int .i64 bt) (.string us) (.string wo) (.string ho)
  have HS := Lib.hid (SaidAt.store7 (w := w9) (n' := w.heap.size) (n := w.heap.size + 1 + 1 + 1) (s := none) (A := none) (k := 0) ⟨rfl, rfl⟩ (by omega) (B := w.heap.size + 1 + 1) (by omega) (.int .i64 6) (.int .i64 ch) (.int .i64 fr) (.int .i64 bt) (.string us) (.string wo) (.string ho))
  obtain ⟨y0, y1, y2, y3, y4, y5, y6⟩ := bR.seven
  clear bR hx hm hr hs0 hB9 
  go_wp2
  first | refine bodyPost_ret (v := .tuple #[.agg #[.int .i64 6, .int .i64 ch, .int .i64 fr, .int .i64 bt, .string us, .string wo, .string ho], .slice none 0 0, .int .i64 0]) ?_ rfl ⟨none, 0, 0, by rw [HG.out] <;> rfl, by rw [HG.out]; exact HS.out, hBz⟩ | refine bodyPost_ret (v := .tuple #[.agg #[.int .i64 6, .int .i64 ch, .int .i64 fr, .int .i64 bt, .string us, .string wo, .string ho], .slice none 0 0, .int .i64 0]) ?_ rfl ⟨none, 0, ⟨0, by rw [HG.out] <;> rfl⟩, by rw [HG.out]; exact HS.out, hBz⟩
  rw [results_ctt rfl]
  simp [asAddr, Result.andThen, go_sem, y0, y1, y2, y3, y4, y5, y6]
set_option maxRecDepth 100000 in
set_option maxHeartbeats 2000000 in
theorem run_any (h : Hd) (m : Me) (A : Option Addr) (cap : Nat) (w : World) : Calls Tryz.prog 39 #[encHd h, encM m A cap] w (TnPost (hRun h m) w) := by
  obtain ⟨st, ch, fr, bt, us, wo, ho⟩ := h
  obtain ⟨mc, mi, ml⟩ := m
  unfold encHd encM
  dsimp only
  obtain ⟨r, HG⟩ : ∃ r, Hid (r = hRun ⟨st, ch, fr, bt, us, wo, ho⟩ ⟨mc, mi, ml⟩) := ⟨_, Lib.hid rfl⟩
  rw [← HG.out]
  unfold TnPost
  have HF : Hid (r = if (mc == 10 && mi == 50) = true then hSay ⟨st, ch, fr, bt, us, wo, ho⟩ 6 51 [] else hRefuse ⟨st, ch, fr, bt, us, wo, ho⟩ 8) := Lib.hid HG.out
  clear HG
  obtain ⟨q, hq⟩ : ∃ q, (mc == 10 && mi == 50) = q := ⟨_, rfl⟩
  rw [hq] at HF
  obtain ⟨W0, hW0⟩ : ∃ W0, W0 = ((w.alloc (.cells #[.int .i64 st, .int .i64 ch, .int .i64 fr, .int .i64 bt, .string us, .string wo, .string ho] 63)).alloc (.cells #[.int .i64 mc, .int .i64 mi, .slice A ml.length cap] 39)).alloc (.cells #[.int .i64 0, .int .i64 0, .int .i64 0, .int .i64 0, .string ⟨#[]⟩, .string ⟨#[]⟩, .string ⟨#[]⟩] 28) := ⟨_, rfl⟩
  have hb0 : Below w.heap.size w W0 := by rw [hW0]; exact (((Below.refl _ w).alloc (Nat.le_refl _) _).alloc (by simp) _).alloc (by simp; omega) _
  have hs0 : W0.heap.size = w.heap.size + 1 + 1 + 1 := by rw [hW0]; simp
  have hx : Bx W0 w.heap.size 63 [.int .i64 st, .int .i64 ch, .int .i64 fr, .int .i64 bt, .string us, .string wo, .string ho] := by rw [hW0]; exact ((Bx.new w 63 [.int .i64 st, .int .i64 ch, .int .i64 fr, .int .i64 bt, .string us, .string wo, .string ho]).alloc _).alloc _
  have hm : Bx W0 (w.heap.size + 1) 39 [.int .i64 mc, .int .i64 mi, .slice A ml.length cap] := by
    have h := (Bx.new (w.alloc (.cells #[.int .i64 st, .int .i64 ch, .int .i64 fr, .int .i64 bt, .string us, .string wo, .string ho] 63)) 39 [.int .i64 mc, .int .i64 mi, .slice A ml.length cap]).alloc (.cells #[.int .i64 0, .int .i64 0, .int .i64 0, .int .i64 0, .string ⟨#[]⟩, .string ⟨#[]⟩, .string ⟨#[]⟩] 28)
    rw [World.size_alloc] at h
    rw [hW0]; exact h
  have hr : Bx W0 (w.heap.size + 1 + 1) 28 [.int .i64 0, .int .i64 0, .int .i64 0, .int .i64 0, .string ⟨#[]⟩, .string ⟨#[]⟩, .string ⟨#[]⟩] := by
    have h := Bx.new ((w.alloc (.cells #[.int .i64 st, .int .i64 ch, .int .i64 fr, .int .i64 bt, .string us, .string wo, .string ho] 63)).alloc (.cells #[.int .i64 mc, .int .i64 mi, .slice A ml.length cap] 39)) 28 [.int .i64 0, .int .i64 0, .int .i64 0, .int .i64 0, .string ⟨#[]⟩, .string ⟨#[]⟩, .string ⟨#[]⟩]
    rw [World.size_alloc, World.size_alloc] at h
    rw [hW0]; exact h
  have hI := is_any mc mi A ml.length cap 50 W0
  try unfold encHd at *
  try dsimp only at *
  rw [hq] at hI
  clear hq
  go_enter Tryz.func39, Tryz.ntmps39
  go_wp2_with fail
  rw [← hW0]
  clear hW0
  with_reducible refine hI.mono ?_
  rintro e w1 ⟨rfl, hb1⟩
  have hB := hb0.trans (hb1.mono hb0.size)
  replace hx := hx.kept hb1
  replace hm := hm.kept hb1
  replace hr := hr.kept hb1
  clear hI hb1 hb0
  cases q
  · have HG : Hid (r = hRefuse ⟨st, ch, fr, bt, us, wo, ho⟩ 8) := Lib.hid (by rw [HF.out]; rfl)
    clear HF
    obtain ⟨x0, x1, x2, x3, x4, x5, x6⟩ := hx.seven
    have hC := refuse_any ⟨st, ch, fr, bt, us, wo, ho⟩ 8 w1
    unfold encHd at hC
    dsimp only at hC
    go_wp2_with fail
    with_reducible refine hC.mono ?_
    rintro e w9 ⟨rfl, hb9⟩
    have hB9 := hB.trans (hb9.mono hB.size)
    replace hr := hr.kept hb9
    clear hC x0 x1 x2 x3 x4 x5 x6 
    obtain ⟨a0, f0, a1, f1, a2, f2, a3, f3, a4, f4, a5, f5, a6, f6, bR⟩ := hr.store7 (.int .i64 st) (.int .i64 ch) (.int .i64 fr) (.int .i64 bt) (.string us) (.string wo) (.string ho)
    have hBz := below_store7 hB9 (B := w.heap.size + 1 + 1) (by omega) (.int .i64 st) (.int .i64 ch) (.int .i64 fr) (.int .i64 bt) (.string us) (.string wo) (.string ho)
    have HS := Lib.hid (SaidAt.store7 (w := w9) (n' := w.heap.size) (n := w.heap.size + 1 + 1 + 1) (s := none) (A := none) (k := 0) ⟨rfl, rfl⟩ (by omega) (B := w.heap.size + 1 + 1) (by omega) (.int .i64 st) (.int .i64 ch) (.int .i64 fr) (.int .i64 bt) (.string us) (.string wo) (.string ho))
    obtain ⟨y0, y1, y2, y3, y4, y5, y6⟩ := bR.seven
    clear bR hx hm hr hs0 hB9 
    go_wp2
    first | refine bodyPost_ret (v := .tuple #[.agg #[.int .i64 st, .int .i64 ch, .int .i64 fr, .int .i64 bt, .string us, .string wo, .string ho], .slice none 0 0, .int .i64 8]) ?_ rfl ⟨none, 0, 0, by rw [HG.out] <;> rfl, by rw [HG.out]; exact HS.out, hBz⟩ | refine bodyPost_ret (v := .tuple #[.agg #[.int .i64 st, .int .i64 ch, .int .i64 fr, .int .i64 bt, .string us, .string wo, .string ho], .slice none 0 0, .int .i64 8]) ?_ rfl ⟨none, 0, ⟨0, by rw [HG.out] <;> rfl⟩, by rw [HG.out]; exact HS.out, hBz⟩
    rw [results_ctt rfl]
    simp [asAddr, Result.andThen, go_sem, y0, y1, y2, y3, y4, y5, y6]
  · have HG : Hid (r = hSay ⟨st, ch, fr, bt, us, wo, ho⟩ 6 51 []) := Lib.hid (by rw [HF.out]; rfl)
    clear HF
    obtain ⟨x0, x1, x2, x3, x4, x5, x6⟩ := hx.seven
    have hC := say_any ⟨st, ch, fr, bt, us, wo, ho⟩ 6 51 none [] 0 0 (w.heap.size + 1 + 1 + 1) w1 rfl (.inl rfl) (by have := hB.size; have := hr.lt; omega)
    unfold encHd at hC
    dsimp only at hC
    go_wp2_with fail
    with_reducible refine hC.mono ?_
    rintro e w9 ⟨B9, rfl, hS, hb9⟩
    have hB9 := hB.trans (hb9.mono hB.size)
    replace hr := hr.kept hb9
    clear hC x0 x1 x2 x3 x4 x5 x6 
    obtain ⟨a0, f0, a1, f1, a2, f2, a3, f3, a4, f4, a5, f5, a6, f6, bR⟩ := hr.store7 (.int .i64 6) (.int .i64 ch) (.int .i64 fr) (.int .i64 bt) (.string us) (.string wo) (.string ho)
    have hBz := below_store7 hB9 (B := w.heap.size + 1 + 1) (by omega) (.int .i64 6) (.int .i64 ch) (.int .i64 fr) (.int .i64 bt) (.string us) (.string wo) (.string ho)
    have HS := Lib.hid (SaidAt.store7 (w := w9) (n' := w.heap.size) hS (by omega) (B := w.heap.size + 1 + 1) (by omega) (.int .i64 6) (.int .i64 ch) (.int .i64 fr) (.int .i64 bt) (.string us) (.string wo) (.string ho))
    obtain ⟨y0, y1, y2, y3, y4, y5, y6⟩ := bR.seven
    clear bR hx hm hr hs0 hB9 
    go_wp2
    first | refine bodyPost_ret (v := .tuple #[.agg #[.int .i64 6, .int .i64 ch, .int .i64 fr, .int .i64 bt, .string us, .string wo, .string ho], .slice (some ⟨B9, 0, none⟩) 1 1, .int .i64 0]) ?_ rfl ⟨(some ⟨B9, 0, none⟩), 1, 1, by rw [HG.out] <;> rfl, by rw [HG.out]; exact HS.out, hBz⟩ | refine bodyPost_ret (v := .tuple #[.agg #[.int .i64 6, .int .i64 ch, .int .i64 fr, .int .i64 bt, .string us, .string wo, .string ho], .slice (some ⟨B9, 0, none⟩) 1 1, .int .i64 0]) ?_ rfl ⟨(some ⟨B9, 0, none⟩), 1, ⟨1, by rw [HG.out] <;> rfl⟩, by rw [HG.out]; exact HS.out, hBz⟩
    rw [results_ctt rfl]
    simp [asAddr, Result.andThen, go_sem, y0, y1, y2, y3, y4, y5, y6]
set_option maxRecDepth 100000 in
set_option maxHeartbeats 2000000 in
theorem closing_any (h : Hd) (m : Me) (A : Option Addr) (cap : Nat) (w : World) : Calls Tryz.prog 40 #[encHd h, encM m A cap] w (TnPost (hClosing h m) w) := by
  obtain ⟨st, ch, fr, bt, us, wo, ho⟩ := h
  obtain ⟨mc, mi, ml⟩ := m
  unfold encHd encM
  dsimp only
  obtain ⟨r, HG⟩ : ∃ r, Hid (r = hClosing ⟨st, ch, fr, bt, us, wo, ho⟩ ⟨mc, mi, ml⟩) := ⟨_, Lib.hid rfl⟩
  rw [← HG.out]
  unfold TnPost
  have HF : Hid (r = if (mc == 10 && mi == 50) = true then hSay ⟨st, ch, fr, bt, us, wo, ho⟩ 5 51 [] else if (mc == 10 && mi == 51) = true then hSilent ⟨st, ch, fr, bt, us, wo, ho⟩ 6 else hSilent ⟨st, ch, fr, bt, us, wo, ho⟩ 5) := Lib.hid HG.out
  clear HG
  obtain ⟨q, hq⟩ : ∃ q, (mc == 10 && mi == 50) = q := ⟨_, rfl⟩
  obtain ⟨p, hp⟩ : ∃ p, (mc == 10 && mi == 51) = p := ⟨_, rfl⟩
  rw [hq, hp] at HF
  obtain ⟨W0, hW0⟩ : ∃ W0, W0 = ((w.alloc (.cells #[.int .i64 st, .int .i64 ch, .int .i64 fr, .int .i64 bt, .string us, .string wo, .string ho] 63)).alloc (.cells #[.int .i64 mc, .int .i64 mi, .slice A ml.length cap] 39)).alloc (.cells #[.int .i64 0, .int .i64 0, .int .i64 0, .int .i64 0, .string ⟨#[]⟩, .string ⟨#[]⟩, .string ⟨#[]⟩] 28) := ⟨_, rfl⟩
  have hb0 : Below w.heap.size w W0 := by rw [hW0]; exact (((Below.refl _ w).alloc (Nat.le_refl _) _).alloc (by simp) _).alloc (by simp; omega) _
  have hs0 : W0.heap.size = w.heap.size + 1 + 1 + 1 := by rw [hW0]; simp
  have hx : Bx W0 w.heap.size 63 [.int .i64 st, .int .i64 ch, .int .i64 fr, .int .i64 bt, .string us, .string wo, .string ho] := by rw [hW0]; exact ((Bx.new w 63 [.int .i64 st, .int .i64 ch, .int .i64 fr, .int .i64 bt, .string us, .string wo, .string ho]).alloc _).alloc _
  have hm : Bx W0 (w.heap.size + 1) 39 [.int .i64 mc, .int .i64 mi, .slice A ml.length cap] := by
    have h := (Bx.new (w.alloc (.cells #[.int .i64 st, .int .i64 ch, .int .i64 fr, .int .i64 bt, .string us, .string wo, .string ho] 63)) 39 [.int .i64 mc, .int .i64 mi, .slice A ml.length cap]).alloc (.cells #[.int .i64 0, .int .i64 0, .int .i64 0, .int .i64 0, .string ⟨#[]⟩, .string ⟨#[]⟩, .string ⟨#[]⟩] 28)
    rw [World.size_alloc] at h
    rw [hW0]; exact h
  have hr : Bx W0 (w.heap.size + 1 + 1) 28 [.int .i64 0, .int .i64 0, .int .i64 0, .int .i64 0, .string ⟨#[]⟩, .string ⟨#[]⟩, .string ⟨#[]⟩] := by
    have h := Bx.new ((w.alloc (.cells #[.int .i64 st, .int .i64 ch, .int .i64 fr, .int .i64 bt, .string us, .string wo, .string ho] 63)).alloc (.cells #[.int .i64 mc, .int .i64 mi, .slice A ml.length cap] 39)) 28 [.int .i64 0, .int .i64 0, .int .i64 0, .int .i64 0, .string ⟨#[]⟩, .string ⟨#[]⟩, .string ⟨#[]⟩]
    rw [World.size_alloc, World.size_alloc] at h
    rw [hW0]; exact h
  have hI := is_any mc mi A ml.length cap 50 W0
  have hJ := fun W => is_any mc mi A ml.length cap 51 W
  try unfold encHd at *
  try dsimp only at *
  rw [hq] at hI
  rw [hp] at hJ
  clear hq hp
  go_enter Tryz.func40, Tryz.ntmps40
  go_wp2_with fail
  rw [← hW0]
  clear hW0
  with_reducible refine hI.mono ?_
  rintro e w1 ⟨rfl, hb1⟩
  have hB := hb0.trans (hb1.mono hb0.size)
  replace hx := hx.kept hb1
  replace hm := hm.kept hb1
  replace hr := hr.kept hb1
  clear hI hb1 hb0
  cases q
  · obtain ⟨m0, m1, m2⟩ := hm.three
    go_wp2_with fail
    with_reducible refine (hJ _).mono ?_
    rintro e w2 ⟨rfl, hb2⟩
    have hB2 := hB.trans (hb2.mono hB.size)
    replace hx := hx.kept hb2
    replace hm := hm.kept hb2
    replace hr := hr.kept hb2
    clear hJ hb2 hB m0 m1 m2
    cases p
    · have HG : Hid (r = hSilent ⟨st, ch, fr, bt, us, wo, ho⟩ 5) := Lib.hid (by rw [HF.out]; rfl)
      clear HF
      obtain ⟨x0, x1, x2, x3, x4, x5, x6⟩ := hx.seven
      have hC := silent_any ⟨st, ch, fr, bt, us, wo, ho⟩ 5 w2
      unfold encHd at hC
      dsimp only at hC
      go_wp2_with fail
      with_reducible refine hC.mono ?_
      rintro e w9 ⟨rfl, hb9⟩
      have hB9 := hB2.trans (hb9.mono hB2.size)
      replace hr := hr.kept hb9
      clear hC x0 x1 x2 x3 x4 x5 x6 
      obtain ⟨a0, f0, a1, f1, a2, f2, a3, f3, a4, f4, a5, f5, a6, f6, bR⟩ := hr.store7 (.int .i64 5) (.int .i64 ch) (.int .i64 fr) (.int .i64 bt) (.string us) (.string wo) (.string ho)
      have hBz := below_store7 hB9 (B := w.heap.size + 1 + 1) (by omega) (.int .i64 5) (.int .i64 ch) (.int .i64 fr) (.int .i64 bt) (.string us) (.string wo) (.string ho)
      have HS := Lib.hid (SaidAt.store7 (w := w9) (n' := w.heap.size) (n := w.heap.size + 1 + 1 + 1) (s := none) (A := none) (k := 0) ⟨rfl, rfl⟩ (by omega) (B := w.heap.size + 1 + 1) (by omega) (.int .i64 5) (.int .i64 ch) (.int .i64 fr) (.int .i64 bt) (.string us) (.string wo) (.string ho))
      obtain ⟨y0, y1, y2, y3, y4, y5, y6⟩ := bR.seven
      clear bR hx hm hr hs0 hB9 
      go_wp2
      first | refine bodyPost_ret (v := .tuple #[.agg #[.int .i64 5, .int .i64 ch, .int .i64 fr, .int .i64 bt, .string us, .string wo, .string ho], .slice none 0 0, .int .i64 0]) ?_ rfl ⟨none, 0, 0, by rw [HG.out] <;> rfl, by rw [HG.out]; exact HS.out, hBz⟩ | refine bodyPost_ret (v := .tuple #[.agg #[.int .i64 5, .int .i64 ch, .int .i64 fr, .int .i64 bt, .string us, .string wo, .string ho], .slice none 0 0, .int .i64 0]) ?_ rfl ⟨none, 0, ⟨0, by rw [HG.out] <;> rfl⟩, by rw [HG.out]; exact HS.out, hBz⟩
      rw [results_ctt rfl]
      simp [asAddr, Result.andThen, go_sem, y0, y1, y2, y3, y4, y5, y6]
    · have HG : Hid (r = hSilent ⟨st, ch, fr, bt, us, wo, ho⟩ 6) := Lib.hid (by rw [HF.out]; rfl)
      clear HF
      obtain ⟨x0, x1, x2, x3, x4, x5, x6⟩ := hx.seven
      have hC := silent_any ⟨st, ch, fr, bt, us, wo, ho⟩ 6 w2
      unfold encHd at hC
      dsimp only at hC
      go_wp2_with fail
      with_reducible refine hC.mono ?_
      rintro e w9 ⟨rfl, hb9⟩
      have hB9 := hB2.trans (hb9.mono hB2.size)
      replace hr := hr.kept hb9
      clear hC x0 x1 x2 x3 x4 x5 x6 
      obtain ⟨a0, f0, a1, f1, a2, f2, a3, f3, a4, f4, a5, f5, a6, f6, bR⟩ := hr.store7 (.int .i64 6) (.int .i64 ch) (.int .i64 fr) (.int .i64 bt) (.string us) (.string wo) (.string ho)
      have hBz := below_store7 hB9 (B := w.heap.size + 1 + 1) (by omega) (.int .i64 6) (.int .i64 ch) (.int .i64 fr) (.int .i64 bt) (.string us) (.string wo) (.string ho)
      have HS := Lib.hid (SaidAt.store7 (w := w9) (n' := w.heap.size) (n := w.heap.size + 1 + 1 + 1) (s := none) (A := none) (k := 0) ⟨rfl, rfl⟩ (by omega) (B := w.heap.size + 1 + 1) (by omega) (.int .i64 6) (.int .i64 ch) (.int .i64 fr) (.int .i64 bt) (.string us) (.string wo) (.string ho))
      obtain ⟨y0, y1, y2, y3, y4, y5, y6⟩ := bR.seven
      clear bR hx hm hr hs0 hB9 
      go_wp2
      first | refine bodyPost_ret (v := .tuple #[.agg #[.int .i64 6, .int .i64 ch, .int .i64 fr, .int .i64 bt, .string us, .string wo, .string ho], .slice none 0 0, .int .i64 0]) ?_ rfl ⟨none, 0, 0, by rw [HG.out] <;> rfl, by rw [HG.out]; exact HS.out, hBz⟩ | refine bodyPost_ret (v := .tuple #[.agg #[.int .i64 6, .int .i64 ch, .int .i64 fr, .int .i64 bt, .string us, .string wo, .string ho], .slice none 0 0, .int .i64 0]) ?_ rfl ⟨none, 0, ⟨0, by rw [HG.out] <;> rfl⟩, by rw [HG.out]; exact HS.out, hBz⟩
      rw [results_ctt rfl]
      simp [asAddr, Result.andThen, go_sem, y0, y1, y2, y3, y4, y5, y6]
  · have HG : Hid (r = hSay ⟨st, ch, fr, bt, us, wo, ho⟩ 5 51 []) := Lib.hid (by rw [HF.out]; rfl)
    clear HF hJ
    obtain ⟨x0, x1, x2, x3, x4, x5, x6⟩ := hx.seven
    have hC := say_any ⟨st, ch, fr, bt, us, wo, ho⟩ 5 51 none [] 0 0 (w.heap.size + 1 + 1 + 1) w1 rfl (.inl rfl) (by have := hB.size; have := hr.lt; omega)
    unfold encHd at hC
    dsimp only at hC
    go_wp2_with fail
    with_reducible refine hC.mono ?_
    rintro e w9 ⟨B9, rfl, hS, hb9⟩
    have hB9 := hB.trans (hb9.mono hB.size)
    replace hr := hr.kept hb9
    clear hC x0 x1 x2 x3 x4 x5 x6 
    obtain ⟨a0, f0, a1, f1, a2, f2, a3, f3, a4, f4, a5, f5, a6, f6, bR⟩ := hr.store7 (.int .i64 5) (.int .i64 ch) (.int .i64 fr) (.int .i64 bt) (.string us) (.string wo) (.string ho)
    have hBz := below_store7 hB9 (B := w.heap.size + 1 + 1) (by omega) (.int .i64 5) (.int .i64 ch) (.int .i64 fr) (.int .i64 bt) (.string us) (.string wo) (.string ho)
    have HS := Lib.hid (SaidAt.store7 (w := w9) (n' := w.heap.size) hS (by omega) (B := w.heap.size + 1 + 1) (by omega) (.int .i64 5) (.int .i64 ch) (.int .i64 fr) (.int .i64 bt) (.string us) (.string wo) (.string ho))
    obtain ⟨y0, y1, y2, y3, y4, y5, y6⟩ := bR.seven
    clear bR hx hm hr hs0 hB9 
    go_wp2
    first | refine bodyPost_ret (v := .tuple #[.agg #[.int .i64 5, .int .i64 ch, .int .i64 fr, .int .i64 bt, .string us, .string wo, .string ho], .slice (some ⟨B9, 0, none⟩) 1 1, .int .i64 0]) ?_ rfl ⟨(some ⟨B9, 0, none⟩), 1, 1, by rw [HG.out] <;> rfl, by rw [HG.out]; exact HS.out, hBz⟩ | refine bodyPost_ret (v := .tuple #[.agg #[.int .i64 5, .int .i64 ch, .int .i64 fr, .int .i64 bt, .string us, .string wo, .string ho], .slice (some ⟨B9, 0, none⟩) 1 1, .int .i64 0]) ?_ rfl ⟨(some ⟨B9, 0, none⟩), 1, ⟨1, by rw [HG.out] <;> rfl⟩, by rw [HG.out]; exact HS.out, hBz⟩
    rw [results_ctt rfl]
    simp [asAddr, Result.andThen, go_sem, y0, y1, y2, y3, y4, y5, y6]
end Go.Proofs.YtkdiccedkjbpeaaGreatDoorR

/-
  serve's state that waits for open: it tells where to, or refuses; nothing that was there is changed. Condition: the method's values lie in old memory.
-/
namespace Go.Proofs.YtkdiccedkjbpeaaGreatDoorR
open Go.RowKit

set_option maxRecDepth 100000 in
set_option maxHeartbeats 4000000 in
theorem open_any (h : Hd) (m : Me) (A : Option Addr) (cap : Nat) (w : World) (hA : ValsAt w A (rowV m.l)) : Calls Tryz.prog 38 #[encHd h, encM m A cap] w (TnPost (hOpen h m) w) := by
  obtain ⟨st, ch, fr, bt, us, wo, ho⟩ := h
  obtain ⟨mc, mi, ml⟩ := m
  unfold encHd encM
  dsimp only
  obtain ⟨r, HG⟩ : ∃ r, Hid (r = hOpen ⟨st, ch, fr, bt, us, wo, ho⟩ ⟨mc, mi, ml⟩) := ⟨_, Lib.hid rfl⟩
  rw [← HG.out]
  unfold TnPost
  have HF : Hid (r = if (mc == 10 && mi == 40) = true then hSay ⟨st, ch, fr, bt, us, wo, (argV ml 0).s⟩ 4 41 [noV] else hRun ⟨st, ch, fr, bt, us, wo, ho⟩ ⟨mc, mi, ml⟩) := Lib.hid HG.out
  clear HG
  obtain ⟨q, hq⟩ : ∃ q, (mc == 10 && mi == 40) = q := ⟨_, rfl⟩
  rw [hq] at HF
  obtain ⟨W0, hW0⟩ : ∃ W0, W0 = ((w.alloc (.cells #[.int .i64 st, .int .i64 ch, .int .i64 fr, .int .i64 bt, .string us, .string wo, .string ho] 63)).alloc (.cells #[.int .i64 mc, .int .i64 mi, .slice A ml.length cap] 39)).alloc (.cells #[.int .i64 0, .int .i64 0, .int .i64 0, .int .i64 0, .string ⟨#[]⟩, .string ⟨#[]⟩, .string ⟨#[]⟩] 28) := ⟨_, rfl⟩
  have hb0 : Below w.heap.size w W0 := by rw [hW0]; exact (((Below.refl _ w).alloc (Nat.le_refl _) _).alloc (by simp) _).alloc (by simp; omega) _
  have hs0 : W0.heap.size = w.heap.size + 1 + 1 + 1 := by rw [hW0]; simp
  have hx : Bx W0 w.heap.size 63 [.int .i64 st, .int .i64 ch, .int .i64 fr, .int .i64 bt, .string us, .string wo, .string ho] := by rw [hW0]; exact ((Bx.new w 63 [.int .i64 st, .int .i64 ch, .int .i64 fr, .int .i64 bt, .string us, .string wo, .string ho]).alloc _).alloc _
  have hm : Bx W0 (w.heap.size + 1) 39 [.int .i64 mc, .int .i64 mi, .slice A ml.length cap] := by
    have h := (Bx.new (w.alloc (.cells #[.int .i64 st, .int .i64 ch, .int .i64 fr, .int .i64 bt, .string us, .string wo, .string ho] 63)) 39 [.int .i64 mc, .int .i64 mi, .slice A ml.length cap]).alloc (.cells #[.int .i64 0, .int .i64 0, .int .i64 0, .int .i64 0, .string ⟨#[]⟩, .string ⟨#[]⟩, .string ⟨#[]⟩] 28)
    rw [World.size_alloc] at h
    rw [hW0]; exact h
  have hr : Bx W0 (w.heap.size + 1 + 1) 28 [.int .i64 0, .int .i64 0, .int .i64 0, .int .i64 0, .string ⟨#[]⟩, .string ⟨#[]⟩, .string ⟨#[]⟩] := by
    have h := Bx.new ((w.alloc (.cells #[.int .i64 st, .int .i64 ch, .int .i64 fr, .int .i64 bt, .string us, .string wo, .string ho] 63)).alloc (.cells #[.int .i64 mc, .int .i64 mi, .slice A ml.length cap] 39)) 28 [.int .i64 0, .int .i64 0, .int .i64 0, .int .i64 0, .string ⟨#[]⟩, .string ⟨#[]⟩, .string ⟨#[]⟩]
    rw [World.size_alloc, World.size_alloc] at h
    rw [hW0]; exact h
  have hI := is_any mc mi A ml.length cap 40 W0
  have hAr := fun W (h : Below w.heap.size w W) => arg_any ⟨mc, mi, ml⟩ A cap 0 W (hA.below h)
  unfold encM at hAr
  have hWo := fun W => sWord_any ⟨#[]⟩ W
  unfold encV wordV at hWo
  try unfold encHd at *
  try dsimp only at *
  rw [hq] at hI
  clear hq hA
  go_enter Tryz.func38, Tryz.ntmps38
  go_wp2_with fail
  rw [← hW0]
  clear hW0
  with_reducible refine hI.mono ?_
  rintro e w1 ⟨rfl, hb1⟩
  have hB := hb0.trans (hb1.mono hb0.size)
  replace hx := hx.kept hb1
  replace hm := hm.kept hb1
  replace hr := hr.kept hb1
  clear hI hb1 hb0
  cases q
  · have HG : Hid (r = hRun ⟨st, ch, fr, bt, us, wo, ho⟩ ⟨mc, mi, ml⟩) := Lib.hid (by rw [HF.out]; rfl)
    clear HF hAr hWo
    obtain ⟨x0, x1, x2, x3, x4, x5, x6⟩ := hx.seven
    obtain ⟨m0, m1, m2⟩ := hm.three
    have hC := run_any ⟨st, ch, fr, bt, us, wo, ho⟩ ⟨mc, mi, ml⟩ A cap w1
    unfold TnPost encHd encM at hC
    dsimp only at hC
    generalize hRun ⟨st, ch, fr, bt, us, wo, ho⟩ ⟨mc, mi, ml⟩ = r9 at hC HG
    obtain ⟨⟨p0, p1, p2, p3, p4, p5, p6⟩, ps, pe⟩ := r9
    dsimp only at hC
    go_wp2_with fail
    with_reducible refine hC.mono ?_
    rintro e w9 ⟨A9, k9, c9, rfl, hS, hb9⟩
    have hB9 := hB.trans (hb9.mono hB.size)
    have hlt := hr.lt
    replace hr := hr.kept hb9
    clear hC x0 x1 x2 x3 x4 x5 x6 m0 m1 m2
    obtain ⟨a0, f0, a1, f1, a2, f2, a3, f3, a4, f4, a5, f5, a6, f6, bR⟩ := hr.store7 (.int .i64 p0) (.int .i64 p1) (.int .i64 p2) (.int .i64 p3) (.string p4) (.string p5) (.string p6)
    have hBz := below_store7 hB9 (B := w.heap.size + 1 + 1) (by omega) (.int .i64 p0) (.int .i64 p1) (.int .i64 p2) (.int .i64 p3) (.string p4) (.string p5) (.string p6)
    have HS := Lib.hid (SaidAt.store7 (w := w9) (n' := w.heap.size) hS (by omega) (B := w.heap.size + 1 + 1) (by omega) (.int .i64 p0) (.int .i64 p1) (.int .i64 p2) (.int .i64 p3) (.string p4) (.string p5) (.string p6))
    obtain ⟨y0, y1, y2, y3, y4, y5, y6⟩ := bR.seven
    clear bR hx hm hr hs0 hB9 
    go_wp2
    first | refine bodyPost_ret (v := .tuple #[.agg #[.int .i64 p0, .int .i64 p1, .int .i64 p2, .int .i64 p3, .string p4, .string p5, .string p6], .slice A9 k9 c9, .int .i64 pe]) ?_ rfl ⟨A9, k9, c9, by rw [HG.out] <;> rfl, by rw [HG.out]; exact HS.out, hBz⟩ | refine bodyPost_ret (v := .tuple #[.agg #[.int .i64 p0, .int .i64 p1, .int .i64 p2, .int .i64 p3, .string p4, .string p5, .string p6], .slice A9 k9 c9, .int .i64 pe]) ?_ rfl ⟨A9, k9, ⟨c9, by rw [HG.out] <;> rfl⟩, by rw [HG.out]; exact HS.out, hBz⟩
    rw [results_ctt rfl]
    simp [asAddr, Result.andThen, go_sem, y0, y1, y2, y3, y4, y5, y6]
  · have HG : Hid (r = hSay ⟨st, ch, fr, bt, us, wo, (argV ml 0).s⟩ 4 41 [noV]) := Lib.hid (by rw [HF.out]; rfl)
    clear HF
    have hAr1 := hAr w1 hB
    unfold encV at hAr1
    generalize argV ml 0 = v at hAr1 HG
    obtain ⟨vn, vs⟩ := v
    dsimp only at hAr1 HG
    obtain ⟨m0, m1, m2⟩ := hm.three
    go_wp2_with fail
    with_reducible refine hAr1.mono ?_
    rintro e w2 ⟨rfl, hb2⟩
    have hB2 := hB.trans (hb2.mono hB.size)
    replace hx := hx.kept hb2
    replace hr := hr.kept hb2
    clear hAr hAr1 hb2 hB hm m0 m1 m2
    obtain ⟨W2, hW2⟩ : ∃ W2, W2 = w2.setCell ⟨w.heap.size, 6, none⟩ (.string vs) := ⟨_, rfl⟩
    have hx2 : Bx W2 w.heap.size 63 [.int .i64 st, .int .i64 ch, .int .i64 fr, .int .i64 bt, .string us, .string wo, .string vs] := by rw [hW2]; exact hx.set 6 (.string vs)
    have hr2 : Bx W2 (w.heap.size + 1 + 1) 28 [.int .i64 0, .int .i64 0, .int .i64 0, .int .i64 0, .string ⟨#[]⟩, .string ⟨#[]⟩, .string ⟨#[]⟩] := by rw [hW2]; exact hr.other (by omega) 6 (.string vs)
    have hB3 : Below w.heap.size w W2 := by rw [hW2]; exact hB2.setCell (p := ⟨w.heap.size, 6, none⟩) (Nat.le_refl _) (.string vs)
    have x6 := hx.cell 6 (by simp)
    dsimp only [List.getElem_cons_zero, List.getElem_cons_succ] at x6
    have g6 := hx.frozen 6
    have hFd := field_s vn vs w2
    go_upto_region 4 with fail
    rw [← hW2]
    clear hW2 x6 g6 hx hr hB2 hFd
    have hlt := hr2.lt
    have keep : ∀ w', Below W2.heap.size W2 w' → w'.cell? ⟨w.heap.size, 0, none⟩ = some (.int .i64 st) ∧ w'.cell? ⟨w.heap.size, 1, none⟩ = some (.int .i64 ch) ∧ w'.cell? ⟨w.heap.size, 2, none⟩ = some (.int .i64 fr) ∧ w'.cell? ⟨w.heap.size, 3, none⟩ = some (.int .i64 bt) ∧ w'.cell? ⟨w.heap.size, 4, none⟩ = some (.string us) ∧ w'.cell? ⟨w.heap.size, 5, none⟩ = some (.string wo) ∧ w'.cell? ⟨w.heap.size, 6, none⟩ = some (.string vs) := fun w' h => (hx2.kept h).seven
    have hSa : ∀ w4, Below W2.heap.size W2 w4 → _ := fun w4 (h : Below W2.heap.size W2 w4) => say_any ⟨st, ch, fr, bt, us, wo, vs⟩ 4 41 (some ⟨w4.heap.size, 0, none⟩) [noV] 1 1 (w.heap.size + 1 + 1 + 1) (w4.alloc (.cells #[.int .u64 0, .string ⟨#[]⟩] 51)) rfl (.inr ⟨_, rfl, by have := h.size; omega, Bx.new w4 51 [.int .u64 0, .string ⟨#[]⟩]⟩) (by have := h.size; rw [World.size_alloc]; omega)
    unfold encHd at hSa
    dsimp only at hSa
    go_region_held3 (fun w' => w'.cell? ⟨w.heap.size, 0, none⟩ = some (.int .i64 st) ∧ w'.cell? ⟨w.heap.size, 1, none⟩ = some (.int .i64 ch) ∧ w'.cell? ⟨w.heap.size, 2, none⟩ = some (.int .i64 fr) ∧ w'.cell? ⟨w.heap.size, 3, none⟩ = some (.int .i64 bt) ∧ w'.cell? ⟨w.heap.size, 4, none⟩ = some (.string us) ∧ w'.cell? ⟨w.heap.size, 5, none⟩ = some (.string wo) ∧ w'.cell? ⟨w.heap.size, 6, none⟩ = some (.string vs)) (first | (with_reducible exact keep _ hf2) | (with_reducible exact hx5.seven) | (with_reducible exact keep _ (hf1.alloc hf1.size _)) | (with_reducible exact keep _ hf1) | (with_reducible exact keep _ (Below.refl _ W2).drew)) (first | (go_at_call 20; refine (hWo _).mono ?_; rintro e w4 ⟨rfl, hr4⟩; have hf1 : Below W2.heap.size W2 w4 := ⟨hr4.os, hr4.tape, hr4.output, hr4.size, hr4.block⟩) | (go_at_call 18; refine (hSa w4 hf1).mono ?_; rintro e w5 ⟨B5, rfl, hS, hr5⟩; have hf2 : Below W2.heap.size W2 w5 := (hf1.alloc hf1.size _).trans (hr5.mono (hf1.alloc hf1.size _).size); have hr9 := hr2.kept hf2; obtain ⟨a0, f0, a1, f1, a2, f2, a3, f3, a4, f4, a5, f5, a6, f6, bR⟩ := hr9.store7 (.int .i64 4) (.int .i64 ch) (.int .i64 fr) (.int .i64 bt) (.string us) (.string wo) (.string vs); have hx5 := (hx2.kept hf2).other7 (B := w.heap.size + 1 + 1) (by omega) (.int .i64 4) (.int .i64 ch) (.int .i64 fr) (.int .i64 bt) (.string us) (.string wo) (.string vs)))
    have hB9 := hB3.trans (hf2.mono hB3.size)
    have hBz := below_store7 hB9 (B := w.heap.size + 1 + 1) (by omega) (.int .i64 4) (.int .i64 ch) (.int .i64 fr) (.int .i64 bt) (.string us) (.string wo) (.string vs)
    have HS := Lib.hid (SaidAt.store7 (w := w5) (n' := w.heap.size) hS (by omega) (B := w.heap.size + 1 + 1) (by omega) (.int .i64 4) (.int .i64 ch) (.int .i64 fr) (.int .i64 bt) (.string us) (.string wo) (.string vs))
    obtain ⟨y0, y1, y2, y3, y4, y5, y6⟩ := bR.seven
    trace_state
    go_wp2
    refine bodyPost_ret (v := .tuple #[.agg #[.int .i64 4, .int .i64 ch, .int .i64 fr, .int .i64 bt, .string us, .string wo, .string vs], .slice (some ⟨B5, 0, none⟩) 1 1, .int .i64 0]) ?_ rfl ⟨some ⟨B5, 0, none⟩, 1, 1, by rw [HG.out]; rfl, by rw [HG.out]; exact HS.out, hBz⟩
    rw [results_ctt rfl]
    simp [asAddr, Result.andThen, go_sem, y0, y1, y2, y3, y4, y5, y6]
end Go.Proofs.YtkdiccedkjbpeaaGreatDoorR

/-
  serve.agree tells what a tune-ok agrees on, by two closures; nothing that was there is changed. Conditions: the method's values lie in old memory; its first three numbers are below 2^62.
-/
namespace Go.Proofs.YtkdiccedkjbpeaaGreatDoorR
open Go.RowKit

theorem wrap_id {n : Int} (h : 0 ≤ n ∧ n < 4611686018427387904) : IntKind.i64.wrap n = n := by
  have h1 : n % 18446744073709551616 = n := by omega
  simp [IntKind.wrap, IntKind.signed, IntKind.bits, h1]
  omega
set_option maxRecDepth 100000 in
set_option maxHeartbeats 4000000 in
theorem theirs_any (mc mi : Int) (ml : List MV) (A : Option Addr) (cap : Nat) (k : Int) (b : Nat) (w : World) (hm : Bx w b 39 [.int .i64 mc, .int .i64 mi, .slice A ml.length cap]) (hA : ValsAt w A (rowV ml)) (hN : 0 ≤ (argV ml k).n ∧ (argV ml k).n < 4611686018427387904) : Calls Tryz.prog 84 #[.int .i64 k, .pointer (some ⟨b, 0, none⟩)] w fun e w' => e = .returned (.int .i64 (argV ml k).n) ∧ Below w.heap.size w w' := by
  have hAr := arg_any ⟨mc, mi, ml⟩ A cap k w hA
  unfold encM encV at hAr
  dsimp only at hAr
  generalize argV ml k = v at hAr hN ⊢
  obtain ⟨vn, vs⟩ := v
  dsimp only at hAr hN ⊢
  have hW := wrap_id hN
  have hFd := fun W => field_n vn vs W
  obtain ⟨m0, m1, m2⟩ := hm.three
  clear hA hm hN
  go_enter Tryz.func84, Tryz.ntmps84
  go_wp2_with fail
  with_reducible refine hAr.mono ?_
  rintro e w1 ⟨rfl, hb1⟩
  have hFd1 := hFd w1
  clear hAr hFd m0 m1 m2
  go_wp2
  go_ret
  exact ⟨rfl, hb1⟩
set_option maxRecDepth 100000 in
set_option maxHeartbeats 4000000 in
theorem agreed_any (mc mi : Int) (ml : List MV) (A : Option Addr) (cap : Nat) (k mine : Int) (b f : Nat) (w : World) (hf : Bx w f 88 [.func (.func 84) #[] #[.pointer (some ⟨b, 0, none⟩)]]) (hm : Bx w b 39 [.int .i64 mc, .int .i64 mi, .slice A ml.length cap]) (hA : ValsAt w A (rowV ml)) (hN : 0 ≤ (argV ml k).n ∧ (argV ml k).n < 4611686018427387904) : Calls Tryz.prog 85 #[.int .i64 k, .int .i64 mine, .pointer (some ⟨f, 0, none⟩)] w fun e w' => e = .returned (.int .i64 (agV (argV ml k).n mine)) ∧ Below w.heap.size w w' := by
  have hT := fun W (h : Below w.heap.size w W) => theirs_any mc mi ml A cap k b W (hm.kept h) (hA.below h) hN
  have HA : Hid (agV (argV ml k).n mine = if (argV ml k).n = 0 then mine else (argV ml k).n) := Lib.hid rfl
  generalize agV (argV ml k).n mine = q at HA ⊢
  generalize (argV ml k).n = n at HA hT hN
  have f0 := hf.cell 0 (by simp)
  dsimp only [List.getElem_cons_zero] at f0
  have hT0 := hT w (Below.refl _ _)
  clear hm hA hN
  go_enter Tryz.func85, Tryz.ntmps85
  go_wp2_with fail
  with_reducible refine hT0.mono ?_
  rintro e w1 ⟨rfl, hb1⟩
  clear hT0 f0
  have f1 := (hf.kept hb1).cell 0 (by simp)
  dsimp only [List.getElem_cons_zero] at f1
  by_cases h0 : n = 0
  · have HA2 : Hid (q = mine) := Lib.hid (by rw [HA.out, if_pos h0])
    clear HA
    subst h0
    go_wp2
    go_ret
    exact ⟨by rw [HA2.out]; rfl, hb1⟩
  · have hT1 := hT w1 hb1
    have HA2 : Hid (q = n) := Lib.hid (by rw [HA.out, if_neg h0])
    clear hT HA
    go_wp2_with fail
    with_reducible refine hT1.mono ?_
    rintro e w2 ⟨rfl, hb2⟩
    go_wp2
    go_ret
    exact ⟨by rw [HA2.out]; rfl, hb1.trans (hb2.mono hb1.size)⟩
set_option maxRecDepth 100000 in
set_option maxHeartbeats 4000000 in
theorem agree_any (h : Hd) (mc mi : Int) (ml : List MV) (A : Option Addr) (cap : Nat) (w : World) (hA : ValsAt w A (rowV ml)) (hN : ∀ k, 0 ≤ (argV ml k).n ∧ (argV ml k).n < 4611686018427387904) : Calls Tryz.prog 63 #[.agg #[.int .i64 h.ch, .int .i64 h.fr, .int .i64 h.bt], .agg #[.int .i64 mc, .int .i64 mi, .slice A ml.length cap]] w fun e w' => (∃ a b c, e = .returned (.tuple #[.agg #[.int .i64 a, .int .i64 b, .int .i64 c], .bool (agOk h (argV ml 0).n (argV ml 1).n)]) ∧ (agOk h (argV ml 0).n (argV ml 1).n = true → a = agV (argV ml 0).n h.ch ∧ b = agV (argV ml 1).n h.fr ∧ c = agB h (argV ml 2).n)) ∧ Below w.heap.size w w' := by
  obtain ⟨W0, hW0⟩ : ∃ W0, W0 = w.alloc (.cells #[.int .i64 h.ch, .int .i64 h.fr, .int .i64 h.bt] 23) := ⟨_, rfl⟩
  obtain ⟨st, ch, fr, bt, us, wo, ho⟩ := h
  dsimp only at hW0 ⊢
  clear hW0 W0
  obtain ⟨W0, hW0⟩ : ∃ W0, W0 = (((w.alloc (.cells #[.int .i64 ch, .int .i64 fr, .int .i64 bt] 23)).alloc (.cells #[.int .i64 mc, .int .i64 mi, .slice A ml.length cap] 39)).alloc (.cells #[.int .i64 0, .int .i64 0, .int .i64 0] 23)).alloc (.cells #[.func (.func 84) #[] #[.pointer (some ⟨w.heap.size + 1, 0, none⟩)]] 88) := ⟨_, rfl⟩
  have hb0 : Below w.heap.size w W0 := by rw [hW0]; exact ((((Below.refl _ w).alloc (Nat.le_refl _) _).alloc (by simp) _).alloc (by simp; omega) _).alloc (by simp; omega) _
  have hx : Bx W0 w.heap.size 23 [.int .i64 ch, .int .i64 fr, .int .i64 bt] := by rw [hW0]; exact (((Bx.new w 23 [.int .i64 ch, .int .i64 fr, .int .i64 bt]).alloc _).alloc _).alloc _
  have hm : Bx W0 (w.heap.size + 1) 39 [.int .i64 mc, .int .i64 mi, .slice A ml.length cap] := by
    have h := ((Bx.new (w.alloc (.cells #[.int .i64 ch, .int .i64 fr, .int .i64 bt] 23)) 39 [.int .i64 mc, .int .i64 mi, .slice A ml.length cap]).alloc (.cells #[.int .i64 0, .int .i64 0, .int .i64 0] 23)).alloc (.cells #[.func (.func 84) #[] #[.pointer (some ⟨w.heap.size + 1, 0, none⟩)]] 88)
    rw [World.size_alloc] at h
    rw [hW0]; exact h
  have hr : Bx W0 (w.heap.size + 1 + 1) 23 [.int .i64 0, .int .i64 0, .int .i64 0] := by
    have h := (Bx.new ((w.alloc (.cells #[.int .i64 ch, .int .i64 fr, .int .i64 bt] 23)).alloc (.cells #[.int .i64 mc, .int .i64 mi, .slice A ml.length cap] 39)) 23 [.int .i64 0, .int .i64 0, .int .i64 0]).alloc (.cells #[.func (.func 84) #[] #[.pointer (some ⟨w.heap.size + 1, 0, none⟩)]] 88)
    rw [World.size_alloc, World.size_alloc] at h
    rw [hW0]; exact h
  have hf : Bx W0 (w.heap.size + 1 + 1 + 1) 88 [.func (.func 84) #[] #[.pointer (some ⟨w.heap.size + 1, 0, none⟩)]] := by
    have h := Bx.new (((w.alloc (.cells #[.int .i64 ch, .int .i64 fr, .int .i64 bt] 23)).alloc (.cells #[.int .i64 mc, .int .i64 mi, .slice A ml.length cap] 39)).alloc (.cells #[.int .i64 0, .int .i64 0, .int .i64 0] 23)) 88 [.func (.func 84) #[] #[.pointer (some ⟨w.heap.size + 1, 0, none⟩)]]
    rw [World.size_alloc, World.size_alloc, World.size_alloc] at h
    rw [hW0]; exact h
  have hmf : ∀ (p : Value) (w : World), (Instr.makeFunc (.func 84) #[] #[p]).run Tryz.prog w = .ok (.func (.func 84) #[] #[p]) w := fun _ _ => by kernel_rfl
  have hmg : ∀ (p : Value) (w : World), (Instr.makeFunc (.func 85) #[] #[p]).run Tryz.prog w = .ok (.func (.func 85) #[] #[p]) w := fun _ _ => by kernel_rfl
  have hT := fun k W (h : Below W0.heap.size W0 W) => theirs_any mc mi ml A cap k (w.heap.size + 1) W (hm.kept h) (hA.below (hb0.trans (h.mono hb0.size))) (hN k)
  have hG := fun k mine W (h : Below W0.heap.size W0 W) => agreed_any mc mi ml A cap k mine (w.heap.size + 1) (w.heap.size + 1 + 1 + 1) W (hf.kept h) (hm.kept h) (hA.below (hb0.trans (h.mono hb0.size))) (hN k)
  have hT0 := hT 0
  have hT1 := hT 1
  have hT2 := hT 2
  have hG0 := hG 0 ch
  have hG1 := hG 1 fr
  clear hT hG
  have B0 := hN 0
  have B1 := hN 1
  have B2 := hN 2
  generalize argV ml 0 = v0 at *
  generalize argV ml 1 = v1 at *
  generalize argV ml 2 = v2 at *
  obtain ⟨n0, s0⟩ := v0
  obtain ⟨n1, s1⟩ := v1
  obtain ⟨n2, s2⟩ := v2
  dsimp only at *
  have HO : Hid (∀ (_ : Unit), agOk ⟨st, ch, fr, bt, us, wo, ho⟩ n0 n1 = (!(decide (n0 > ch)) && !(decide (n1 > fr)) && !(decide (0 < n1) && decide (n1 < 4096)))) := Lib.hid (fun _ => rfl)
  have HB : Hid (∀ (_ : Unit), agB ⟨st, ch, fr, bt, us, wo, ho⟩ n2 = if n2 ≠ 0 ∧ bt ≠ 0 then min n2 bt else 0) := Lib.hid (fun _ => rfl)
  generalize agOk ⟨st, ch, fr, bt, us, wo, ho⟩ n0 n1 = ok at *
  generalize agB ⟨st, ch, fr, bt, us, wo, ho⟩ n2 = gb at *
  generalize agV n0 ch = g0 at *
  generalize agV n1 fr = g1 at *
  clear hA hN hm
  have keep : ∀ w', Below W0.heap.size W0 w' → w'.cell? ⟨w.heap.size, 0, none⟩ = some (.int .i64 ch) ∧ w'.cell? ⟨w.heap.size, 1, none⟩ = some (.int .i64 fr) ∧ w'.cell? ⟨w.heap.size, 2, none⟩ = some (.int .i64 bt) ∧ w'.cell? ⟨w.heap.size + 1 + 1 + 1, 0, none⟩ = some (.func (.func 84) #[] #[.pointer (some ⟨w.heap.size + 1, 0, none⟩)]) := fun w' h => ⟨((hx.kept h).three).1, ((hx.kept h).three).2.1, ((hx.kept h).three).2.2, (hf.kept h).cell 0 (by simp)⟩
  obtain ⟨k0, k1, k2, k3⟩ := keep W0 (Below.refl _ _)
  go_enter Tryz.func63, Tryz.ntmps63
  go_wp2_with fail
  rw [← hW0]
  clear hW0
  with_reducible refine (hT1 W0 (Below.refl _ _)).mono ?_
  rintro e w1 ⟨rfl, hb1⟩
  clear k0 k1 k2 k3
  go_upto_region 4 with fail
  go_region_held3 (fun w' => w'.cell? ⟨w.heap.size, 0, none⟩ = some (.int .i64 ch) ∧ w'.cell? ⟨w.heap.size, 1, none⟩ = some (.int .i64 fr) ∧ w'.cell? ⟨w.heap.size, 2, none⟩ = some (.int .i64 bt) ∧ w'.cell? ⟨w.heap.size + 1 + 1 + 1, 0, none⟩ = some (.func (.func 84) #[] #[.pointer (some ⟨w.heap.size + 1, 0, none⟩)])) (first | (with_reducible exact keep _ hf1) | (with_reducible exact keep _ hb1.drew)) (first | (go_at_call 84; refine (hT0 _ hb1.drew).mono ?_; rintro e w2 ⟨rfl, hr2⟩; have hf1 : Below W0.heap.size W0 w2 := hb1.trans (Below.mono ⟨hr2.os, hr2.tape, hr2.output, hr2.size, hr2.block⟩ hb1.size)))
  by_cases h1 : n0 > ch
  · obtain ⟨k0, k1, k2, k3⟩ := keep w2 hf1
    have HG : Hid (ok = false) := Lib.hid (by rw [HO.out ()]; simp [h1])
    have hrz := hr.kept hf1
    have hBz0 := hb0.trans (hf1.mono hb0.size)
    obtain ⟨z0, f0, z1, f1, z2, f2, bR⟩ := hrz.store3 (.int .i64 0) (.int .i64 0) (.int .i64 0)
    have hBz := below_store3 hBz0 (B := w.heap.size + 1 + 1) (by omega) (.int .i64 0) (.int .i64 0) (.int .i64 0)
    obtain ⟨y0, y1, y2⟩ := bR.three
    obtain ⟨k0, k1, k2, k3⟩ := keep w2 hf1
    clear HO HB hrz hBz0 bR hT0 hT1 hT2 hG0 hG1 hx hr hf keep hmf hmg
    go_wp2
    refine bodyPost_ret (v := .tuple #[.agg #[.int .i64 0, .int .i64 0, .int .i64 0], .bool false]) ?_ rfl ⟨⟨0, 0, 0, by rw [HG.out], fun h => by rw [HG.out] at h; cases h⟩, hBz⟩
    rw [sResults_ct rfl]
    simp [asAddr, Result.andThen, go_sem, y0, y1, y2]
  · have e1 : decide (ch < n0) = false := decide_eq_false h1
    rw [e1]
    clear e1
    by_cases h2 : n1 > fr
    · obtain ⟨k0, k1, k2, k3⟩ := keep w2 hf1
      have HG : Hid (ok = false) := Lib.hid (by rw [HO.out ()]; simp [h2])
      have hrz := hr.kept hf1
      have hBz0 := hb0.trans (hf1.mono hb0.size)
      obtain ⟨z0, f0, z1, f1, z2, f2, bR⟩ := hrz.store3 (.int .i64 0) (.int .i64 0) (.int .i64 0)
      have hBz := below_store3 hBz0 (B := w.heap.size + 1 + 1) (by omega) (.int .i64 0) (.int .i64 0) (.int .i64 0)
      obtain ⟨y0, y1, y2⟩ := bR.three
      obtain ⟨k0, k1, k2, k3⟩ := keep w2 hf1
      clear HO HB hrz hBz0 bR hT0 hT1 hT2 hG0 hG1 hx hr hf keep hmf hmg
      go_wp2
      refine bodyPost_ret (v := .tuple #[.agg #[.int .i64 0, .int .i64 0, .int .i64 0], .bool false]) ?_ rfl ⟨⟨0, 0, 0, by rw [HG.out], fun h => by rw [HG.out] at h; cases h⟩, hBz⟩
      rw [sResults_ct rfl]
      simp [asAddr, Result.andThen, go_sem, y0, y1, y2]
    · by_cases h3 : 0 < n1
      · by_cases h4 : n1 < 4096
        · obtain ⟨k0, k1, k2, k3⟩ := keep w2 hf1
          have HG : Hid (ok = false) := Lib.hid (by rw [HO.out ()]; simp [h3, h4])
          have hrz := hr.kept hf1
          have hBz0 := hb0.trans (hf1.mono hb0.size)
          obtain ⟨z0, f0, z1, f1, z2, f2, bR⟩ := hrz.store3 (.int .i64 0) (.int .i64 0) (.int .i64 0)
          have hBz := below_store3 hBz0 (B := w.heap.size + 1 + 1) (by omega) (.int .i64 0) (.int .i64 0) (.int .i64 0)
          obtain ⟨y0, y1, y2⟩ := bR.three
          obtain ⟨k0, k1, k2, k3⟩ := keep w2 hf1
          clear HO HB hrz hBz0 bR hT0 hT1 hT2 hG0 hG1 hx hr hf keep hmf hmg
          go_wp2
          refine bodyPost_ret (v := .tuple #[.agg #[.int .i64 0, .int .i64 0, .int .i64 0], .bool false]) ?_ rfl ⟨⟨0, 0, 0, by rw [HG.out], fun h => by rw [HG.out] at h; cases h⟩, hBz⟩
          rw [sResults_ct rfl]
          simp [asAddr, Result.andThen, go_sem, y0, y1, y2]
        · have HG : Hid (ok = true) := Lib.hid (by rw [HO.out ()]; simp [h1, h2, h3, h4])
          clear HO
          obtain ⟨k0, k1, k2, k3⟩ := keep w2 hf1
          go_upto_region 8 with fail
          clear k0 k1 k2 k3
          go_cut [9] (fun p wx => ∃ nb, p = .pointer (some ⟨nb, 0, none⟩) ∧ W0.heap.size ≤ nb ∧ Bx wx nb 23 [.int .i64 g0, .int .i64 g1, .int .i64 0] ∧ Below W0.heap.size W0 wx)
          case first =>
            go_region_held3 (fun w' => w'.cell? ⟨w.heap.size, 0, none⟩ = some (.int .i64 ch) ∧ w'.cell? ⟨w.heap.size, 1, none⟩ = some (.int .i64 fr) ∧ w'.cell? ⟨w.heap.size, 2, none⟩ = some (.int .i64 bt) ∧ w'.cell? ⟨w.heap.size + 1 + 1 + 1, 0, none⟩ = some (.func (.func 84) #[] #[.pointer (some ⟨w.heap.size + 1, 0, none⟩)])) (first | (with_reducible exact keep _ hgS) | (with_reducible exact keep _ hg2) | (with_reducible exact keep _ (hg2.alloc hg2.size _)) | (with_reducible exact keep _ hg1) | (with_reducible exact keep _ (hg1.alloc hg1.size _)) | (with_reducible exact keep _ hf1.drew) | (with_reducible exact keep _ ((hf1.alloc hf1.size _).drew))) (first | (go_at_call 85; refine (hG1 _ hg1).mono ?_; rintro e w4 ⟨rfl, hr4⟩; have hg2 : Below W0.heap.size W0 w4 := hg1.trans (hr4.mono hg1.size); have bx2 := bx.kept hr4; obtain ⟨a0, f0, a1, f1, a2, f2, bR⟩ := bx2.store3 (.int .i64 g0) (.int .i64 g1) (.int .i64 0); have hgS := below_store3 hg2 (B := w2.heap.size) hf1.size (.int .i64 g0) (.int .i64 g1) (.int .i64 0)) | (go_at_call 85; refine (hG1 _ (hg1.alloc hg1.size _)).mono ?_; rintro e w4 ⟨rfl, hr4⟩; have hg2 : Below W0.heap.size W0 w4 := (hg1.alloc hg1.size _).trans (hr4.mono (hg1.alloc hg1.size _).size); have bx2 : Bx w4 w3.heap.size 23 [.int .i64 0, .int .i64 0, .int .i64 0] := (Bx.new w3 23 [.int .i64 0, .int .i64 0, .int .i64 0]).kept hr4; obtain ⟨a0, f0, a1, f1, a2, f2, bR⟩ := bx2.store3 (.int .i64 g0) (.int .i64 g1) (.int .i64 0); have hgS := below_store3 hg2 (B := w3.heap.size) hg1.size (.int .i64 g0) (.int .i64 g1) (.int .i64 0)) | (go_at_call 85; refine (hG1 _ hg1).mono ?_; rintro e w4 ⟨rfl, hr4⟩; have hg2 : Below W0.heap.size W0 w4 := hg1.trans (hr4.mono hg1.size)) | (go_at_call 85; refine (hG0 _ hf1.drew).mono ?_; rintro e w3 ⟨rfl, hr3⟩; have hg1 : Below W0.heap.size W0 w3 := hf1.drew.trans (hr3.mono hf1.drew.size)) | (go_at_call 85; refine (hG0 _ ((hf1.alloc hf1.size _).drew)).mono ?_; rintro e w3 ⟨rfl, hr3⟩; have hg1 : Below W0.heap.size W0 w3 := ((hf1.alloc hf1.size _).drew).trans (hr3.mono ((hf1.alloc hf1.size _).drew).size); have bx : Bx w3 w2.heap.size 23 [.int .i64 0, .int .i64 0, .int .i64 0] := (Bx.new w2 23 [.int .i64 0, .int .i64 0, .int .i64 0]).kept ⟨hr3.os, hr3.tape, hr3.output, hr3.size, hr3.block⟩))
            all_goals
              go_wp2_with fail
              go_meet
              case rel => first | exact ⟨_, rfl, hf1.size, bR, hgS⟩ | exact ⟨_, rfl, hg1.size, bR, hgS⟩ | exact ⟨_, rfl, hg2.size, Bx.new w4 _ _, hg2.alloc hg2.size _⟩
          case rest =>
            obtain ⟨nb, rfl, hle, hN, hc⟩ := hcut
            obtain ⟨k0, k1, k2, k3⟩ := keep wc hc
            have hTc := hT2 wc hc
            have HO := trivial
            go_wp2_with fail
            with_reducible refine hTc.mono ?_
            rintro e w5 ⟨rfl, hb5⟩
            have hc5 : Below W0.heap.size W0 w5 := hc.trans (hb5.mono hc.size)
            have hN5 := hN.kept hb5
            clear hTc k0 k1 k2 k3 hc hN hb5
            obtain ⟨k0, k1, k2, k3⟩ := keep w5 hc5
            by_cases h5 : n2 = 0
            · have HGB : Hid (gb = 0) := Lib.hid (by rw [HB.out (), if_neg (by simp [h5])])
              have hrz := hr.kept hc5
              have hBz0 := hb0.trans (hc5.mono hb0.size)
              obtain ⟨z0, f0, z1, f1, z2, f2, bR⟩ := hrz.store3 (.int .i64 g0) (.int .i64 g1) (.int .i64 0)
              have hBz := below_store3 hBz0 (B := w.heap.size + 1 + 1) (by omega) (.int .i64 g0) (.int .i64 g1) (.int .i64 0)
              obtain ⟨y0, y1, y2⟩ := bR.three
              obtain ⟨q0, q1, q2⟩ := hN5.three
              clear HO HB hrz hBz0 bR hT0 hT1 hT2 hG0 hG1 hx hr hf keep hmf hmg
              go_wp2
              refine bodyPost_ret (v := .tuple #[.agg #[.int .i64 g0, .int .i64 g1, .int .i64 0], .bool true]) ?_ rfl ⟨⟨_, _, _, by rw [HG.out], fun _ => ⟨rfl, rfl, by rw [HGB.out]⟩⟩, hBz⟩
              rw [sResults_ct rfl]
              simp [asAddr, Result.andThen, go_sem, y0, y1, y2]
            · by_cases h6 : bt = 0
              · have HGB : Hid (gb = 0) := Lib.hid (by rw [HB.out (), if_neg (by simp [h6])])
                have hrz := hr.kept hc5
                have hBz0 := hb0.trans (hc5.mono hb0.size)
                obtain ⟨z0, f0, z1, f1, z2, f2, bR⟩ := hrz.store3 (.int .i64 g0) (.int .i64 g1) (.int .i64 0)
                have hBz := below_store3 hBz0 (B := w.heap.size + 1 + 1) (by omega) (.int .i64 g0) (.int .i64 g1) (.int .i64 0)
                obtain ⟨y0, y1, y2⟩ := bR.three
                obtain ⟨q0, q1, q2⟩ := hN5.three
                clear HO HB hrz hBz0 bR hT0 hT1 hT2 hG0 hG1 hx hr hf keep hmf hmg
                go_wp2
                refine bodyPost_ret (v := .tuple #[.agg #[.int .i64 g0, .int .i64 g1, .int .i64 0], .bool true]) ?_ rfl ⟨⟨_, _, _, by rw [HG.out], fun _ => ⟨rfl, rfl, by rw [HGB.out]⟩⟩, hBz⟩
                rw [sResults_ct rfl]
                simp [asAddr, Result.andThen, go_sem, y0, y1, y2]
              · have HGB : Hid (gb = min n2 bt) := Lib.hid (by rw [HB.out (), if_pos ⟨h5, h6⟩])
                have e5 : (n2 != 0) = true := by simp [h5]
                have e6 : (bt != 0) = true := by simp [h6]
                go_upto_region 10 with fail
                clear k0 k1 k2 k3
                go_region_held3 (fun w' => w'.cell? ⟨w.heap.size, 0, none⟩ = some (.int .i64 ch) ∧ w'.cell? ⟨w.heap.size, 1, none⟩ = some (.int .i64 fr) ∧ w'.cell? ⟨w.heap.size, 2, none⟩ = some (.int .i64 bt) ∧ w'.cell? ⟨w.heap.size + 1 + 1 + 1, 0, none⟩ = some (.func (.func 84) #[] #[.pointer (some ⟨w.heap.size + 1, 0, none⟩)])) (first | (with_reducible exact keep _ hgS) | (with_reducible exact keep _ hg6) | (with_reducible exact keep _ hc5.drew)) (first | (go_at_call 84; refine (hT2 _ hc5.drew).mono ?_; rintro e w6 ⟨rfl, hr6⟩; have hg6 : Below W0.heap.size W0 w6 := hc5.drew.trans (hr6.mono hc5.drew.size); have hN6 := hN5.kept ⟨hr6.os, hr6.tape, hr6.output, hr6.size, hr6.block⟩; have c2 := hN6.cell 2 (by simp); have c3 := hN6.frozen 2; have hgS := hg6.setCell (p := ⟨nb, 2, none⟩) hle (.int .i64 (min n2 bt)); have hN7 := hN6.set 2 (.int .i64 (min n2 bt))))
                have hN8 : Bx (w6.setCell ⟨nb, 2, none⟩ (.int .i64 (min n2 bt))) nb 23 [.int .i64 g0, .int .i64 g1, .int .i64 (min n2 bt)] := hN7
                obtain ⟨W8, hW8⟩ : ∃ W8, W8 = w6.setCell ⟨nb, 2, none⟩ (.int .i64 (min n2 bt)) := ⟨_, rfl⟩
                rw [← hW8] at hN8 hgS ⊢
                clear hN7 hg6 hN6 c2 c3 hW8
                have hrz := hr.kept hgS
                have hBz0 := hb0.trans (hgS.mono hb0.size)
                obtain ⟨z0, f0, z1, f1, z2, f2, bR⟩ := hrz.store3 (.int .i64 g0) (.int .i64 g1) (.int .i64 (min n2 bt))
                have hBz := below_store3 hBz0 (B := w.heap.size + 1 + 1) (by omega) (.int .i64 g0) (.int .i64 g1) (.int .i64 (min n2 bt))
                obtain ⟨y0, y1, y2⟩ := bR.three
                obtain ⟨q0, q1, q2⟩ := hN8.three
                clear HO HB hrz hBz0 bR hT0 hT1 hT2 hG0 hG1 hx hr hf keep hmf hmg
                go_wp2
                refine bodyPost_ret (v := .tuple #[.agg #[.int .i64 g0, .int .i64 g1, .int .i64 (min n2 bt)], .bool true]) ?_ rfl ⟨⟨_, _, _, by rw [HG.out], fun _ => ⟨rfl, rfl, by rw [HGB.out]⟩⟩, hBz⟩
                rw [sResults_ct rfl]
                simp [asAddr, Result.andThen, go_sem, y0, y1, y2]


      · have HG : Hid (ok = true) := Lib.hid (by rw [HO.out ()]; simp [h1, h2, h3])
        clear HO
        obtain ⟨k0, k1, k2, k3⟩ := keep w2 hf1
        go_upto_region 8 with fail
        clear k0 k1 k2 k3
        go_cut [9] (fun p wx => ∃ nb, p = .pointer (some ⟨nb, 0, none⟩) ∧ W0.heap.size ≤ nb ∧ Bx wx nb 23 [.int .i64 g0, .int .i64 g1, .int .i64 0] ∧ Below W0.heap.size W0 wx)
        case first =>
          go_region_held3 (fun w' => w'.cell? ⟨w.heap.size, 0, none⟩ = some (.int .i64 ch) ∧ w'.cell? ⟨w.heap.size, 1, none⟩ = some (.int .i64 fr) ∧ w'.cell? ⟨w.heap.size, 2, none⟩ = some (.int .i64 bt) ∧ w'.cell? ⟨w.heap.size + 1 + 1 + 1, 0, none⟩ = some (.func (.func 84) #[] #[.pointer (some ⟨w.heap.size + 1, 0, none⟩)])) (first | (with_reducible exact keep _ hgS) | (with_reducible exact keep _ hg2) | (with_reducible exact keep _ (hg2.alloc hg2.size _)) | (with_reducible exact keep _ hg1) | (with_reducible exact keep _ (hg1.alloc hg1.size _)) | (with_reducible exact keep _ hf1.drew) | (with_reducible exact keep _ ((hf1.alloc hf1.size _).drew))) (first | (go_at_call 85; refine (hG1 _ hg1).mono ?_; rintro e w4 ⟨rfl, hr4⟩; have hg2 : Below W0.heap.size W0 w4 := hg1.trans (hr4.mono hg1.size); have bx2 := bx.kept hr4; obtain ⟨a0, f0, a1, f1, a2, f2, bR⟩ := bx2.store3 (.int .i64 g0) (.int .i64 g1) (.int .i64 0); have hgS := below_store3 hg2 (B := w2.heap.size) hf1.size (.int .i64 g0) (.int .i64 g1) (.int .i64 0)) | (go_at_call 85; refine (hG1 _ (hg1.alloc hg1.size _)).mono ?_; rintro e w4 ⟨rfl, hr4⟩; have hg2 : Below W0.heap.size W0 w4 := (hg1.alloc hg1.size _).trans (hr4.mono (hg1.alloc hg1.size _).size); have bx2 : Bx w4 w3.heap.size 23 [.int .i64 0, .int .i64 0, .int .i64 0] := (Bx.new w3 23 [.int .i64 0, .int .i64 0, .int .i64 0]).kept hr4; obtain ⟨a0, f0, a1, f1, a2, f2, bR⟩ := bx2.store3 (.int .i64 g0) (.int .i64 g1) (.int .i64 0); have hgS := below_store3 hg2 (B := w3.heap.size) hg1.size (.int .i64 g0) (.int .i64 g1) (.int .i64 0)) | (go_at_call 85; refine (hG1 _ hg1).mono ?_; rintro e w4 ⟨rfl, hr4⟩; have hg2 : Below W0.heap.size W0 w4 := hg1.trans (hr4.mono hg1.size)) | (go_at_call 85; refine (hG0 _ hf1.drew).mono ?_; rintro e w3 ⟨rfl, hr3⟩; have hg1 : Below W0.heap.size W0 w3 := hf1.drew.trans (hr3.mono hf1.drew.size)) | (go_at_call 85; refine (hG0 _ ((hf1.alloc hf1.size _).drew)).mono ?_; rintro e w3 ⟨rfl, hr3⟩; have hg1 : Below W0.heap.size W0 w3 := ((hf1.alloc hf1.size _).drew).trans (hr3.mono ((hf1.alloc hf1.size _).drew).size); have bx : Bx w3 w2.heap.size 23 [.int .i64 0, .int .i64 0, .int .i64 0] := (Bx.new w2 23 [.int .i64 0, .int .i64 0, .int .i64 0]).kept ⟨hr3.os, hr3.tape, hr3.output, hr3.size, hr3.block⟩))
          all_goals
            go_wp2_with fail
            go_meet
            case rel => first | exact ⟨_, rfl, hf1.size, bR, hgS⟩ | exact ⟨_, rfl, hg1.size, bR, hgS⟩ | exact ⟨_, rfl, hg2.size, Bx.new w4 _ _, hg2.alloc hg2.size _⟩
        case rest =>
          obtain ⟨nb, rfl, hle, hN, hc⟩ := hcut
          obtain ⟨k0, k1, k2, k3⟩ := keep wc hc
          have hTc := hT2 wc hc
          have HO := trivial
          go_wp2_with fail
          with_reducible refine hTc.mono ?_
          rintro e w5 ⟨rfl, hb5⟩
          have hc5 : Below W0.heap.size W0 w5 := hc.trans (hb5.mono hc.size)
          have hN5 := hN.kept hb5
          clear hTc k0 k1 k2 k3 hc hN hb5
          obtain ⟨k0, k1, k2, k3⟩ := keep w5 hc5
          by_cases h5 : n2 = 0
          · have HGB : Hid (gb = 0) := Lib.hid (by rw [HB.out (), if_neg (by simp [h5])])
            have hrz := hr.kept hc5
            have hBz0 := hb0.trans (hc5.mono hb0.size)
            obtain ⟨z0, f0, z1, f1, z2, f2, bR⟩ := hrz.store3 (.int .i64 g0) (.int .i64 g1) (.int .i64 0)
            have hBz := below_store3 hBz0 (B := w.heap.size + 1 + 1) (by omega) (.int .i64 g0) (.int .i64 g1) (.int .i64 0)
            obtain ⟨y0, y1, y2⟩ := bR.three
            obtain ⟨q0, q1, q2⟩ := hN5.three
            clear HO HB hrz hBz0 bR hT0 hT1 hT2 hG0 hG1 hx hr hf keep hmf hmg
            go_wp2
            refine bodyPost_ret (v := .tuple #[.agg #[.int .i64 g0, .int .i64 g1, .int .i64 0], .bool true]) ?_ rfl ⟨⟨_, _, _, by rw [HG.out], fun _ => ⟨rfl, rfl, by rw [HGB.out]⟩⟩, hBz⟩
            rw [sResults_ct rfl]
            simp [asAddr, Result.andThen, go_sem, y0, y1, y2]
          · by_cases h6 : bt = 0
            · have HGB : Hid (gb = 0) := Lib.hid (by rw [HB.out (), if_neg (by simp [h6])])
              have hrz := hr.kept hc5
              have hBz0 := hb0.trans (hc5.mono hb0.size)
              obtain ⟨z0, f0, z1, f1, z2, f2, bR⟩ := hrz.store3 (.int .i64 g0) (.int .i64 g1) (.int .i64 0)
              have hBz := below_store3 hBz0 (B := w.heap.size + 1 + 1) (by omega) (.int .i64 g0) (.int .i64 g1) (.int .i64 0)
              obtain ⟨y0, y1, y2⟩ := bR.three
              obtain ⟨q0, q1, q2⟩ := hN5.three
              clear HO HB hrz hBz0 bR hT0 hT1 hT2 hG0 hG1 hx hr hf keep hmf hmg
              go_wp2
              refine bodyPost_ret (v := .tuple #[.agg #[.int .i64 g0, .int .i64 g1, .int .i64 0], .bool true]) ?_ rfl ⟨⟨_, _, _, by rw [HG.out], fun _ => ⟨rfl, rfl, by rw [HGB.out]⟩⟩, hBz⟩
              rw [sResults_ct rfl]
              simp [asAddr, Result.andThen, go_sem, y0, y1, y2]
            · have HGB : Hid (gb = min n2 bt) := Lib.hid (by rw [HB.out (), if_pos ⟨h5, h6⟩])
              have e5 : (n2 != 0) = true := by simp [h5]
              have e6 : (bt != 0) = true := by simp [h6]
              go_upto_region 10 with fail
              clear k0 k1 k2 k3
              go_region_held3 (fun w' => w'.cell? ⟨w.heap.size, 0, none⟩ = some (.int .i64 ch) ∧ w'.cell? ⟨w.heap.size, 1, none⟩ = some (.int .i64 fr) ∧ w'.cell? ⟨w.heap.size, 2, none⟩ = some (.int .i64 bt) ∧ w'.cell? ⟨w.heap.size + 1 + 1 + 1, 0, none⟩ = some (.func (.func 84) #[] #[.pointer (some ⟨w.heap.size + 1, 0, none⟩)])) (first | (with_reducible exact keep _ hgS) | (with_reducible exact keep _ hg6) | (with_reducible exact keep _ hc5.drew)) (first | (go_at_call 84; refine (hT2 _ hc5.drew).mono ?_; rintro e w6 ⟨rfl, hr6⟩; have hg6 : Below W0.heap.size W0 w6 := hc5.drew.trans (hr6.mono hc5.drew.size); have hN6 := hN5.kept ⟨hr6.os, hr6.tape, hr6.output, hr6.size, hr6.block⟩; have c2 := hN6.cell 2 (by simp); have c3 := hN6.frozen 2; have hgS := hg6.setCell (p := ⟨nb, 2, none⟩) hle (.int .i64 (min n2 bt)); have hN7 := hN6.set 2 (.int .i64 (min n2 bt))))
              have hN8 : Bx (w6.setCell ⟨nb, 2, none⟩ (.int .i64 (min n2 bt))) nb 23 [.int .i64 g0, .int .i64 g1, .int .i64 (min n2 bt)] := hN7
              obtain ⟨W8, hW8⟩ : ∃ W8, W8 = w6.setCell ⟨nb, 2, none⟩ (.int .i64 (min n2 bt)) := ⟨_, rfl⟩
              rw [← hW8] at hN8 hgS ⊢
              clear hN7 hg6 hN6 c2 c3 hW8
              have hrz := hr.kept hgS
              have hBz0 := hb0.trans (hgS.mono hb0.size)
              obtain ⟨z0, f0, z1, f1, z2, f2, bR⟩ := hrz.store3 (.int .i64 g0) (.int .i64 g1) (.int .i64 (min n2 bt))
              have hBz := below_store3 hBz0 (B := w.heap.size + 1 + 1) (by omega) (.int .i64 g0) (.int .i64 g1) (.int .i64 (min n2 bt))
              obtain ⟨y0, y1, y2⟩ := bR.three
              obtain ⟨q0, q1, q2⟩ := hN8.three
              clear HO HB hrz hBz0 bR hT0 hT1 hT2 hG0 hG1 hx hr hf keep hmf hmg
              go_wp2
              refine bodyPost_ret (v := .tuple #[.agg #[.int .i64 g0, .int .i64 g1, .int .i64 (min n2 bt)], .bool true]) ?_ rfl ⟨⟨_, _, _, by rw [HG.out], fun _ => ⟨rfl, rfl, by rw [HGB.out]⟩⟩, hBz⟩
              rw [sResults_ct rfl]
              simp [asAddr, Result.andThen, go_sem, y0, y1, y2]

end Go.Proofs.YtkdiccedkjbpeaaGreatDoorR
