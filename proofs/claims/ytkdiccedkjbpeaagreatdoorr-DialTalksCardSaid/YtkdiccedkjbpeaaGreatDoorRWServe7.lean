/-
  serve.Take where a connection is open, runs, or ends: as WServe6 has it for the states ahead. Conditions: those of WServe6.
-/
import Derived.Test.YtkdiccedkjbpeaaGreatDoorRWServe6
import Derived.Test.YtkdiccedkjbpeaaGreatDoorRKC
namespace Go.Proofs.YtkdiccedkjbpeaaGreatDoorR
open Go.RowKit

set_option maxRecDepth 100000 in
set_option maxHeartbeats 4000000 in
theorem take_open (h : Hd) (m : Me) (A : Option Addr) (cap : Nat) (w : World) (hw : Wid w) (hv : wfM m) (hA : ValsAt w A (rowV m.l)) (hE : mE m = 0) (hst : h.st = 3) (r : Tn) (hC : ∀ W, Below w.heap.size w W → Calls Tryz.prog 38 #[encHd h, encM m A cap] W (TnPost r W)) : Calls Tryz.prog 11 #[encHd h, encM m A cap] w (TnPost r w) := by
  obtain ⟨st, ch, fr, bt, us, wo, ho⟩ := h
  obtain ⟨mc, mi, ml⟩ := m
  unfold encHd encM
  dsimp only
  unfold TnPost
  obtain ⟨W0, hW0⟩ : ∃ W0, W0 = ((w.alloc (.cells #[.int .i64 st, .int .i64 ch, .int .i64 fr, .int .i64 bt, .string us, .string wo, .string ho] 28)).alloc (.cells #[.int .i64 mc, .int .i64 mi, .slice A ml.length cap] 39)).alloc (.cells #[.int .i64 0, .int .i64 0, .int .i64 0, .int .i64 0, .string ⟨#[]⟩, .string ⟨#[]⟩, .string ⟨#[]⟩] 28) := ⟨_, rfl⟩
  have hb0 : Below w.heap.size w W0 := by rw [hW0]; exact (((Below.refl _ w).alloc (Nat.le_refl _) _).alloc (by simp) _).alloc (by simp; omega) _
  have hs0 : W0.heap.size = w.heap.size + 1 + 1 + 1 := by rw [hW0]; simp
  have hx : Bx W0 w.heap.size 28 [.int .i64 st, .int .i64 ch, .int .i64 fr, .int .i64 bt, .string us, .string wo, .string ho] := by rw [hW0]; exact ((Bx.new w 28 [.int .i64 st, .int .i64 ch, .int .i64 fr, .int .i64 bt, .string us, .string wo, .string ho]).alloc _).alloc _
  have hm : Bx W0 (w.heap.size + 1) 39 [.int .i64 mc, .int .i64 mi, .slice A ml.length cap] := by
    have h := (Bx.new (w.alloc (.cells #[.int .i64 st, .int .i64 ch, .int .i64 fr, .int .i64 bt, .string us, .string wo, .string ho] 28)) 39 [.int .i64 mc, .int .i64 mi, .slice A ml.length cap]).alloc (.cells #[.int .i64 0, .int .i64 0, .int .i64 0, .int .i64 0, .string ⟨#[]⟩, .string ⟨#[]⟩, .string ⟨#[]⟩] 28)
    rw [World.size_alloc] at h
    rw [hW0]; exact h
  have hr : Bx W0 (w.heap.size + 1 + 1) 28 [.int .i64 0, .int .i64 0, .int .i64 0, .int .i64 0, .string ⟨#[]⟩, .string ⟨#[]⟩, .string ⟨#[]⟩] := by
    have h := Bx.new ((w.alloc (.cells #[.int .i64 st, .int .i64 ch, .int .i64 fr, .int .i64 bt, .string us, .string wo, .string ho] 28)).alloc (.cells #[.int .i64 mc, .int .i64 mi, .slice A ml.length cap] 39)) 28 [.int .i64 0, .int .i64 0, .int .i64 0, .int .i64 0, .string ⟨#[]⟩, .string ⟨#[]⟩, .string ⟨#[]⟩]
    rw [World.size_alloc, World.size_alloc] at h
    rw [hW0]; exact h
  have hRi := mright_any ⟨mc, mi, ml⟩ A cap W0 (hw.below hb0) hv (hA.below hb0)
  unfold encM at hRi
  rw [hE] at hRi
  unfold encHd encM TnPost at hC
  try unfold encHd at *
  try dsimp only at *
  subst hst
  clear hw hv hA hE
  go_enter Tryz.func11, Tryz.ntmps11
  go_wp2_with fail
  rw [← hW0]
  clear hW0
  with_reducible refine hRi.mono ?_
  rintro e w1 ⟨rfl, hb1⟩
  have hB := hb0.trans (hb1.mono hb0.size)
  replace hx := hx.kept hb1
  replace hm := hm.kept hb1
  replace hr := hr.kept hb1
  clear hRi hb1
  have hSt := steps_any w1
  go_wp2_with fail
  with_reducible refine hSt.mono ?_
  rintro e w2 ⟨rfl, hb2⟩
  have hB2 := hB.trans (hb2.mono hB.size)
  replace hx := hx.kept hb2
  replace hm := hm.kept hb2
  replace hr := hr.kept hb2
  clear hSt hb2 hB
  obtain ⟨W3, hW3⟩ : ∃ W3, W3 = w2.alloc (.cells #[.func (.func 35) #[] #[], .func (.func 36) #[] #[], .func (.func 37) #[] #[], .func (.func 38) #[] #[], .func (.func 39) #[] #[], .func (.func 40) #[] #[], .func (.func 41) #[] #[]] 61) := ⟨_, rfl⟩
  have hb3 : Below w2.heap.size w2 W3 := by rw [hW3]; exact (Below.refl _ w2).alloc (Nat.le_refl _) _
  have hT : Bx W3 w2.heap.size 61 [.func (.func 35) #[] #[], .func (.func 36) #[] #[], .func (.func 37) #[] #[], .func (.func 38) #[] #[], .func (.func 39) #[] #[], .func (.func 40) #[] #[], .func (.func 41) #[] #[]] := by rw [hW3]; exact Bx.new w2 _ _
  have hle : w.heap.size + 1 + 1 < w2.heap.size := hr.lt
  have hB3 := hB2.trans (hb3.mono hB2.size)
  replace hx := hx.kept hb3
  replace hm := hm.kept hb3
  replace hr := hr.kept hb3
  clear hb3 hB2
  go_upto_region 4 with fail
  rw [← hW3]
  clear hW3
  have hf := (hT.seven).2.2.2.1
  have hlt2 := hT.lt
  have keep : ∀ w', Below W3.heap.size W3 w' → w'.cell? ⟨w.heap.size, 0, none⟩ = some (.int .i64 3) ∧ w'.cell? ⟨w.heap.size, 1, none⟩ = some (.int .i64 ch) ∧ w'.cell? ⟨w.heap.size, 2, none⟩ = some (.int .i64 fr) ∧ w'.cell? ⟨w.heap.size, 3, none⟩ = some (.int .i64 bt) ∧ w'.cell? ⟨w.heap.size, 4, none⟩ = some (.string us) ∧ w'.cell? ⟨w.heap.size, 5, none⟩ = some (.string wo) ∧ w'.cell? ⟨w.heap.size, 6, none⟩ = some (.string ho) ∧ w'.cell? ⟨w.heap.size + 1, 0, none⟩ = some (.int .i64 mc) ∧ w'.cell? ⟨w.heap.size + 1, 1, none⟩ = some (.int .i64 mi) ∧ w'.cell? ⟨w.heap.size + 1, 2, none⟩ = some (.slice A ml.length cap) ∧ w'.cell? ⟨w2.heap.size, 3, none⟩ = some (.func (.func 38) #[] #[]) := fun w' h => ⟨((hx.kept h).seven).1, ((hx.kept h).seven).2.1, ((hx.kept h).seven).2.2.1, ((hx.kept h).seven).2.2.2.1, ((hx.kept h).seven).2.2.2.2.1, ((hx.kept h).seven).2.2.2.2.2.1, ((hx.kept h).seven).2.2.2.2.2.2, ((hm.kept h).three).1, ((hm.kept h).three).2.1, ((hm.kept h).three).2.2, (h.cell (p := ⟨w2.heap.size, 3, none⟩) hlt2).trans hf⟩
  have hT5 := hT
  clear hT
  obtain ⟨⟨p0, p1, p2, p3, p4, p5, p6⟩, ps, pe⟩ := r
  dsimp only at hC ⊢
  obtain ⟨x0, x1, x2, x3, x4, x5, x6⟩ := hx.seven
  go_upto_region 6 with fail
  clear x0 x1 x2 x3 x4 x5 x6
  have hCk : ∀ W, Below W3.heap.size W3 W → _ := fun W (h : Below W3.heap.size W3 W) => hC W (hB3.trans (h.mono hB3.size))
  clear hC
  go_region_held3 (fun w' => w'.cell? ⟨w.heap.size, 0, none⟩ = some (.int .i64 3) ∧ w'.cell? ⟨w.heap.size, 1, none⟩ = some (.int .i64 ch) ∧ w'.cell? ⟨w.heap.size, 2, none⟩ = some (.int .i64 fr) ∧ w'.cell? ⟨w.heap.size, 3, none⟩ = some (.int .i64 bt) ∧ w'.cell? ⟨w.heap.size, 4, none⟩ = some (.string us) ∧ w'.cell? ⟨w.heap.size, 5, none⟩ = some (.string wo) ∧ w'.cell? ⟨w.heap.size, 6, none⟩ = some (.string ho) ∧ w'.cell? ⟨w.heap.size + 1, 0, none⟩ = some (.int .i64 mc) ∧ w'.cell? ⟨w.heap.size + 1, 1, none⟩ = some (.int .i64 mi) ∧ w'.cell? ⟨w.heap.size + 1, 2, none⟩ = some (.slice A ml.length cap) ∧ w'.cell? ⟨w2.heap.size, 3, none⟩ = some (.func (.func 38) #[] #[])) (first | (with_reducible exact keep _ hf2) | (with_reducible exact hS5) | (with_reducible exact keep _ (Below.refl _ W3).drew)) (first | (go_at_call 38; refine (hCk _ (Below.refl _ W3).drew).mono ?_; rintro e w5 ⟨A5, k5, c5, rfl, hS, hr5⟩; have hf2 : Below W3.heap.size W3 w5 := ⟨hr5.os, hr5.tape, hr5.output, hr5.size, hr5.block⟩; have hr9 := hr.kept hf2; obtain ⟨a0, f0, a1, f1, a2, f2, a3, f3, a4, f4, a5, f5, a6, f6, bR⟩ := hr9.store7 (.int .i64 p0) (.int .i64 p1) (.int .i64 p2) (.int .i64 p3) (.string p4) (.string p5) (.string p6); have hx5 := ((hx.kept hf2).other7 (B := w.heap.size + 1 + 1) (by omega) (.int .i64 p0) (.int .i64 p1) (.int .i64 p2) (.int .i64 p3) (.string p4) (.string p5) (.string p6)).seven; have hm5 := ((hm.kept hf2).other7 (B := w.heap.size + 1 + 1) (by omega) (.int .i64 p0) (.int .i64 p1) (.int .i64 p2) (.int .i64 p3) (.string p4) (.string p5) (.string p6)).three; have ht5 := ((hT5.kept hf2).other7 (B := w.heap.size + 1 + 1) (by omega) (.int .i64 p0) (.int .i64 p1) (.int .i64 p2) (.int .i64 p3) (.string p4) (.string p5) (.string p6)).seven; have hS5 := And.intro hx5.1 (And.intro hx5.2.1 (And.intro hx5.2.2.1 (And.intro hx5.2.2.2.1 (And.intro hx5.2.2.2.2.1 (And.intro hx5.2.2.2.2.2.1 (And.intro hx5.2.2.2.2.2.2 (And.intro hm5.1 (And.intro hm5.2.1 (And.intro hm5.2.2 ht5.2.2.2.1)))))))))))
  have hB9 := hB3.trans (hf2.mono hB3.size)
  have hBz := below_store7 hB9 (B := w.heap.size + 1 + 1) (by omega) (.int .i64 p0) (.int .i64 p1) (.int .i64 p2) (.int .i64 p3) (.string p4) (.string p5) (.string p6)
  have HS := Lib.hid (SaidAt.store7 (w := w5) (n' := w.heap.size) hS (by have := hlt2; simp only [World.size_drew]; omega) (B := w.heap.size + 1 + 1) (by simp only [World.size_drew]; omega) (.int .i64 p0) (.int .i64 p1) (.int .i64 p2) (.int .i64 p3) (.string p4) (.string p5) (.string p6))
  obtain ⟨y0, y1, y2, y3, y4, y5, y6⟩ := bR.seven
  clear bR hr9 hx5 hm5 ht5 hS5 hx hm hr hf hT5
  go_wp2
  refine bodyPost_ret (v := .tuple #[.agg #[.int .i64 p0, .int .i64 p1, .int .i64 p2, .int .i64 p3, .string p4, .string p5, .string p6], .slice A5 k5 c5, .int .i64 pe]) ?_ rfl ⟨A5, k5, ⟨c5, rfl⟩, HS.out, hBz⟩
  rw [results_ctt rfl]
  simp [asAddr, Result.andThen, go_sem, y0, y1, y2, y3, y4, y5, y6]
set_option maxRecDepth 100000 in
set_option maxHeartbeats 4000000 in
theorem take_run (h : Hd) (m : Me) (A : Option Addr) (cap : Nat) (w : World) (hw : Wid w) (hv : wfM m) (hA : ValsAt w A (rowV m.l)) (hE : mE m = 0) (hst : h.st = 4) (r : Tn) (hC : ∀ W, Below w.heap.size w W → Calls Tryz.prog 39 #[encHd h, encM m A cap] W (TnPost r W)) : Calls Tryz.prog 11 #[encHd h, encM m A cap] w (TnPost r w) := by
  obtain ⟨st, ch, fr, bt, us, wo, ho⟩ := h
  obtain ⟨mc, mi, ml⟩ := m
  unfold encHd encM
  dsimp only
  unfold TnPost
  obtain ⟨W0, hW0⟩ : ∃ W0, W0 = ((w.alloc (.cells #[.int .i64 st, .int .i64 ch, .int .i64 fr, .int .i64 bt, .string us, .string wo, .string ho] 28)).alloc (.cells #[.int .i64 mc, .int .i64 mi, .slice A ml.length cap] 39)).alloc (.cells #[.int .i64 0, .int .i64 0, .int .i64 0, .int .i64 0, .string ⟨#[]⟩, .string ⟨#[]⟩, .string ⟨#[]⟩] 28) := ⟨_, rfl⟩
  have hb0 : Below w.heap.size w W0 := by rw [hW0]; exact (((Below.refl _ w).alloc (Nat.le_refl _) _).alloc (by simp) _).alloc (by simp; omega) _
  have hs0 : W0.heap.size = w.heap.size + 1 + 1 + 1 := by rw [hW0]; simp
  have hx : Bx W0 w.heap.size 28 [.int .i64 st, .int .i64 ch, .int .i64 fr, .int .i64 bt, .string us, .string wo, .string ho] := by rw [hW0]; exact ((Bx.new w 28 [.int .i64 st, .int .i64 ch, .int .i64 fr, .int .i64 bt, .string us, .string wo, .string ho]).alloc _).alloc _
  have hm : Bx W0 (w.heap.size + 1) 39 [.int .i64 mc, .int .i64 mi, .slice A ml.length cap] := by
    have h := (Bx.new (w.alloc (.cells #[.int .i64 st, .int .i64 ch, .int .i64 fr, .int .i64 bt, .string us, .string wo, .string ho] 28)) 39 [.int .i64 mc, .int .i64 mi, .slice A ml.length cap]).alloc (.cells #[.int .i64 0, .int .i64 0, .int .i64 0, .int .i64 0, .string ⟨#[]⟩, .string ⟨#[]⟩, .string ⟨#[]⟩] 28)
    rw [World.size_alloc] at h
    rw [hW0]; exact h
  have hr : Bx W0 (w.heap.size + 1 + 1) 28 [.int .i64 0, .int .i64 0, .int .i64 0, .int .i64 0, .string ⟨#[]⟩, .string ⟨#[]⟩, .string ⟨#[]⟩] := by
    have h := Bx.new ((w.alloc (.cells #[.int .i64 st, .int .i64 ch, .int .i64 fr, .int .i64 bt, .string us, .string wo, .string ho] 28)).alloc (.cells #[.int .i64 mc, .int .i64 mi, .slice A ml.length cap] 39)) 28 [.int .i64 0, .int .i64 0, .int .i64 0, .int .i64 0, .string ⟨#[]⟩, .string ⟨#[]⟩, .string ⟨#[]⟩]
    rw [World.size_alloc, World.size_alloc] at h
    rw [hW0]; exact h
  have hRi := mright_any ⟨mc, mi, ml⟩ A cap W0 (hw.below hb0) hv (hA.below hb0)
  unfold encM at hRi
  rw [hE] at hRi
  unfold encHd encM TnPost at hC
  try unfold encHd at *
  try dsimp only at *
  subst hst
  clear hw hv hA hE
  go_enter Tryz.func11, Tryz.ntmps11
  go_wp2_with fail
  rw [← hW0]
  clear hW0
  with_reducible refine hRi.mono ?_
  rintro e w1 ⟨rfl, hb1⟩
  have hB := hb0.trans (hb1.mono hb0.size)
  replace hx := hx.kept hb1
  replace hm := hm.kept hb1
  replace hr := hr.kept hb1
  clear hRi hb1
  have hSt := steps_any w1
  go_wp2_with fail
  with_reducible refine hSt.mono ?_
  rintro e w2 ⟨rfl, hb2⟩
  have hB2 := hB.trans (hb2.mono hB.size)
  replace hx := hx.kept hb2
  replace hm := hm.kept hb2
  replace hr := hr.kept hb2
  clear hSt hb2 hB
  obtain ⟨W3, hW3⟩ : ∃ W3, W3 = w2.alloc (.cells #[.func (.func 35) #[] #[], .func (.func 36) #[] #[], .func (.func 37) #[] #[], .func (.func 38) #[] #[], .func (.func 39) #[] #[], .func (.func 40) #[] #[], .func (.func 41) #[] #[]] 61) := ⟨_, rfl⟩
  have hb3 : Below w2.heap.size w2 W3 := by rw [hW3]; exact (Below.refl _ w2).alloc (Nat.le_refl _) _
  have hT : Bx W3 w2.heap.size 61 [.func (.func 35) #[] #[], .func (.func 36) #[] #[], .func (.func 37) #[] #[], .func (.func 38) #[] #[], .func (.func 39) #[] #[], .func (.func 40) #[] #[], .func (.func 41) #[] #[]] := by rw [hW3]; exact Bx.new w2 _ _
  have hle : w.heap.size + 1 + 1 < w2.heap.size := hr.lt
  have hB3 := hB2.trans (hb3.mono hB2.size)
  replace hx := hx.kept hb3
  replace hm := hm.kept hb3
  replace hr := hr.kept hb3
  clear hb3 hB2
  go_upto_region 4 with fail
  rw [← hW3]
  clear hW3
  have hf := (hT.seven).2.2.2.2.1
  have hlt2 := hT.lt
  have keep : ∀ w', Below W3.heap.size W3 w' → w'.cell? ⟨w.heap.size, 0, none⟩ = some (.int .i64 4) ∧ w'.cell? ⟨w.heap.size, 1, none⟩ = some (.int .i64 ch) ∧ w'.cell? ⟨w.heap.size, 2, none⟩ = some (.int .i64 fr) ∧ w'.cell? ⟨w.heap.size, 3, none⟩ = some (.int .i64 bt) ∧ w'.cell? ⟨w.heap.size, 4, none⟩ = some (.string us) ∧ w'.cell? ⟨w.heap.size, 5, none⟩ = some (.string wo) ∧ w'.cell? ⟨w.heap.size, 6, none⟩ = some (.string ho) ∧ w'.cell? ⟨w.heap.size + 1, 0, none⟩ = some (.int .i64 mc) ∧ w'.cell? ⟨w.heap.size + 1, 1, none⟩ = some (.int .i64 mi) ∧ w'.cell? ⟨w.heap.size + 1, 2, none⟩ = some (.slice A ml.length cap) ∧ w'.cell? ⟨w2.heap.size, 4, none⟩ = some (.func (.func 39) #[] #[]) := fun w' h => ⟨((hx.kept h).seven).1, ((hx.kept h).seven).2.1, ((hx.kept h).seven).2.2.1, ((hx.kept h).seven).2.2.2.1, ((hx.kept h).seven).2.2.2.2.1, ((hx.kept h).seven).2.2.2.2.2.1, ((hx.kept h).seven).2.2.2.2.2.2, ((hm.kept h).three).1, ((hm.kept h).three).2.1, ((hm.kept h).three).2.2, (h.cell (p := ⟨w2.heap.size, 4, none⟩) hlt2).trans hf⟩
  have hT5 := hT
  clear hT
  obtain ⟨⟨p0, p1, p2, p3, p4, p5, p6⟩, ps, pe⟩ := r
  dsimp only at hC ⊢
  obtain ⟨x0, x1, x2, x3, x4, x5, x6⟩ := hx.seven
  go_upto_region 6 with fail
  clear x0 x1 x2 x3 x4 x5 x6
  have hCk : ∀ W, Below W3.heap.size W3 W → _ := fun W (h : Below W3.heap.size W3 W) => hC W (hB3.trans (h.mono hB3.size))
  clear hC
  go_region_held3 (fun w' => w'.cell? ⟨w.heap.size, 0, none⟩ = some (.int .i64 4) ∧ w'.cell? ⟨w.heap.size, 1, none⟩ = some (.int .i64 ch) ∧ w'.cell? ⟨w.heap.size, 2, none⟩ = some (.int .i64 fr) ∧ w'.cell? ⟨w.heap.size, 3, none⟩ = some (.int .i64 bt) ∧ w'.cell? ⟨w.heap.size, 4, none⟩ = some (.string us) ∧ w'.cell? ⟨w.heap.size, 5, none⟩ = some (.string wo) ∧ w'.cell? ⟨w.heap.size, 6, none⟩ = some (.string ho) ∧ w'.cell? ⟨w.heap.size + 1, 0, none⟩ = some (.int .i64 mc) ∧ w'.cell? ⟨w.heap.size + 1, 1, none⟩ = some (.int .i64 mi) ∧ w'.cell? ⟨w.heap.size + 1, 2, none⟩ = some (.slice A ml.length cap) ∧ w'.cell? ⟨w2.heap.size, 4, none⟩ = some (.func (.func 39) #[] #[])) (first | (with_reducible exact keep _ hf2) | (with_reducible exact hS5) | (with_reducible exact keep _ (Below.refl _ W3).drew)) (first | (go_at_call 39; refine (hCk _ (Below.refl _ W3).drew).mono ?_; rintro e w5 ⟨A5, k5, c5, rfl, hS, hr5⟩; have hf2 : Below W3.heap.size W3 w5 := ⟨hr5.os, hr5.tape, hr5.output, hr5.size, hr5.block⟩; have hr9 := hr.kept hf2; obtain ⟨a0, f0, a1, f1, a2, f2, a3, f3, a4, f4, a5, f5, a6, f6, bR⟩ := hr9.store7 (.int .i64 p0) (.int .i64 p1) (.int .i64 p2) (.int .i64 p3) (.string p4) (.string p5) (.string p6); have hx5 := ((hx.kept hf2).other7 (B := w.heap.size + 1 + 1) (by omega) (.int .i64 p0) (.int .i64 p1) (.int .i64 p2) (.int .i64 p3) (.string p4) (.string p5) (.string p6)).seven; have hm5 := ((hm.kept hf2).other7 (B := w.heap.size + 1 + 1) (by omega) (.int .i64 p0) (.int .i64 p1) (.int .i64 p2) (.int .i64 p3) (.string p4) (.string p5) (.string p6)).three; have ht5 := ((hT5.kept hf2).other7 (B := w.heap.size + 1 + 1) (by omega) (.int .i64 p0) (.int .i64 p1) (.int .i64 p2) (.int .i64 p3) (.string p4) (.string p5) (.string p6)).seven; have hS5 := And.intro hx5.1 (And.intro hx5.2.1 (And.intro hx5.2.2.1 (And.intro hx5.2.2.2.1 (And.intro hx5.2.2.2.2.1 (And.intro hx5.2.2.2.2.2.1 (And.intro hx5.2.2.2.2.2.2 (And.intro hm5.1 (And.intro hm5.2.1 (And.intro hm5.2.2 ht5.2.2.2.2.1)))))))))))
  have hB9 := hB3.trans (hf2.mono hB3.size)
  have hBz := below_store7 hB9 (B := w.heap.size + 1 + 1) (by omega) (.int .i64 p0) (.int .i64 p1) (.int .i64 p2) (.int .i64 p3) (.string p4) (.string p5) (.string p6)
  have HS := Lib.hid (SaidAt.store7 (w := w5) (n' := w.heap.size) hS (by have := hlt2; simp only [World.size_drew]; omega) (B := w.heap.size + 1 + 1) (by simp only [World.size_drew]; omega) (.int .i64 p0) (.int .i64 p1) (.int .i64 p2) (.int .i64 p3) (.string p4) (.string p5) (.string p6))
  obtain ⟨y0, y1, y2, y3, y4, y5, y6⟩ := bR.seven
  clear bR hr9 hx5 hm5 ht5 hS5 hx hm hr hf hT5
  go_wp2
  refine bodyPost_ret (v := .tuple #[.agg #[.int .i64 p0, .int .i64 p1, .int .i64 p2, .int .i64 p3, .string p4, .string p5, .string p6], .slice A5 k5 c5, .int .i64 pe]) ?_ rfl ⟨A5, k5, ⟨c5, rfl⟩, HS.out, hBz⟩
  rw [results_ctt rfl]
  simp [asAddr, Result.andThen, go_sem, y0, y1, y2, y3, y4, y5, y6]
set_option maxRecDepth 100000 in
set_option maxHeartbeats 4000000 in
theorem take_closing (h : Hd) (m : Me) (A : Option Addr) (cap : Nat) (w : World) (hw : Wid w) (hv : wfM m) (hA : ValsAt w A (rowV m.l)) (hE : mE m = 0) (hst : h.st = 5) (r : Tn) (hC : ∀ W, Below w.heap.size w W → Calls Tryz.prog 40 #[encHd h, encM m A cap] W (TnPost r W)) : Calls Tryz.prog 11 #[encHd h, encM m A cap] w (TnPost r w) := by
  obtain ⟨st, ch, fr, bt, us, wo, ho⟩ := h
  obtain ⟨mc, mi, ml⟩ := m
  unfold encHd encM
  dsimp only
  unfold TnPost
  obtain ⟨W0, hW0⟩ : ∃ W0, W0 = ((w.alloc (.cells #[.int .i64 st, .int .i64 ch, .int .i64 fr, .int .i64 bt, .string us, .string wo, .string ho] 28)).alloc (.cells #[.int .i64 mc, .int .i64 mi, .slice A ml.length cap] 39)).alloc (.cells #[.int .i64 0, .int .i64 0, .int .i64 0, .int .i64 0, .string ⟨#[]⟩, .string ⟨#[]⟩, .string ⟨#[]⟩] 28) := ⟨_, rfl⟩
  have hb0 : Below w.heap.size w W0 := by rw [hW0]; exact (((Below.refl _ w).alloc (Nat.le_refl _) _).alloc (by simp) _).alloc (by simp; omega) _
  have hs0 : W0.heap.size = w.heap.size + 1 + 1 + 1 := by rw [hW0]; simp
  have hx : Bx W0 w.heap.size 28 [.int .i64 st, .int .i64 ch, .int .i64 fr, .int .i64 bt, .string us, .string wo, .string ho] := by rw [hW0]; exact ((Bx.new w 28 [.int .i64 st, .int .i64 ch, .int .i64 fr, .int .i64 bt, .string us, .string wo, .string ho]).alloc _).alloc _
  have hm : Bx W0 (w.heap.size + 1) 39 [.int .i64 mc, .int .i64 mi, .slice A ml.length cap] := by
    have h := (Bx.new (w.alloc (.cells #[.int .i64 st, .int .i64 ch, .int .i64 fr, .int .i64 bt, .string us, .string wo, .string ho] 28)) 39 [.int .i64 mc, .int .i64 mi, .slice A ml.length cap]).alloc (.cells #[.int .i64 0, .int .i64 0, .int .i64 0, .int .i64 0, .string ⟨#[]⟩, .string ⟨#[]⟩, .string ⟨#[]⟩] 28)
    rw [World.size_alloc] at h
    rw [hW0]; exact h
  have hr : Bx W0 (w.heap.size + 1 + 1) 28 [.int .i64 0, .int .i64 0, .int .i64 0, .int .i64 0, .string ⟨#[]⟩, .string ⟨#[]⟩, .string ⟨#[]⟩] := by
    have h := Bx.new ((w.alloc (.cells #[.int .i64 st, .int .i64 ch, .int .i64 fr, .int .i64 bt, .string us, .string wo, .string ho] 28)).alloc (.cells #[.int .i64 mc, .int .i64 mi, .slice A ml.length cap] 39)) 28 [.int .i64 0, .int .i64 0, .int .i64 0, .int .i64 0, .string ⟨#[]⟩, .string ⟨#[]⟩, .string ⟨#[]⟩]
    rw [World.size_alloc, World.size_alloc] at h
    rw [hW0]; exact h
  have hRi := mright_any ⟨mc, mi, ml⟩ A cap W0 (hw.below hb0) hv (hA.below hb0)
  unfold encM at hRi
  rw [hE] at hRi
  unfold encHd encM TnPost at hC
  try unfold encHd at *
  try dsimp only at *
  subst hst
  clear hw hv hA hE
  go_enter Tryz.func11, Tryz.ntmps11
  go_wp2_with fail
  rw [← hW0]
  clear hW0
  with_reducible refine hRi.mono ?_
  rintro e w1 ⟨rfl, hb1⟩
  have hB := hb0.trans (hb1.mono hb0.size)
  replace hx := hx.kept hb1
  replace hm := hm.kept hb1
  replace hr := hr.kept hb1
  clear hRi hb1
  have hSt := steps_any w1
  go_wp2_with fail
  with_reducible refine hSt.mono ?_
  rintro e w2 ⟨rfl, hb2⟩
  have hB2 := hB.trans (hb2.mono hB.size)
  replace hx := hx.kept hb2
  replace hm := hm.kept hb2
  replace hr := hr.kept hb2
  clear hSt hb2 hB
  obtain ⟨W3, hW3⟩ : ∃ W3, W3 = w2.alloc (.cells #[.func (.func 35) #[] #[], .func (.func 36) #[] #[], .func (.func 37) #[] #[], .func (.func 38) #[] #[], .func (.func 39) #[] #[], .func (.func 40) #[] #[], .func (.func 41) #[] #[]] 61) := ⟨_, rfl⟩
  have hb3 : Below w2.heap.size w2 W3 := by rw [hW3]; exact (Below.refl _ w2).alloc (Nat.le_refl _) _
  have hT : Bx W3 w2.heap.size 61 [.func (.func 35) #[] #[], .func (.func 36) #[] #[], .func (.func 37) #[] #[], .func (.func 38) #[] #[], .func (.func 39) #[] #[], .func (.func 40) #[] #[], .func (.func 41) #[] #[]] := by rw [hW3]; exact Bx.new w2 _ _
  have hle : w.heap.size + 1 + 1 < w2.heap.size := hr.lt
  have hB3 := hB2.trans (hb3.mono hB2.size)
  replace hx := hx.kept hb3
  replace hm := hm.kept hb3
  replace hr := hr.kept hb3
  clear hb3 hB2
  go_upto_region 4 with fail
  rw [← hW3]
  clear hW3
  have hf := (hT.seven).2.2.2.2.2.1
  have hlt2 := hT.lt
  have keep : ∀ w', Below W3.heap.size W3 w' → w'.cell? ⟨w.heap.size, 0, none⟩ = some (.int .i64 5) ∧ w'.cell? ⟨w.heap.size, 1, none⟩ = some (.int .i64 ch) ∧ w'.cell? ⟨w.heap.size, 2, none⟩ = some (.int .i64 fr) ∧ w'.cell? ⟨w.heap.size, 3, none⟩ = some (.int .i64 bt) ∧ w'.cell? ⟨w.heap.size, 4, none⟩ = some (.string us) ∧ w'.cell? ⟨w.heap.size, 5, none⟩ = some (.string wo) ∧ w'.cell? ⟨w.heap.size, 6, none⟩ = some (.string ho) ∧ w'.cell? ⟨w.heap.size + 1, 0, none⟩ = some (.int .i64 mc) ∧ w'.cell? ⟨w.heap.size + 1, 1, none⟩ = some (.int .i64 mi) ∧ w'.cell? ⟨w.heap.size + 1, 2, none⟩ = some (.slice A ml.length cap) ∧ w'.cell? ⟨w2.heap.size, 5, none⟩ = some (.func (.func 40) #[] #[]) := fun w' h => ⟨((hx.kept h).seven).1, ((hx.kept h).seven).2.1, ((hx.kept h).seven).2.2.1, ((hx.kept h).seven).2.2.2.1, ((hx.kept h).seven).2.2.2.2.1, ((hx.kept h).seven).2.2.2.2.2.1, ((hx.kept h).seven).2.2.2.2.2.2, ((hm.kept h).three).1, ((hm.kept h).three).2.1, ((hm.kept h).three).2.2, (h.cell (p := ⟨w2.heap.size, 5, none⟩) hlt2).trans hf⟩
  have hT5 := hT
  clear hT
  obtain ⟨⟨p0, p1, p2, p3, p4, p5, p6⟩, ps, pe⟩ := r
  dsimp only at hC ⊢
  obtain ⟨x0, x1, x2, x3, x4, x5, x6⟩ := hx.seven
  go_upto_region 6 with fail
  clear x0 x1 x2 x3 x4 x5 x6
  have hCk : ∀ W, Below W3.heap.size W3 W → _ := fun W (h : Below W3.heap.size W3 W) => hC W (hB3.trans (h.mono hB3.size))
  clear hC
  go_region_held3 (fun w' => w'.cell? ⟨w.heap.size, 0, none⟩ = some (.int .i64 5) ∧ w'.cell? ⟨w.heap.size, 1, none⟩ = some (.int .i64 ch) ∧ w'.cell? ⟨w.heap.size, 2, none⟩ = some (.int .i64 fr) ∧ w'.cell? ⟨w.heap.size, 3, none⟩ = some (.int .i64 bt) ∧ w'.cell? ⟨w.heap.size, 4, none⟩ = some (.string us) ∧ w'.cell? ⟨w.heap.size, 5, none⟩ = some (.string wo) ∧ w'.cell? ⟨w.heap.size, 6, none⟩ = some (.string ho) ∧ w'.cell? ⟨w.heap.size + 1, 0, none⟩ = some (.int .i64 mc) ∧ w'.cell? ⟨w.heap.size + 1, 1, none⟩ = some (.int .i64 mi) ∧ w'.cell? ⟨w.heap.size + 1, 2, none⟩ = some (.slice A ml.length cap) ∧ w'.cell? ⟨w2.heap.size, 5, none⟩ = some (.func (.func 40) #[] #[])) (first | (with_reducible exact keep _ hf2) | (with_reducible exact hS5) | (with_reducible exact keep _ (Below.refl _ W3).drew)) (first | (go_at_call 40; refine (hCk _ (Below.refl _ W3).drew).mono ?_; rintro e w5 ⟨A5, k5, c5, rfl, hS, hr5⟩; have hf2 : Below W3.heap.size W3 w5 := ⟨hr5.os, hr5.tape, hr5.output, hr5.size, hr5.block⟩; have hr9 := hr.kept hf2; obtain ⟨a0, f0, a1, f1, a2, f2, a3, f3, a4, f4, a5, f5, a6, f6, bR⟩ := hr9.store7 (.int .i64 p0) (.int .i64 p1) (.int .i64 p2) (.int .i64 p3) (.string p4) (.string p5) (.string p6); have hx5 := ((hx.kept hf2).other7 (B := w.heap.size + 1 + 1) (by omega) (.int .i64 p0) (.int .i64 p1) (.int .i64 p2) (.int .i64 p3) (.string p4) (.string p5) (.string p6)).seven; have hm5 := ((hm.kept hf2).other7 (B := w.heap.size + 1 + 1) (by omega) (.int .i64 p0) (.int .i64 p1) (.int .i64 p2) (.int .i64 p3) (.string p4) (.string p5) (.string p6)).three; have ht5 := ((hT5.kept hf2).other7 (B := w.heap.size + 1 + 1) (by omega) (.int .i64 p0) (.int .i64 p1) (.int .i64 p2) (.int .i64 p3) (.string p4) (.string p5) (.string p6)).seven; have hS5 := And.intro hx5.1 (And.intro hx5.2.1 (And.intro hx5.2.2.1 (And.intro hx5.2.2.2.1 (And.intro hx5.2.2.2.2.1 (And.intro hx5.2.2.2.2.2.1 (And.intro hx5.2.2.2.2.2.2 (And.intro hm5.1 (And.intro hm5.2.1 (And.intro hm5.2.2 ht5.2.2.2.2.2.1)))))))))))
  have hB9 := hB3.trans (hf2.mono hB3.size)
  have hBz := below_store7 hB9 (B := w.heap.size + 1 + 1) (by omega) (.int .i64 p0) (.int .i64 p1) (.int .i64 p2) (.int .i64 p3) (.string p4) (.string p5) (.string p6)
  have HS := Lib.hid (SaidAt.store7 (w := w5) (n' := w.heap.size) hS (by have := hlt2; simp only [World.size_drew]; omega) (B := w.heap.size + 1 + 1) (by simp only [World.size_drew]; omega) (.int .i64 p0) (.int .i64 p1) (.int .i64 p2) (.int .i64 p3) (.string p4) (.string p5) (.string p6))
  obtain ⟨y0, y1, y2, y3, y4, y5, y6⟩ := bR.seven
  clear bR hr9 hx5 hm5 ht5 hS5 hx hm hr hf hT5
  go_wp2
  refine bodyPost_ret (v := .tuple #[.agg #[.int .i64 p0, .int .i64 p1, .int .i64 p2, .int .i64 p3, .string p4, .string p5, .string p6], .slice A5 k5 c5, .int .i64 pe]) ?_ rfl ⟨A5, k5, ⟨c5, rfl⟩, HS.out, hBz⟩
  rw [results_ctt rfl]
  simp [asAddr, Result.andThen, go_sem, y0, y1, y2, y3, y4, y5, y6]
set_option maxRecDepth 100000 in
set_option maxHeartbeats 4000000 in
theorem take_closed (h : Hd) (m : Me) (A : Option Addr) (cap : Nat) (w : World) (hw : Wid w) (hv : wfM m) (hA : ValsAt w A (rowV m.l)) (hE : mE m = 0) (hst : h.st = 6) (r : Tn) (hC : ∀ W, Below w.heap.size w W → Calls Tryz.prog 41 #[encHd h, encM m A cap] W (TnPost r W)) : Calls Tryz.prog 11 #[encHd h, encM m A cap] w (TnPost r w) := by
  obtain ⟨st, ch, fr, bt, us, wo, ho⟩ := h
  obtain ⟨mc, mi, ml⟩ := m
  unfold encHd encM
  dsimp only
  unfold TnPost
  obtain ⟨W0, hW0⟩ : ∃ W0, W0 = ((w.alloc (.cells #[.int .i64 st, .int .i64 ch, .int .i64 fr, .int .i64 bt, .string us, .string wo, .string ho] 28)).alloc (.cells #[.int .i64 mc, .int .i64 mi, .slice A ml.length cap] 39)).alloc (.cells #[.int .i64 0, .int .i64 0, .int .i64 0, .int .i64 0, .string ⟨#[]⟩, .string ⟨#[]⟩, .string ⟨#[]⟩] 28) := ⟨_, rfl⟩
  have hb0 : Below w.heap.size w W0 := by rw [hW0]; exact (((Below.refl _ w).alloc (Nat.le_refl _) _).alloc (by simp) _).alloc (by simp; omega) _
  have hs0 : W0.heap.size = w.heap.size + 1 + 1 + 1 := by rw [hW0]; simp
  have hx : Bx W0 w.heap.size 28 [.int .i64 st, .int .i64 ch, .int .i64 fr, .int .i64 bt, .string us, .string wo, .string ho] := by rw [hW0]; exact ((Bx.new w 28 [.int .i64 st, .int .i64 ch, .int .i64 fr, .int .i64 bt, .string us, .string wo, .string ho]).alloc _).alloc _
  have hm : Bx W0 (w.heap.size + 1) 39 [.int .i64 mc, .int .i64 mi, .slice A ml.length cap] := by
    have h := (Bx.new (w.alloc (.cells #[.int .i64 st, .int .i64 ch, .int .i64 fr, .int .i64 bt, .string us, .string wo, .string ho] 28)) 39 [.int .i64 mc, .int .i64 mi, .slice A ml.length cap]).alloc (.cells #[.int .i64 0, .int .i64 0, .int .i64 0, .int .i64 0, .string ⟨#[]⟩, .string ⟨#[]⟩, .string ⟨#[]⟩] 28)
    rw [World.size_alloc] at h
    rw [hW0]; exact h
  have hr : Bx W0 (w.heap.size + 1 + 1) 28 [.int .i64 0, .int .i64 0, .int .i64 0, .int .i64 0, .string ⟨#[]⟩, .string ⟨#[]⟩, .string ⟨#[]⟩] := by
    have h := Bx.new ((w.alloc (.cells #[.int .i64 st, .int .i64 ch, .int .i64 fr, .int .i64 bt, .string us, .string wo, .string ho] 28)).alloc (.cells #[.int .i64 mc, .int .i64 mi, .slice A ml.length cap] 39)) 28 [.int .i64 0, .int .i64 0, .int .i64 0, .int .i64 0, .string ⟨#[]⟩, .string ⟨#[]⟩, .string ⟨#[]⟩]
    rw [World.size_alloc, World.size_alloc] at h
    rw [hW0]; exact h
  have hRi := mright_any ⟨mc, mi, ml⟩ A cap W0 (hw.below hb0) hv (hA.below hb0)
  unfold encM at hRi
  rw [hE] at hRi
  unfold encHd encM TnPost at hC
  try unfold encHd at *
  try dsimp only at *
  subst hst
  clear hw hv hA hE
  go_enter Tryz.func11, Tryz.ntmps11
  go_wp2_with fail
  rw [← hW0]
  clear hW0
  with_reducible refine hRi.mono ?_
  rintro e w1 ⟨rfl, hb1⟩
  have hB := hb0.trans (hb1.mono hb0.size)
  replace hx := hx.kept hb1
  replace hm := hm.kept hb1
  replace hr := hr.kept hb1
  clear hRi hb1
  have hSt := steps_any w1
  go_wp2_with fail
  with_reducible refine hSt.mono ?_
  rintro e w2 ⟨rfl, hb2⟩
  have hB2 := hB.trans (hb2.mono hB.size)
  replace hx := hx.kept hb2
  replace hm := hm.kept hb2
  replace hr := hr.kept hb2
  clear hSt hb2 hB
  obtain ⟨W3, hW3⟩ : ∃ W3, W3 = w2.alloc (.cells #[.func (.func 35) #[] #[], .func (.func 36) #[] #[], .func (.func 37) #[] #[], .func (.func 38) #[] #[], .func (.func 39) #[] #[], .func (.func 40) #[] #[], .func (.func 41) #[] #[]] 61) := ⟨_, rfl⟩
  have hb3 : Below w2.heap.size w2 W3 := by rw [hW3]; exact (Below.refl _ w2).alloc (Nat.le_refl _) _
  have hT : Bx W3 w2.heap.size 61 [.func (.func 35) #[] #[], .func (.func 36) #[] #[], .func (.func 37) #[] #[], .func (.func 38) #[] #[], .func (.func 39) #[] #[], .func (.func 40) #[] #[], .func (.func 41) #[] #[]] := by rw [hW3]; exact Bx.new w2 _ _
  have hle : w.heap.size + 1 + 1 < w2.heap.size := hr.lt
  have hB3 := hB2.trans (hb3.mono hB2.size)
  replace hx := hx.kept hb3
  replace hm := hm.kept hb3
  replace hr := hr.kept hb3
  clear hb3 hB2
  go_upto_region 4 with fail
  rw [← hW3]
  clear hW3
  have hf := (hT.seven).2.2.2.2.2.2
  have hlt2 := hT.lt
  have keep : ∀ w', Below W3.heap.size W3 w' → w'.cell? ⟨w.heap.size, 0, none⟩ = some (.int .i64 6) ∧ w'.cell? ⟨w.heap.size, 1, none⟩ = some (.int .i64 ch) ∧ w'.cell? ⟨w.heap.size, 2, none⟩ = some (.int .i64 fr) ∧ w'.cell? ⟨w.heap.size, 3, none⟩ = some (.int .i64 bt) ∧ w'.cell? ⟨w.heap.size, 4, none⟩ = some (.string us) ∧ w'.cell? ⟨w.heap.size, 5, none⟩ = some (.string wo) ∧ w'.cell? ⟨w.heap.size, 6, none⟩ = some (.string ho) ∧ w'.cell? ⟨w.heap.size + 1, 0, none⟩ = some (.int .i64 mc) ∧ w'.cell? ⟨w.heap.size + 1, 1, none⟩ = some (.int .i64 mi) ∧ w'.cell? ⟨w.heap.size + 1, 2, none⟩ = some (.slice A ml.length cap) ∧ w'.cell? ⟨w2.heap.size, 6, none⟩ = some (.func (.func 41) #[] #[]) := fun w' h => ⟨((hx.kept h).seven).1, ((hx.kept h).seven).2.1, ((hx.kept h).seven).2.2.1, ((hx.kept h).seven).2.2.2.1, ((hx.kept h).seven).2.2.2.2.1, ((hx.kept h).seven).2.2.2.2.2.1, ((hx.kept h).seven).2.2.2.2.2.2, ((hm.kept h).three).1, ((hm.kept h).three).2.1, ((hm.kept h).three).2.2, (h.cell (p := ⟨w2.heap.size, 6, none⟩) hlt2).trans hf⟩
  have hT5 := hT
  clear hT
  obtain ⟨⟨p0, p1, p2, p3, p4, p5, p6⟩, ps, pe⟩ := r
  dsimp only at hC ⊢
  obtain ⟨x0, x1, x2, x3, x4, x5, x6⟩ := hx.seven
  go_upto_region 6 with fail
  clear x0 x1 x2 x3 x4 x5 x6
  have hCk : ∀ W, Below W3.heap.size W3 W → _ := fun W (h : Below W3.heap.size W3 W) => hC W (hB3.trans (h.mono hB3.size))
  clear hC
  go_region_held3 (fun w' => w'.cell? ⟨w.heap.size, 0, none⟩ = some (.int .i64 6) ∧ w'.cell? ⟨w.heap.size, 1, none⟩ = some (.int .i64 ch) ∧ w'.cell? ⟨w.heap.size, 2, none⟩ = some (.int .i64 fr) ∧ w'.cell? ⟨w.heap.size, 3, none⟩ = some (.int .i64 bt) ∧ w'.cell? ⟨w.heap.size, 4, none⟩ = some (.string us) ∧ w'.cell? ⟨w.heap.size, 5, none⟩ = some (.string wo) ∧ w'.cell? ⟨w.heap.size, 6, none⟩ = some (.string ho) ∧ w'.cell? ⟨w.heap.size + 1, 0, none⟩ = some (.int .i64 mc) ∧ w'.cell? ⟨w.heap.size + 1, 1, none⟩ = some (.int .i64 mi) ∧ w'.cell? ⟨w.heap.size + 1, 2, none⟩ = some (.slice A ml.length cap) ∧ w'.cell? ⟨w2.heap.size, 6, none⟩ = some (.func (.func 41) #[] #[])) (first | (with_reducible exact keep _ hf2) | (with_reducible exact hS5) | (with_reducible exact keep _ (Below.refl _ W3).drew)) (first | (go_at_call 41; refine (hCk _ (Below.refl _ W3).drew).mono ?_; rintro e w5 ⟨A5, k5, c5, rfl, hS, hr5⟩; have hf2 : Below W3.heap.size W3 w5 := ⟨hr5.os, hr5.tape, hr5.output, hr5.size, hr5.block⟩; have hr9 := hr.kept hf2; obtain ⟨a0, f0, a1, f1, a2, f2, a3, f3, a4, f4, a5, f5, a6, f6, bR⟩ := hr9.store7 (.int .i64 p0) (.int .i64 p1) (.int .i64 p2) (.int .i64 p3) (.string p4) (.string p5) (.string p6); have hx5 := ((hx.kept hf2).other7 (B := w.heap.size + 1 + 1) (by omega) (.int .i64 p0) (.int .i64 p1) (.int .i64 p2) (.int .i64 p3) (.string p4) (.string p5) (.string p6)).seven; have hm5 := ((hm.kept hf2).other7 (B := w.heap.size + 1 + 1) (by omega) (.int .i64 p0) (.int .i64 p1) (.int .i64 p2) (.int .i64 p3) (.string p4) (.string p5) (.string p6)).three; have ht5 := ((hT5.kept hf2).other7 (B := w.heap.size + 1 + 1) (by omega) (.int .i64 p0) (.int .i64 p1) (.int .i64 p2) (.int .i64 p3) (.string p4) (.string p5) (.string p6)).seven; have hS5 := And.intro hx5.1 (And.intro hx5.2.1 (And.intro hx5.2.2.1 (And.intro hx5.2.2.2.1 (And.intro hx5.2.2.2.2.1 (And.intro hx5.2.2.2.2.2.1 (And.intro hx5.2.2.2.2.2.2 (And.intro hm5.1 (And.intro hm5.2.1 (And.intro hm5.2.2 ht5.2.2.2.2.2.2)))))))))))
  have hB9 := hB3.trans (hf2.mono hB3.size)
  have hBz := below_store7 hB9 (B := w.heap.size + 1 + 1) (by omega) (.int .i64 p0) (.int .i64 p1) (.int .i64 p2) (.int .i64 p3) (.string p4) (.string p5) (.string p6)
  have HS := Lib.hid (SaidAt.store7 (w := w5) (n' := w.heap.size) hS (by have := hlt2; simp only [World.size_drew]; omega) (B := w.heap.size + 1 + 1) (by simp only [World.size_drew]; omega) (.int .i64 p0) (.int .i64 p1) (.int .i64 p2) (.int .i64 p3) (.string p4) (.string p5) (.string p6))
  obtain ⟨y0, y1, y2, y3, y4, y5, y6⟩ := bR.seven
  clear bR hr9 hx5 hm5 ht5 hS5 hx hm hr hf hT5
  go_wp2
  refine bodyPost_ret (v := .tuple #[.agg #[.int .i64 p0, .int .i64 p1, .int .i64 p2, .int .i64 p3, .string p4, .string p5, .string p6], .slice A5 k5 c5, .int .i64 pe]) ?_ rfl ⟨A5, k5, ⟨c5, rfl⟩, HS.out, hBz⟩
  rw [results_ctt rfl]
  simp [asAddr, Result.andThen, go_sem, y0, y1, y2, y3, y4, y5, y6]
theorem tune_letters : mLs ⟨10, 31, []⟩ = [115, 108, 115] := by kernel_rfl
theorem num_small {c : UInt8} {v : MV} (hc : c = 115 ∨ c = 108) (h : vE c v = 0) : v.n < 4611686018427387904 := by
  have hk : numE (wid4 c) v = 0 := by
    rcases hc with rfl | rfl
    · simpa [vE] using h
    · simpa [vE] using h
  have h1 := (putOk_of_num hk).1
  rcases hc with rfl | rfl
  · simp [putOk, wid4] at h1; omega
  · simp [putOk, wid4] at h1; omega
theorem tune_small {m : Me} (hE : mE m = 0) (hq : isM m 31 = true) (k : Int) : (argV m.l k).n < 4611686018427387904 := by
  obtain ⟨c, i, l⟩ := m
  simp only [isM, Bool.and_eq_true, beq_iff_eq] at hq
  obtain ⟨rfl, rfl⟩ := hq
  obtain ⟨h1, h2, h3⟩ := mE_parts hE
  have e : mLs ⟨10, 31, l⟩ = [115, 108, 115] := tune_letters
  rw [e] at h3
  have hl : l.length = 3 := by
    have e2 : (sOf 10 31).size = 3 := by kernel_rfl
    dsimp only at h2
    omega
  match l, hl with
  | [a, b, d], _ =>
    obtain ⟨g1, h3⟩ := layEr_cons h3
    obtain ⟨g2, h3⟩ := layEr_cons h3
    obtain ⟨g3, -⟩ := layEr_cons h3
    dsimp only
    rcases int_cases k 3 with hk | ⟨n, rfl, hn⟩ | ⟨n, rfl, hn⟩
    · rw [argV_low _ hk]; decide
    · match n, hn with
      | 0, _ => exact num_small (.inl rfl) g1
      | 1, _ => exact num_small (.inr rfl) g2
      | 2, _ => exact num_small (.inl rfl) g3
    · rw [argV_high _ n (by simpa using hn)]; decide
theorem sTake_any (h : Hd) (m : Me) (A : Option Addr) (cap : Nat) (w : World) (hw : Wid w) (hv : wfM m) (hA : ValsAt w A (rowV m.l)) : Calls Tryz.prog 11 #[encHd h, encM m A cap] w (TnPost (hTake h m) w) := by
  by_cases hE : mE m = 0
  · unfold hTake
    rw [if_pos hE]
    by_cases h0 : h.st = 0
    · rw [if_pos h0]; exact take_header h m A cap w hw hv hA hE h0 _ (fun W hb => header_any h m A cap W)
    rw [if_neg h0]
    by_cases h1 : h.st = 1
    · rw [if_pos h1]; exact take_start h m A cap w hw hv hA hE h1 _ (fun W hb => start_any h m A cap W (hA.below hb) (fun k => by have := (argV_wf hv k).2.2; omega))
    rw [if_neg h1]
    by_cases h2 : h.st = 2
    · rw [if_pos h2]; exact take_tune h m A cap w hw hv hA hE h2 _ (fun W hb => tune_any h m A cap W (hA.below hb) (fun hq k => ⟨(argV_wf hv k).1, tune_small hE hq k⟩))
    rw [if_neg h2]
    by_cases h3 : h.st = 3
    · rw [if_pos h3]; exact take_open h m A cap w hw hv hA hE h3 _ (fun W hb => open_any h m A cap W (hA.below hb))
    rw [if_neg h3]
    by_cases h4 : h.st = 4
    · rw [if_pos h4]; exact take_run h m A cap w hw hv hA hE h4 _ (fun W hb => run_any h m A cap W)
    rw [if_neg h4]
    by_cases h5 : h.st = 5
    · rw [if_pos h5]; exact take_closing h m A cap w hw hv hA hE h5 _ (fun W hb => closing_any h m A cap W)
    rw [if_neg h5]
    by_cases h6 : h.st = 6
    · rw [if_pos h6]; exact take_closed h m A cap w hw hv hA hE h6 _ (fun W hb => closed_any h m A cap W)
    rw [if_neg h6]
    exact take_out h m A cap w hw hv hA hE (by omega)
  · unfold hTake
    rw [if_neg hE]
    exact take_bad h m A cap w hw hv hA hE
end Go.Proofs.YtkdiccedkjbpeaaGreatDoorR
