/-
  serve.Take takes a method where a connection is: it answers as a plain function says; nothing that was there is changed. Conditions: the table of widths is as its text lays it; the method's values are numbers and texts of fewer than 2^47 bytes, and lie in old memory.
-/
import Derived.Deep.RegionHeld3
import Derived.Test.YtkdiccedkjbpeaaGreatDoorRKF
import Derived.Test.YtkdiccedkjbpeaaGreatDoorRKG
namespace Go.Proofs.YtkdiccedkjbpeaaGreatDoorR
open Go.RowKit

set_option maxRecDepth 100000 in
set_option maxHeartbeats 2000000 in
theorem steps_any (w : World) : Calls Tryz.prog 23 #[] w fun e w' => e = .returned (.agg #[.func (.func 35) #[] #[], .func (.func 36) #[] #[], .func (.func 37) #[] #[], .func (.func 38) #[] #[], .func (.func 39) #[] #[], .func (.func 40) #[] #[], .func (.func 41) #[] #[]]) ∧ Below w.heap.size w w' := by
  have hb : Below w.heap.size w (w.alloc (.cells #[.func (.func 35) #[] #[], .func (.func 36) #[] #[], .func (.func 37) #[] #[], .func (.func 38) #[] #[], .func (.func 39) #[] #[], .func (.func 40) #[] #[], .func (.func 41) #[] #[]] 61)) := (Below.refl _ w).alloc (Nat.le_refl _) _
  have bR := Bx.new w 61 [.func (.func 35) #[] #[], .func (.func 36) #[] #[], .func (.func 37) #[] #[], .func (.func 38) #[] #[], .func (.func 39) #[] #[], .func (.func 40) #[] #[], .func (.func 41) #[] #[]]
  obtain ⟨y0, y1, y2, y3, y4, y5, y6⟩ := bR.seven
  go_enter Tryz.func23, Tryz.ntmps23
  go_wp2
  refine bodyPost_ret (v := .agg #[.func (.func 35) #[] #[], .func (.func 36) #[] #[], .func (.func 37) #[] #[], .func (.func 38) #[] #[], .func (.func 39) #[] #[], .func (.func 40) #[] #[], .func (.func 41) #[] #[]]) ?_ rfl ⟨rfl, hb⟩
  rw [results_cell rfl]
  simp [asAddr, Result.andThen, go_sem, y0, y1, y2, y3, y4, y5, y6]
set_option maxRecDepth 100000 in
set_option maxHeartbeats 2000000 in
theorem take_bad (h : Hd) (m : Me) (A : Option Addr) (cap : Nat) (w : World) (hw : Wid w) (hv : wfM m) (hA : ValsAt w A (rowV m.l)) (hE : ¬ mE m = 0) : Calls Tryz.prog 11 #[encHd h, encM m A cap] w (TnPost (hRefuse h 7) w) := by
  obtain ⟨st, ch, fr, bt, us, wo, ho⟩ := h
  obtain ⟨mc, mi, ml⟩ := m
  unfold encHd encM
  dsimp only
  obtain ⟨r, HG⟩ : ∃ r, Hid (r = hRefuse ⟨st, ch, fr, bt, us, wo, ho⟩ 7) := ⟨_, Lib.hid rfl⟩
  rw [← HG.out]
  unfold TnPost
  obtain ⟨W0, hW0⟩ : ∃ W0, W0 = ((w.alloc (.cells #[.int .i64 st, .int .i64 ch, .int .i64 fr, .int .i64 bt, .string us, .string wo, .string ho] 28)).alloc (.cells #[.int .i64 mc, .int .i64 mi, .slice A ml.length cap] 39)).alloc (.cells #[.int .i64 0, .int .i64 0, .int .i64 0, .int .i64 0, .string ⟨#[]⟩, .string ⟨#[]⟩, .string ⟨#[]⟩] 28) := ⟨_, rfl⟩
  have hb0 : Below w.heap.size w W0 := by rw [hW0]; exact (((Below.refl _ w).alloc (Nat.le_refl _) _).alloc (by simp) _).alloc (by simp; omega) _
  have hs0 : W0.heap.size = w.heap.size + 1 + 1 + 1 := by rw [hW0]; simp
  have hx : Bx W0 w.heap.size 28 [.int .i64 st, .int .i64 ch, .int .i64 fr, .int .i64 bt, .string us, .string wo, .string ho] := by rw [hW0]; exact ((Bx.new w 28 [.int .i64 st, .int .i64 ch, .int .i64 fr, .int .i64 bt, .string us, .string wo, .string ho]).alloc _).alloc _
  have hm : Bx W0 (w.heap.size + 1) 39 [.int .i64 mc, .int .i64 mi, .slice A ml.length cap] := by
    have h := (Bx.new (w.alloc (.cells #[.int .i64 st, .int .i64 ch, .int .i64 fr, .int .i64 bt, .string us, .string wo, .string ho] 28)) 39 [.int .i64 mc, .int .i64 mi, .slice A ml.length cap]).alloc (.cells #[.int .i64 0, .int .i64 0, .int .i64 0, .int .i64 0, .string ⟨#[]⟩, .string ⟨#[]⟩, .string ⟨#[]⟩] 28)
    rw [World.size_alloc] at h
    rw [hW0]; exact h
  have hr : Bx W0 (w.heap.size + 1 + 1) 28 [.int .i64 0, .int .i64 0, .int .i64 0, .int .i64 0, .string ⟨#[]⟩, .string ⟨#[]⟩, .string ⟨#[]⟩] := by
    have h := Bx.new ((w.alloc (.cells #[.int .i64 st, .int .i64 ch, .int .i64 fr, .int .i64 bt, .string us, .string wo, .string ho] 28)).alloc (.cells #[.int .i64 mc, .int .i64 mi, .slice A ml.length cap] 39)) 28 [.int .i64 0, .int .i64 0, .int .i64 0, .int .i64 0, .string ⟨#[]⟩, .string ⟨#[]⟩, .string ⟨#[]⟩]
    rw [World.size_alloc, World.size_alloc] at h
    rw [hW0]; exact h
  have hRi := mright_any ⟨mc, mi, ml⟩ A cap W0 (hw.below hb0) hv (hA.below hb0)
  unfold encM at hRi
  have e1 : (mE ⟨mc, mi, ml⟩ != 0) = true := bne_iff_ne.2 hE
  generalize mE ⟨mc, mi, ml⟩ = x at hRi e1 hE
  try unfold encHd at *
  try dsimp only at *
  clear hw hv hA
  go_enter Tryz.func11, Tryz.ntmps11
  go_wp2_with fail
  rw [← hW0]
  clear hW0
  with_reducible refine hRi.mono ?_
  rintro e w1 ⟨rfl, hb1⟩
  have hB := hb0.trans (hb1.mono hb0.size)
  replace hx := hx.kept hb1
  replace hm := hm.kept hb1
  replace hr := hr.kept hb1
  clear hRi hb1 hb0
  obtain ⟨x0, x1, x2, x3, x4, x5, x6⟩ := hx.seven
  obtain ⟨a0, f0, a1, f1, a2, f2, a3, f3, a4, f4, a5, f5, a6, f6, bR⟩ := hr.store7 (.int .i64 st) (.int .i64 ch) (.int .i64 fr) (.int .i64 bt) (.string us) (.string wo) (.string ho)
  have hBz := below_store7 hB (B := w.heap.size + 1 + 1) (by omega) (.int .i64 st) (.int .i64 ch) (.int .i64 fr) (.int .i64 bt) (.string us) (.string wo) (.string ho)
  have HS := Lib.hid (SaidAt.store7 (w := w1) (n' := w.heap.size) (n := w.heap.size + 1 + 1 + 1) (s := none) (A := none) (k := 0) ⟨rfl, rfl⟩ (by omega) (B := w.heap.size + 1 + 1) (by omega) (.int .i64 st) (.int .i64 ch) (.int .i64 fr) (.int .i64 bt) (.string us) (.string wo) (.string ho))
  obtain ⟨y0, y1, y2, y3, y4, y5, y6⟩ := bR.seven
  clear bR hx hm hr hs0 hB 
  go_wp2
  first | refine bodyPost_ret (v := .tuple #[.agg #[.int .i64 st, .int .i64 ch, .int .i64 fr, .int .i64 bt, .string us, .string wo, .string ho], .slice none 0 0, .int .i64 7]) ?_ rfl ⟨none, 0, 0, by rw [HG.out] <;> rfl, by rw [HG.out]; exact HS.out, hBz⟩ | refine bodyPost_ret (v := .tuple #[.agg #[.int .i64 st, .int .i64 ch, .int .i64 fr, .int .i64 bt, .string us, .string wo, .string ho], .slice none 0 0, .int .i64 7]) ?_ rfl ⟨none, 0, ⟨0, by rw [HG.out] <;> rfl⟩, by rw [HG.out]; exact HS.out, hBz⟩
  rw [results_ctt rfl]
  simp [asAddr, Result.andThen, go_sem, y0, y1, y2, y3, y4, y5, y6]
set_option maxRecDepth 100000 in
set_option maxHeartbeats 2000000 in
theorem take_out (h : Hd) (m : Me) (A : Option Addr) (cap : Nat) (w : World) (hw : Wid w) (hv : wfM m) (hA : ValsAt w A (rowV m.l)) (hE : mE m = 0) (hst : h.st < 0 ∨ 7 ≤ h.st) : Calls Tryz.prog 11 #[encHd h, encM m A cap] w (TnPost (hRefuse h 8) w) := by
  obtain ⟨st, ch, fr, bt, us, wo, ho⟩ := h
  obtain ⟨mc, mi, ml⟩ := m
  unfold encHd encM
  dsimp only
  obtain ⟨r, HG⟩ : ∃ r, Hid (r = hRefuse ⟨st, ch, fr, bt, us, wo, ho⟩ 8) := ⟨_, Lib.hid rfl⟩
  rw [← HG.out]
  unfold TnPost
  obtain ⟨W0, hW0⟩ : ∃ W0, W0 = ((w.alloc (.cells #[.int .i64 st, .int .i64 ch, .int .i64 fr, .int .i64 bt, .string us, .string wo, .string ho] 28)).alloc (.cells #[.int .i64 mc, .int .i64 mi, .slice A ml.length cap] 39)).alloc (.cells #[.int .i64 0, .int .i64 0, .int .i64 0, .int .i64 0, .string ⟨#[]⟩, .string ⟨#[]⟩, .string ⟨#[]⟩] 28) := ⟨_, rfl⟩
  have hb0 : Below w.heap.size w W0 := by rw [hW0]; exact (((Below.refl _ w).alloc (Nat.le_refl _) _).alloc (by simp) _).alloc (by simp; omega) _
  have hs0 : W0.heap.size = w.heap.size + 1 + 1 + 1 := by rw [hW0]; simp
  have hx : Bx W0 w.heap.size 28 [.int .i64 st, .int .i64 ch, .int .i64 fr, .int .i64 bt, .string us, .string wo, .string ho] := by rw [hW0]; exact ((Bx.new w 28 [.int .i64 st, .int .i64 ch, .int .i64 fr, .int .i64 bt, .string us, .string wo, .string ho]).alloc _).alloc _
  have hm : Bx W0 (w.heap.size + 1) 39 [.int .i64 mc, .int .i64 mi, .slice A ml.length cap] := by
    have h := (Bx.new (w.alloc (.cells #[.int .i64 st, .int .i64 ch, .int .i64 fr, .int .i64 bt, .string us, .string wo, .string ho] 28)) 39 [.int .i64 mc, .int .i64 mi, .slice A ml.length cap]).alloc (.cells #[.int .i64 0, .int .i64 0, .int .i64 0, .int .i64 0, .string ⟨#[]⟩, .string ⟨#[]⟩, .string ⟨#[]⟩] 28)
    rw [World.size_alloc] at h
    rw [hW0]; exact h
  have hr : Bx W0 (w.heap.size + 1 + 1) 28 [.int .i64 0, .int .i64 0, .int .i64 0, .int .i64 0, .string ⟨#[]⟩, .string ⟨#[]⟩, .string ⟨#[]⟩] := by
    have h := Bx.new ((w.alloc (.cells #[.int .i64 st, .int .i64 ch, .int .i64 fr, .int .i64 bt, .string us, .string wo, .string ho] 28)).alloc (.cells #[.int .i64 mc, .int .i64 mi, .slice A ml.length cap] 39)) 28 [.int .i64 0, .int .i64 0, .int .i64 0, .int .i64 0, .string ⟨#[]⟩, .string ⟨#[]⟩, .string ⟨#[]⟩]
    rw [World.size_alloc, World.size_alloc] at h
    rw [hW0]; exact h
  have hRi := mright_any ⟨mc, mi, ml⟩ A cap W0 (hw.below hb0) hv (hA.below hb0)
  unfold encM at hRi
  rw [hE] at hRi
  try unfold encHd at *
  try dsimp only at *
  clear hw hv hA hE
  go_enter Tryz.func11, Tryz.ntmps11
  go_wp2_with fail
  rw [← hW0]
  clear hW0
  with_reducible refine hRi.mono ?_
  rintro e w1 ⟨rfl, hb1⟩
  have hB := hb0.trans (hb1.mono hb0.size)
  replace hx := hx.kept hb1
  replace hm := hm.kept hb1
  replace hr := hr.kept hb1
  clear hRi hb1
  have hSt := steps_any w1
  go_wp2_with fail
  with_reducible refine hSt.mono ?_
  rintro e w2 ⟨rfl, hb2⟩
  have hB2 := hB.trans (hb2.mono hB.size)
  replace hx := hx.kept hb2
  replace hm := hm.kept hb2
  replace hr := hr.kept hb2
  clear hSt hb2 hB
  obtain ⟨W3, hW3⟩ : ∃ W3, W3 = w2.alloc (.cells #[.func (.func 35) #[] #[], .func (.func 36) #[] #[], .func (.func 37) #[] #[], .func (.func 38) #[] #[], .func (.func 39) #[] #[], .func (.func 40) #[] #[], .func (.func 41) #[] #[]] 61) := ⟨_, rfl⟩
  have hb3 : Below w2.heap.size w2 W3 := by rw [hW3]; exact (Below.refl _ w2).alloc (Nat.le_refl _) _
  have hT : Bx W3 w2.heap.size 61 [.func (.func 35) #[] #[], .func (.func 36) #[] #[], .func (.func 37) #[] #[], .func (.func 38) #[] #[], .func (.func 39) #[] #[], .func (.func 40) #[] #[], .func (.func 41) #[] #[]] := by rw [hW3]; exact Bx.new w2 _ _
  have hle : w.heap.size + 1 + 1 < w2.heap.size := hr.lt
  have hB3 := hB2.trans (hb3.mono hB2.size)
  replace hx := hx.kept hb3
  replace hm := hm.kept hb3
  replace hr := hr.kept hb3
  clear hb3 hB2
  go_upto_region 4 with fail
  rw [← hW3]
  clear hW3
  obtain ⟨x0, x1, x2, x3, x4, x5, x6⟩ := hx.seven
  rcases hst with hst | hst
  · obtain ⟨a0, f0, a1, f1, a2, f2, a3, f3, a4, f4, a5, f5, a6, f6, bR⟩ := hr.store7 (.int .i64 st) (.int .i64 ch) (.int .i64 fr) (.int .i64 bt) (.string us) (.string wo) (.string ho)
    have hBz := below_store7 hB3 (B := w.heap.size + 1 + 1) (by omega) (.int .i64 st) (.int .i64 ch) (.int .i64 fr) (.int .i64 bt) (.string us) (.string wo) (.string ho)
    have HS := Lib.hid (SaidAt.store7 (w := W3) (n' := w.heap.size) (n := w.heap.size + 1 + 1 + 1) (s := none) (A := none) (k := 0) ⟨rfl, rfl⟩ (by omega) (B := w.heap.size + 1 + 1) (by omega) (.int .i64 st) (.int .i64 ch) (.int .i64 fr) (.int .i64 bt) (.string us) (.string wo) (.string ho))
    obtain ⟨y0, y1, y2, y3, y4, y5, y6⟩ := bR.seven
    clear bR hx hm hr hs0 hB3 hT 
    go_wp2
    first | refine bodyPost_ret (v := .tuple #[.agg #[.int .i64 st, .int .i64 ch, .int .i64 fr, .int .i64 bt, .string us, .string wo, .string ho], .slice none 0 0, .int .i64 8]) ?_ rfl ⟨none, 0, 0, by rw [HG.out] <;> rfl, by rw [HG.out]; exact HS.out, hBz⟩ | refine bodyPost_ret (v := .tuple #[.agg #[.int .i64 st, .int .i64 ch, .int .i64 fr, .int .i64 bt, .string us, .string wo, .string ho], .slice none 0 0, .int .i64 8]) ?_ rfl ⟨none, 0, ⟨0, by rw [HG.out] <;> rfl⟩, by rw [HG.out]; exact HS.out, hBz⟩
    rw [results_ctt rfl]
    simp [asAddr, Result.andThen, go_sem, y0, y1, y2, y3, y4, y5, y6]
  · have hst0 : ¬ st < 0 := by omega
    obtain ⟨a0, f0, a1, f1, a2, f2, a3, f3, a4, f4, a5, f5, a6, f6, bR⟩ := hr.store7 (.int .i64 st) (.int .i64 ch) (.int .i64 fr) (.int .i64 bt) (.string us) (.string wo) (.string ho)
    have hBz := below_store7 hB3 (B := w.heap.size + 1 + 1) (by omega) (.int .i64 st) (.int .i64 ch) (.int .i64 fr) (.int .i64 bt) (.string us) (.string wo) (.string ho)
    have HS := Lib.hid (SaidAt.store7 (w := W3) (n' := w.heap.size) (n := w.heap.size + 1 + 1 + 1) (s := none) (A := none) (k := 0) ⟨rfl, rfl⟩ (by omega) (B := w.heap.size + 1 + 1) (by omega) (.int .i64 st) (.int .i64 ch) (.int .i64 fr) (.int .i64 bt) (.string us) (.string wo) (.string ho))
    obtain ⟨y0, y1, y2, y3, y4, y5, y6⟩ := bR.seven
    clear bR hx hm hr hs0 hB3 hT 
    go_wp2
    first | refine bodyPost_ret (v := .tuple #[.agg #[.int .i64 st, .int .i64 ch, .int .i64 fr, .int .i64 bt, .string us, .string wo, .string ho], .slice none 0 0, .int .i64 8]) ?_ rfl ⟨none, 0, 0, by rw [HG.out] <;> rfl, by rw [HG.out]; exact HS.out, hBz⟩ | refine bodyPost_ret (v := .tuple #[.agg #[.int .i64 st, .int .i64 ch, .int .i64 fr, .int .i64 bt, .string us, .string wo, .string ho], .slice none 0 0, .int .i64 8]) ?_ rfl ⟨none, 0, ⟨0, by rw [HG.out] <;> rfl⟩, by rw [HG.out]; exact HS.out, hBz⟩
    rw [results_ctt rfl]
    simp [asAddr, Result.andThen, go_sem, y0, y1, y2, y3, y4, y5, y6]
set_option maxRecDepth 100000 in
set_option maxHeartbeats 4000000 in
theorem take_header (h : Hd) (m : Me) (A : Option Addr) (cap : Nat) (w : World) (hw : Wid w) (hv : wfM m) (hA : ValsAt w A (rowV m.l)) (hE : mE m = 0) (hst : h.st = 0) (r : Tn) (hC : ∀ W, Below w.heap.size w W → Calls Tryz.prog 35 #[encHd h, encM m A cap] W (TnPost r W)) : Calls Tryz.prog 11 #[encHd h, encM m A cap] w (TnPost r w) := by
  obtain ⟨st, ch, fr, bt, us, wo, ho⟩ := h
  obtain ⟨mc, mi, ml⟩ := m
  unfold encHd encM
  dsimp only
  unfold TnPost
  obtain ⟨W0, hW0⟩ : ∃ W0, W0 = ((w.alloc (.cells #[.int .i64 st, .int .i64 ch, .int .i64 fr, .int .i64 bt, .string us, .string wo, .string ho] 28)).alloc (.cells #[.int .i64 mc, .int .i64 mi, .slice A ml.length cap] 39)).alloc (.cells #[.int .i64 0, .int .i64 0, .int .i64 0, .int .i64 0, .string ⟨#[]⟩, .string ⟨#[]⟩, .string ⟨#[]⟩] 28) := ⟨_, rfl⟩
  have hb0 : Below w.heap.size w W0 := by rw [hW0]; exact (((Below.refl _ w).alloc (Nat.le_refl _) _).alloc (by simp) _).alloc (by simp; omega) _
  have hs0 : W0.heap.size = w.heap.size + 1 + 1 + 1 := by rw [hW0]; simp
  have hx : Bx W0 w.heap.size 28 [.int .i64 st, .int .i64 ch, .int .i64 fr, .int .i64 bt, .string us, .string wo, .string ho] := by rw [hW0]; exact ((Bx.new w 28 [.int .i64 st, .int .i64 ch, .int .i64 fr, .int .i64 bt, .string us, .string wo, .string ho]).alloc _).alloc _
  have hm : Bx W0 (w.heap.size + 1) 39 [.int .i64 mc, .int .i64 mi, .slice A ml.length cap] := by
    have h := (Bx.new (w.alloc (.cells #[.int .i64 st, .int .i64 ch, .int .i64 fr, .int .i64 bt, .string us, .string wo, .string ho] 28)) 39 [.int .i64 mc, .int .i64 mi, .slice A ml.length cap]).alloc (.cells #[.int .i64 0, .int .i64 0, .int .i64 0, .int .i64 0, .string ⟨#[]⟩, .string ⟨#[]⟩, .string ⟨#[]⟩] 28)
    rw [World.size_alloc] at h
    rw [hW0]; exact h
  have hr : Bx W0 (w.heap.size + 1 + 1) 28 [.int .i64 0, .int .i64 0, .int .i64 0, .int .i64 0, .string ⟨#[]⟩, .string ⟨#[]⟩, .string ⟨#[]⟩] := by
    have h := Bx.new ((w.alloc (.cells #[.int .i64 st, .int .i64 ch, .int .i64 fr, .int .i64 bt, .string us, .string wo, .string ho] 28)).alloc (.cells #[.int .i64 mc, .int .i64 mi, .slice A ml.length cap] 39)) 28 [.int .i64 0, .int .i64 0, .int .i64 0, .int .i64 0, .string ⟨#[]⟩, .string ⟨#[]⟩, .string ⟨#[]⟩]
    rw [World.size_alloc, World.size_alloc] at h
    rw [hW0]; exact h
  have hRi := mright_any ⟨mc, mi, ml⟩ A cap W0 (hw.below hb0) hv (hA.below hb0)
  unfold encM at hRi
  rw [hE] at hRi
  unfold encHd encM TnPost at hC
  try unfold encHd at *
  try dsimp only at *
  subst hst
  clear hw hv hA hE
  go_enter Tryz.func11, Tryz.ntmps11
  go_wp2_with fail
  rw [← hW0]
  clear hW0
  with_reducible refine hRi.mono ?_
  rintro e w1 ⟨rfl, hb1⟩
  have hB := hb0.trans (hb1.mono hb0.size)
  replace hx := hx.kept hb1
  replace hm := hm.kept hb1
  replace hr := hr.kept hb1
  clear hRi hb1
  have hSt := steps_any w1
  go_wp2_with fail
  with_reducible refine hSt.mono ?_
  rintro e w2 ⟨rfl, hb2⟩
  have hB2 := hB.trans (hb2.mono hB.size)
  replace hx := hx.kept hb2
  replace hm := hm.kept hb2
  replace hr := hr.kept hb2
  clear hSt hb2 hB
  obtain ⟨W3, hW3⟩ : ∃ W3, W3 = w2.alloc (.cells #[.func (.func 35) #[] #[], .func (.func 36) #[] #[], .func (.func 37) #[] #[], .func (.func 38) #[] #[], .func (.func 39) #[] #[], .func (.func 40) #[] #[], .func (.func 41) #[] #[]] 61) := ⟨_, rfl⟩
  have hb3 : Below w2.heap.size w2 W3 := by rw [hW3]; exact (Below.refl _ w2).alloc (Nat.le_refl _) _
  have hT : Bx W3 w2.heap.size 61 [.func (.func 35) #[] #[], .func (.func 36) #[] #[], .func (.func 37) #[] #[], .func (.func 38) #[] #[], .func (.func 39) #[] #[], .func (.func 40) #[] #[], .func (.func 41) #[] #[]] := by rw [hW3]; exact Bx.new w2 _ _
  have hle : w.heap.size + 1 + 1 < w2.heap.size := hr.lt
  have hB3 := hB2.trans (hb3.mono hB2.size)
  replace hx := hx.kept hb3
  replace hm := hm.kept hb3
  replace hr := hr.kept hb3
  clear hb3 hB2
  go_upto_region 4 with fail
  rw [← hW3]
  clear hW3
  have hf := (hT.seven).1
  have hlt2 := hT.lt
  have keep : ∀ w', Below W3.heap.size W3 w' → w'.cell? ⟨w.heap.size, 0, none⟩ = some (.int .i64 0) ∧ w'.cell? ⟨w.heap.size, 1, none⟩ = some (.int .i64 ch) ∧ w'.cell? ⟨w.heap.size, 2, none⟩ = some (.int .i64 fr) ∧ w'.cell? ⟨w.heap.size, 3, none⟩ = some (.int .i64 bt) ∧ w'.cell? ⟨w.heap.size, 4, none⟩ = some (.string us) ∧ w'.cell? ⟨w.heap.size, 5, none⟩ = some (.string wo) ∧ w'.cell? ⟨w.heap.size, 6, none⟩ = some (.string ho) ∧ w'.cell? ⟨w.heap.size + 1, 0, none⟩ = some (.int .i64 mc) ∧ w'.cell? ⟨w.heap.size + 1, 1, none⟩ = some (.int .i64 mi) ∧ w'.cell? ⟨w.heap.size + 1, 2, none⟩ = some (.slice A ml.length cap) ∧ w'.cell? ⟨w2.heap.size, 0, none⟩ = some (.func (.func 35) #[] #[]) := fun w' h => ⟨((hx.kept h).seven).1, ((hx.kept h).seven).2.1, ((hx.kept h).seven).2.2.1, ((hx.kept h).seven).2.2.2.1, ((hx.kept h).seven).2.2.2.2.1, ((hx.kept h).seven).2.2.2.2.2.1, ((hx.kept h).seven).2.2.2.2.2.2, ((hm.kept h).three).1, ((hm.kept h).three).2.1, ((hm.kept h).three).2.2, (h.cell (p := ⟨w2.heap.size, 0, none⟩) hlt2).trans hf⟩
  have hT5 := hT
  clear hT
  obtain ⟨⟨p0, p1, p2, p3, p4, p5, p6⟩, ps, pe⟩ := r
  dsimp only at hC ⊢
  obtain ⟨x0, x1, x2, x3, x4, x5, x6⟩ := hx.seven
  go_upto_region 6 with fail
  clear x0 x1 x2 x3 x4 x5 x6
  have hCk : ∀ W, Below W3.heap.size W3 W → _ := fun W (h : Below W3.heap.size W3 W) => hC W (hB3.trans (h.mono hB3.size))
  clear hC
  go_region_held3 (fun w' => w'.cell? ⟨w.heap.size, 0, none⟩ = some (.int .i64 0) ∧ w'.cell? ⟨w.heap.size, 1, none⟩ = some (.int .i64 ch) ∧ w'.cell? ⟨w.heap.size, 2, none⟩ = some (.int .i64 fr) ∧ w'.cell? ⟨w.heap.size, 3, none⟩ = some (.int .i64 bt) ∧ w'.cell? ⟨w.heap.size, 4, none⟩ = some (.string us) ∧ w'.cell? ⟨w.heap.size, 5, none⟩ = some (.string wo) ∧ w'.cell? ⟨w.heap.size, 6, none⟩ = some (.string ho) ∧ w'.cell? ⟨w.heap.size + 1, 0, none⟩ = some (.int .i64 mc) ∧ w'.cell? ⟨w.heap.size + 1, 1, none⟩ = some (.int .i64 mi) ∧ w'.cell? ⟨w.heap.size + 1, 2, none⟩ = some (.slice A ml.length cap) ∧ w'.cell? ⟨w2.heap.size, 0, none⟩ = some (.func (.func 35) #[] #[])) (first | (with_reducible exact keep _ hf2) | (with_reducible exact hS5) | (with_reducible exact keep _ (Below.refl _ W3).drew)) (first | (go_at_call 35; refine (hCk _ (Below.refl _ W3).drew).mono ?_; rintro e w5 ⟨A5, k5, c5, rfl, hS, hr5⟩; have hf2 : Below W3.heap.size W3 w5 := ⟨hr5.os, hr5.tape, hr5.output, hr5.size, hr5.block⟩; have hr9 := hr.kept hf2; obtain ⟨a0, f0, a1, f1, a2, f2, a3, f3, a4, f4, a5, f5, a6, f6, bR⟩ := hr9.store7 (.int .i64 p0) (.int .i64 p1) (.int .i64 p2) (.int .i64 p3) (.string p4) (.string p5) (.string p6); have hx5 := ((hx.kept hf2).other7 (B := w.heap.size + 1 + 1) (by omega) (.int .i64 p0) (.int .i64 p1) (.int .i64 p2) (.int .i64 p3) (.string p4) (.string p5) (.string p6)).seven; have hm5 := ((hm.kept hf2).other7 (B := w.heap.size + 1 + 1) (by omega) (.int .i64 p0) (.int .i64 p1) (.int .i64 p2) (.int .i64 p3) (.string p4) (.string p5) (.string p6)).three; have ht5 := ((hT5.kept hf2).other7 (B := w.heap.size + 1 + 1) (by omega) (.int .i64 p0) (.int .i64 p1) (.int .i64 p2) (.int .i64 p3) (.string p4) (.string p5) (.string p6)).seven; have hS5 := And.intro hx5.1 (And.intro hx5.2.1 (And.intro hx5.2.2.1 (And.intro hx5.2.2.2.1 (And.intro hx5.2.2.2.2.1 (And.intro hx5.2.2.2.2.2.1 (And.intro hx5.2.2.2.2.2.2 (And.intro hm5.1 (And.intro hm5.2.1 (And.intro hm5.2.2 ht5.1)))))))))))
  have hB9 := hB3.trans (hf2.mono hB3.size)
  have hBz := below_store7 hB9 (B := w.heap.size + 1 + 1) (by omega) (.int .i64 p0) (.int .i64 p1) (.int .i64 p2) (.int .i64 p3) (.string p4) (.string p5) (.string p6)
  have HS := Lib.hid (SaidAt.store7 (w := w5) (n' := w.heap.size) hS (by have := hlt2; simp only [World.size_drew]; omega) (B := w.heap.size + 1 + 1) (by simp only [World.size_drew]; omega) (.int .i64 p0) (.int .i64 p1) (.int .i64 p2) (.int .i64 p3) (.string p4) (.string p5) (.string p6))
  obtain ⟨y0, y1, y2, y3, y4, y5, y6⟩ := bR.seven
  clear bR hr9 hx5 hm5 ht5 hS5 hx hm hr hf hT5
  go_wp2
  refine bodyPost_ret (v := .tuple #[.agg #[.int .i64 p0, .int .i64 p1, .int .i64 p2, .int .i64 p3, .string p4, .string p5, .string p6], .slice A5 k5 c5, .int .i64 pe]) ?_ rfl ⟨A5, k5, ⟨c5, rfl⟩, HS.out, hBz⟩
  rw [results_ctt rfl]
  simp [asAddr, Result.andThen, go_sem, y0, y1, y2, y3, y4, y5, y6]
set_option maxRecDepth 100000 in
set_option maxHeartbeats 4000000 in
theorem take_start (h : Hd) (m : Me) (A : Option Addr) (cap : Nat) (w : World) (hw : Wid w) (hv : wfM m) (hA : ValsAt w A (rowV m.l)) (hE : mE m = 0) (hst : h.st = 1) (r : Tn) (hC : ∀ W, Below w.heap.size w W → Calls Tryz.prog 36 #[encHd h, encM m A cap] W (TnPost r W)) : Calls Tryz.prog 11 #[encHd h, encM m A cap] w (TnPost r w) := by
  obtain ⟨st, ch, fr, bt, us, wo, ho⟩ := h
  obtain ⟨mc, mi, ml⟩ := m
  unfold encHd encM
  dsimp only
  unfold TnPost
  obtain ⟨W0, hW0⟩ : ∃ W0, W0 = ((w.alloc (.cells #[.int .i64 st, .int .i64 ch, .int .i64 fr, .int .i64 bt, .string us, .string wo, .string ho] 28)).alloc (.cells #[.int .i64 mc, .int .i64 mi, .slice A ml.length cap] 39)).alloc (.cells #[.int .i64 0, .int .i64 0, .int .i64 0, .int .i64 0, .string ⟨#[]⟩, .string ⟨#[]⟩, .string ⟨#[]⟩] 28) := ⟨_, rfl⟩
  have hb0 : Below w.heap.size w W0 := by rw [hW0]; exact (((Below.refl _ w).alloc (Nat.le_refl _) _).alloc (by simp) _).alloc (by simp; omega) _
  have hs0 : W0.heap.size = w.heap.size + 1 + 1 + 1 := by rw [hW0]; simp
  have hx : Bx W0 w.heap.size 28 [.int .i64 st, .int .i64 ch, .int .i64 fr, .int .i64 bt, .string us, .string wo, .string ho] := by rw [hW0]; exact ((Bx.new w 28 [.int .i64 st, .int .i64 ch, .int .i64 fr, .int .i64 bt, .string us, .string wo, .string ho]).alloc _).alloc _
  have hm : Bx W0 (w.heap.size + 1) 39 [.int .i64 mc, .int .i64 mi, .slice A ml.length cap] := by
    have h := (Bx.new (w.alloc (.cells #[.int .i64 st, .int .i64 ch, .int .i64 fr, .int .i64 bt, .string us, .string wo, .string ho] 28)) 39 [.int .i64 mc, .int .i64 mi, .slice A ml.length cap]).alloc (.cells #[.int .i64 0, .int .i64 0, .int .i64 0, .int .i64 0, .string ⟨#[]⟩, .string ⟨#[]⟩, .string ⟨#[]⟩] 28)
    rw [World.size_alloc] at h
    rw [hW0]; exact h
  have hr : Bx W0 (w.heap.size + 1 + 1) 28 [.int .i64 0, .int .i64 0, .int .i64 0, .int .i64 0, .string ⟨#[]⟩, .string ⟨#[]⟩, .string ⟨#[]⟩] := by
    have h := Bx.new ((w.alloc (.cells #[.int .i64 st, .int .i64 ch, .int .i64 fr, .int .i64 bt, .string us, .string wo, .string ho] 28)).alloc (.cells #[.int .i64 mc, .int .i64 mi, .slice A ml.length cap] 39)) 28 [.int .i64 0, .int .i64 0, .int .i64 0, .int .i64 0, .string ⟨#[]⟩, .string ⟨#[]⟩, .string ⟨#[]⟩]
    rw [World.size_alloc, World.size_alloc] at h
    rw [hW0]; exact h
  have hRi := mright_any ⟨mc, mi, ml⟩ A cap W0 (hw.below hb0) hv (hA.below hb0)
  unfold encM at hRi
  rw [hE] at hRi
  unfold encHd encM TnPost at hC
  try unfold encHd at *
  try dsimp only at *
  subst hst
  clear hw hv hA hE
  go_enter Tryz.func11, Tryz.ntmps11
  go_wp2_with fail
  rw [← hW0]
  clear hW0
  with_reducible refine hRi.mono ?_
  rintro e w1 ⟨rfl, hb1⟩
  have hB := hb0.trans (hb1.mono hb0.size)
  replace hx := hx.kept hb1
  replace hm := hm.kept hb1
  replace hr := hr.kept hb1
  clear hRi hb1
  have hSt := steps_any w1
  go_wp2_with fail
  with_reducible refine hSt.mono ?_
  rintro e w2 ⟨rfl, hb2⟩
  have hB2 := hB.trans (hb2.mono hB.size)
  replace hx := hx.kept hb2
  replace hm := hm.kept hb2
  replace hr := hr.kept hb2
  clear hSt hb2 hB
  obtain ⟨W3, hW3⟩ : ∃ W3, W3 = w2.alloc (.cells #[.func (.func 35) #[] #[], .func (.func 36) #[] #[], .func (.func 37) #[] #[], .func (.func 38) #[] #[], .func (.func 39) #[] #[], .func (.func 40) #[] #[], .func (.func 41) #[] #[]] 61) := ⟨_, rfl⟩
  have hb3 : Below w2.heap.size w2 W3 := by rw [hW3]; exact (Below.refl _ w2).alloc (Nat.le_refl _) _
  have hT : Bx W3 w2.heap.size 61 [.func (.func 35) #[] #[], .func (.func 36) #[] #[], .func (.func 37) #[] #[], .func (.func 38) #[] #[], .func (.func 39) #[] #[], .func (.func 40) #[] #[], .func (.func 41) #[] #[]] := by rw [hW3]; exact Bx.new w2 _ _
  have hle : w.heap.size + 1 + 1 < w2.heap.size := hr.lt
  have hB3 := hB2.trans (hb3.mono hB2.size)
  replace hx := hx.kept hb3
  replace hm := hm.kept hb3
  replace hr := hr.kept hb3
  clear hb3 hB2
  go_upto_region 4 with fail
  rw [← hW3]
  clear hW3
  have hf := (hT.seven).2.1
  have hlt2 := hT.lt
  have keep : ∀ w', Below W3.heap.size W3 w' → w'.cell? ⟨w.heap.size, 0, none⟩ = some (.int .i64 1) ∧ w'.cell? ⟨w.heap.size, 1, none⟩ = some (.int .i64 ch) ∧ w'.cell? ⟨w.heap.size, 2, none⟩ = some (.int .i64 fr) ∧ w'.cell? ⟨w.heap.size, 3, none⟩ = some (.int .i64 bt) ∧ w'.cell? ⟨w.heap.size, 4, none⟩ = some (.string us) ∧ w'.cell? ⟨w.heap.size, 5, none⟩ = some (.string wo) ∧ w'.cell? ⟨w.heap.size, 6, none⟩ = some (.string ho) ∧ w'.cell? ⟨w.heap.size + 1, 0, none⟩ = some (.int .i64 mc) ∧ w'.cell? ⟨w.heap.size + 1, 1, none⟩ = some (.int .i64 mi) ∧ w'.cell? ⟨w.heap.size + 1, 2, none⟩ = some (.slice A ml.length cap) ∧ w'.cell? ⟨w2.heap.size, 1, none⟩ = some (.func (.func 36) #[] #[]) := fun w' h => ⟨((hx.kept h).seven).1, ((hx.kept h).seven).2.1, ((hx.kept h).seven).2.2.1, ((hx.kept h).seven).2.2.2.1, ((hx.kept h).seven).2.2.2.2.1, ((hx.kept h).seven).2.2.2.2.2.1, ((hx.kept h).seven).2.2.2.2.2.2, ((hm.kept h).three).1, ((hm.kept h).three).2.1, ((hm.kept h).three).2.2, (h.cell (p := ⟨w2.heap.size, 1, none⟩) hlt2).trans hf⟩
  have hT5 := hT
  clear hT
  obtain ⟨⟨p0, p1, p2, p3, p4, p5, p6⟩, ps, pe⟩ := r
  dsimp only at hC ⊢
  obtain ⟨x0, x1, x2, x3, x4, x5, x6⟩ := hx.seven
  go_upto_region 6 with fail
  clear x0 x1 x2 x3 x4 x5 x6
  have hCk : ∀ W, Below W3.heap.size W3 W → _ := fun W (h : Below W3.heap.size W3 W) => hC W (hB3.trans (h.mono hB3.size))
  clear hC
  go_region_held3 (fun w' => w'.cell? ⟨w.heap.size, 0, none⟩ = some (.int .i64 1) ∧ w'.cell? ⟨w.heap.size, 1, none⟩ = some (.int .i64 ch) ∧ w'.cell? ⟨w.heap.size, 2, none⟩ = some (.int .i64 fr) ∧ w'.cell? ⟨w.heap.size, 3, none⟩ = some (.int .i64 bt) ∧ w'.cell? ⟨w.heap.size, 4, none⟩ = some (.string us) ∧ w'.cell? ⟨w.heap.size, 5, none⟩ = some (.string wo) ∧ w'.cell? ⟨w.heap.size, 6, none⟩ = some (.string ho) ∧ w'.cell? ⟨w.heap.size + 1, 0, none⟩ = some (.int .i64 mc) ∧ w'.cell? ⟨w.heap.size + 1, 1, none⟩ = some (.int .i64 mi) ∧ w'.cell? ⟨w.heap.size + 1, 2, none⟩ = some (.slice A ml.length cap) ∧ w'.cell? ⟨w2.heap.size, 1, none⟩ = some (.func (.func 36) #[] #[])) (first | (with_reducible exact keep _ hf2) | (with_reducible exact hS5) | (with_reducible exact keep _ (Below.refl _ W3).drew)) (first | (go_at_call 36; refine (hCk _ (Below.refl _ W3).drew).mono ?_; rintro e w5 ⟨A5, k5, c5, rfl, hS, hr5⟩; have hf2 : Below W3.heap.size W3 w5 := ⟨hr5.os, hr5.tape, hr5.output, hr5.size, hr5.block⟩; have hr9 := hr.kept hf2; obtain ⟨a0, f0, a1, f1, a2, f2, a3, f3, a4, f4, a5, f5, a6, f6, bR⟩ := hr9.store7 (.int .i64 p0) (.int .i64 p1) (.int .i64 p2) (.int .i64 p3) (.string p4) (.string p5) (.string p6); have hx5 := ((hx.kept hf2).other7 (B := w.heap.size + 1 + 1) (by omega) (.int .i64 p0) (.int .i64 p1) (.int .i64 p2) (.int .i64 p3) (.string p4) (.string p5) (.string p6)).seven; have hm5 := ((hm.kept hf2).other7 (B := w.heap.size + 1 + 1) (by omega) (.int .i64 p0) (.int .i64 p1) (.int .i64 p2) (.int .i64 p3) (.string p4) (.string p5) (.string p6)).three; have ht5 := ((hT5.kept hf2).other7 (B := w.heap.size + 1 + 1) (by omega) (.int .i64 p0) (.int .i64 p1) (.int .i64 p2) (.int .i64 p3) (.string p4) (.string p5) (.string p6)).seven; have hS5 := And.intro hx5.1 (And.intro hx5.2.1 (And.intro hx5.2.2.1 (And.intro hx5.2.2.2.1 (And.intro hx5.2.2.2.2.1 (And.intro hx5.2.2.2.2.2.1 (And.intro hx5.2.2.2.2.2.2 (And.intro hm5.1 (And.intro hm5.2.1 (And.intro hm5.2.2 ht5.2.1)))))))))))
  have hB9 := hB3.trans (hf2.mono hB3.size)
  have hBz := below_store7 hB9 (B := w.heap.size + 1 + 1) (by omega) (.int .i64 p0) (.int .i64 p1) (.int .i64 p2) (.int .i64 p3) (.string p4) (.string p5) (.string p6)
  have HS := Lib.hid (SaidAt.store7 (w := w5) (n' := w.heap.size) hS (by have := hlt2; simp only [World.size_drew]; omega) (B := w.heap.size + 1 + 1) (by simp only [World.size_drew]; omega) (.int .i64 p0) (.int .i64 p1) (.int .i64 p2) (.int .i64 p3) (.string p4) (.string p5) (.string p6))
  obtain ⟨y0, y1, y2, y3, y4, y5, y6⟩ := bR.seven
  clear bR hr9 hx5 hm5 ht5 hS5 hx hm hr hf hT5
  go_wp2
  refine bodyPost_ret (v := .tuple #[.agg #[.int .i64 p0, .int .i64 p1, .int .i64 p2, .int .i64 p3, .string p4, .string p5, .string p6], .slice A5 k5 c5, .int .i64 pe]) ?_ rfl ⟨A5, k5, ⟨c5, rfl⟩, HS.out, hBz⟩
  rw [results_ctt rfl]
  simp [asAddr, Result.andThen, go_sem, y0, y1, y2, y3, y4, y5, y6]
set_option maxRecDepth 100000 in
set_option maxHeartbeats 4000000 in
theorem take_tune (h : Hd) (m : Me) (A : Option Addr) (cap : Nat) (w : World) (hw : Wid w) (hv : wfM m) (hA : ValsAt w A (rowV m.l)) (hE : mE m = 0) (hst : h.st = 2) (r : Tn) (hC : ∀ W, Below w.heap.size w W → Calls Tryz.prog 37 #[encHd h, encM m A cap] W (TnPost r W)) : Calls Tryz.prog 11 #[encHd h, encM m A cap] w (TnPost r w) := by
  obtain ⟨st, ch, fr, bt, us, wo, ho⟩ := h
  obtain ⟨mc, mi, ml⟩ := m
  unfold encHd encM
  dsimp only
  unfold TnPost
  obtain ⟨W0, hW0⟩ : ∃ W0, W0 = ((w.alloc (.cells #[.int .i64 st, .int .i64 ch, .int .i64 fr, .int .i64 bt, .string us, .string wo, .string ho] 28)).alloc (.cells #[.int .i64 mc, .int .i64 mi, .slice A ml.length cap] 39)).alloc (.cells #[.int .i64 0, .int .i64 0, .int .i64 0, .int .i64 0, .string ⟨#[]⟩, .string ⟨#[]⟩, .string ⟨#[]⟩] 28) := ⟨_, rfl⟩
  have hb0 : Below w.heap.size w W0 := by rw [hW0]; exact (((Below.refl _ w).alloc (Nat.le_refl _) _).alloc (by simp) _).alloc (by simp; omega) _
  have hs0 : W0.heap.size = w.heap.size + 1 + 1 + 1 := by rw [hW0]; simp
  have hx : Bx W0 w.heap.size 28 [.int .i64 st, .int .i64 ch, .int .i64 fr, .int .i64 bt, .string us, .string wo, .string ho] := by rw [hW0]; exact ((Bx.new w 28 [.int .i64 st, .int .i64 ch, .int .i64 fr, .int .i64 bt, .string us, .string wo, .string ho]).alloc _).alloc _
  have hm : Bx W0 (w.heap.size + 1) 39 [.int .i64 mc, .int .i64 mi, .slice A ml.length cap] := by
    have h := (Bx.new (w.alloc (.cells #[.int .i64 st, .int .i64 ch, .int .i64 fr, .int .i64 bt, .string us, .string wo, .string ho] 28)) 39 [.int .i64 mc, .int .i64 mi, .slice A ml.length cap]).alloc (.cells #[.int .i64 0, .int .i64 0, .int .i64 0, .int .i64 0, .string ⟨#[]⟩, .string ⟨#[]⟩, .string ⟨#[]⟩] 28)
    rw [World.size_alloc] at h
    rw [hW0]; exact h
  have hr : Bx W0 (w.heap.size + 1 + 1) 28 [.int .i64 0, .int .i64 0, .int .i64 0, .int .i64 0, .string ⟨#[]⟩, .string ⟨#[]⟩, .string ⟨#[]⟩] := by
    have h := Bx.new ((w.alloc (.cells #[.int .i64 st, .int .i64 ch, .int .i64 fr, .int .i64 bt, .string us, .string wo, .string ho] 28)).alloc (.cells #[.int .i64 mc, .int .i64 mi, .slice A ml.length cap] 39)) 28 [.int .i64 0, .int .i64 0, .int .i64 0, .int .i64 0, .string ⟨#[]⟩, .string ⟨#[]⟩, .string ⟨#[]⟩]
    rw [World.size_alloc, World.size_alloc] at h
    rw [hW0]; exact h
  have hRi := mright_any ⟨mc, mi, ml⟩ A cap W0 (hw.below hb0) hv (hA.below hb0)
  unfold encM at hRi
  rw [hE] at hRi
  unfold encHd encM TnPost at hC
  try unfold encHd at *
  try dsimp only at *
  subst hst
  clear hw hv hA hE
  go_enter Tryz.func11, Tryz.ntmps11
  go_wp2_with fail
  rw [← hW0]
  clear hW0
  with_reducible refine hRi.mono ?_
  rintro e w1 ⟨rfl, hb1⟩
  have hB := hb0.trans (hb1.mono hb0.size)
  replace hx := hx.kept hb1
  replace hm := hm.kept hb1
  replace hr := hr.kept hb1
  clear hRi hb1
  have hSt := steps_any w1
  go_wp2_with fail
  with_reducible refine hSt.mono ?_
  rintro e w2 ⟨rfl, hb2⟩
  have hB2 := hB.trans (hb2.mono hB.size)
  replace hx := hx.kept hb2
  replace hm := hm.kept hb2
  replace hr := hr.kept hb2
  clear hSt hb2 hB
  obtain ⟨W3, hW3⟩ : ∃ W3, W3 = w2.alloc (.cells #[.func (.func 35) #[] #[], .func (.func 36) #[] #[], .func (.func 37) #[] #[], .func (.func 38) #[] #[], .func (.func 39) #[] #[], .func (.func 40) #[] #[], .func (.func 41) #[] #[]] 61) := ⟨_, rfl⟩
  have hb3 : Below w2.heap.size w2 W3 := by rw [hW3]; exact (Below.refl _ w2).alloc (Nat.le_refl _) _
  have hT : Bx W3 w2.heap.size 61 [.func (.func 35) #[] #[], .func (.func 36) #[] #[], .func (.func 37) #[] #[], .func (.func 38) #[] #[], .func (.func 39) #[] #[], .func (.func 40) #[] #[], .func (.func 41) #[] #[]] := by rw [hW3]; exact Bx.new w2 _ _
  have hle : w.heap.size + 1 + 1 < w2.heap.size := hr.lt
  have hB3 := hB2.trans (hb3.mono hB2.size)
  replace hx := hx.kept hb3
  replace hm := hm.kept hb3
  replace hr := hr.kept hb3
  clear hb3 hB2
  go_upto_region 4 with fail
  rw [← hW3]
  clear hW3
  have hf := (hT.seven).2.2.1
  have hlt2 := hT.lt
  have keep : ∀ w', Below W3.heap.size W3 w' → w'.cell? ⟨w.heap.size, 0, none⟩ = some (.int .i64 2) ∧ w'.cell? ⟨w.heap.size, 1, none⟩ = some (.int .i64 ch) ∧ w'.cell? ⟨w.heap.size, 2, none⟩ = some (.int .i64 fr) ∧ w'.cell? ⟨w.heap.size, 3, none⟩ = some (.int .i64 bt) ∧ w'.cell? ⟨w.heap.size, 4, none⟩ = some (.string us) ∧ w'.cell? ⟨w.heap.size, 5, none⟩ = some (.string wo) ∧ w'.cell? ⟨w.heap.size, 6, none⟩ = some (.string ho) ∧ w'.cell? ⟨w.heap.size + 1, 0, none⟩ = some (.int .i64 mc) ∧ w'.cell? ⟨w.heap.size + 1, 1, none⟩ = some (.int .i64 mi) ∧ w'.cell? ⟨w.heap.size + 1, 2, none⟩ = some (.slice A ml.length cap) ∧ w'.cell? ⟨w2.heap.size, 2, none⟩ = some (.func (.func 37) #[] #[]) := fun w' h => ⟨((hx.kept h).seven).1, ((hx.kept h).seven).2.1, ((hx.kept h).seven).2.2.1, ((hx.kept h).seven).2.2.2.1, ((hx.kept h).seven).2.2.2.2.1, ((hx.kept h).seven).2.2.2.2.2.1, ((hx.kept h).seven).2.2.2.2.2.2, ((hm.kept h).three).1, ((hm.kept h).three).2.1, ((hm.kept h).three).2.2, (h.cell (p := ⟨w2.heap.size, 2, none⟩) hlt2).trans hf⟩
  have hT5 := hT
  clear hT
  obtain ⟨⟨p0, p1, p2, p3, p4, p5, p6⟩, ps, pe⟩ := r
  dsimp only at hC ⊢
  obtain ⟨x0, x1, x2, x3, x4, x5, x6⟩ := hx.seven
  go_upto_region 6 with fail
  clear x0 x1 x2 x3 x4 x5 x6
  have hCk : ∀ W, Below W3.heap.size W3 W → _ := fun W (h : Below W3.heap.size W3 W) => hC W (hB3.trans (h.mono hB3.size))
  clear hC
  go_region_held3 (fun w' => w'.cell? ⟨w.heap.size, 0, none⟩ = some (.int .i64 2) ∧ w'.cell? ⟨w.heap.size, 1, none⟩ = some (.int .i64 ch) ∧ w'.cell? ⟨w.heap.size, 2, none⟩ = some (.int .i64 fr) ∧ w'.cell? ⟨w.heap.size, 3, none⟩ = some (.int .i64 bt) ∧ w'.cell? ⟨w.heap.size, 4, none⟩ = some (.string us) ∧ w'.cell? ⟨w.heap.size, 5, none⟩ = some (.string wo) ∧ w'.cell? ⟨w.heap.size, 6, none⟩ = some (.string ho) ∧ w'.cell? ⟨w.heap.size + 1, 0, none⟩ = some (.int .i64 mc) ∧ w'.cell? ⟨w.heap.size + 1, 1, none⟩ = some (.int .i64 mi) ∧ w'.cell? ⟨w.heap.size + 1, 2, none⟩ = some (.slice A ml.length cap) ∧ w'.cell? ⟨w2.heap.size, 2, none⟩ = some (.func (.func 37) #[] #[])) (first | (with_reducible exact keep _ hf2) | (with_reducible exact hS5) | (with_reducible exact keep _ (Below.refl _ W3).drew)) (first | (go_at_call 37; refine (hCk _ (Below.refl _ W3).drew).mono ?_; rintro e w5 ⟨A5, k5, c5, rfl, hS, hr5⟩; have hf2 : Below W3.heap.size W3 w5 := ⟨hr5.os, hr5.tape, hr5.output, hr5.size, hr5.block⟩; have hr9 := hr.kept hf2; obtain ⟨a0, f0, a1, f1, a2, f2, a3, f3, a4, f4, a5, f5, a6, f6, bR⟩ := hr9.store7 (.int .i64 p0) (.int .i64 p1) (.int .i64 p2) (.int .i64 p3) (.string p4) (.string p5) (.string p6); have hx5 := ((hx.kept hf2).other7 (B := w.heap.size + 1 + 1) (by omega) (.int .i64 p0) (.int .i64 p1) (.int .i64 p2) (.int .i64 p3) (.string p4) (.string p5) (.string p6)).seven; have hm5 := ((hm.kept hf2).other7 (B := w.heap.size + 1 + 1) (by omega) (.int .i64 p0) (.int .i64 p1) (.int .i64 p2) (.int .i64 p3) (.string p4) (.string p5) (.string p6)).three; have ht5 := ((hT5.kept hf2).other7 (B := w.heap.size + 1 + 1) (by omega) (.int .i64 p0) (.int .i64 p1) (.int .i64 p2) (.int .i64 p3) (.string p4) (.string p5) (.string p6)).seven; have hS5 := And.intro hx5.1 (And.intro hx5.2.1 (And.intro hx5.2.2.1 (And.intro hx5.2.2.2.1 (And.intro hx5.2.2.2.2.1 (And.intro hx5.2.2.2.2.2.1 (And.intro hx5.2.2.2.2.2.2 (And.intro hm5.1 (And.intro hm5.2.1 (And.intro hm5.2.2 ht5.2.2.1)))))))))))
  have hB9 := hB3.trans (hf2.mono hB3.size)
  have hBz := below_store7 hB9 (B := w.heap.size + 1 + 1) (by omega) (.int .i64 p0) (.int .i64 p1) (.int .i64 p2) (.int .i64 p3) (.string p4) (.string p5) (.string p6)
  have HS := Lib.hid (SaidAt.store7 (w := w5) (n' := w.heap.size) hS (by have := hlt2; simp only [World.size_drew]; omega) (B := w.heap.size + 1 + 1) (by simp only [World.size_drew]; omega) (.int .i64 p0) (.int .i64 p1) (.int .i64 p2) (.int .i64 p3) (.string p4) (.string p5) (.string p6))
  obtain ⟨y0, y1, y2, y3, y4, y5, y6⟩ := bR.seven
  clear bR hr9 hx5 hm5 ht5 hS5 hx hm hr hf hT5
  go_wp2
  refine bodyPost_ret (v := .tuple #[.agg #[.int .i64 p0, .int .i64 p1, .int .i64 p2, .int .i64 p3, .string p4, .string p5, .string p6], .slice A5 k5 c5, .int .i64 pe]) ?_ rfl ⟨A5, k5, ⟨c5, rfl⟩, HS.out, hBz⟩
  rw [results_ctt rfl]
  simp [asAddr, Result.andThen, go_sem, y0, y1, y2, y3, y4, y5, y6]
end Go.Proofs.YtkdiccedkjbpeaaGreatDoorR
