/-
  dial's states that only say, refuse, or leave it to serve: ends, others, run, open; nothing that was there is changed. Conditions: the table of widths is as its text lays it; the method's values are numbers and texts of fewer than 2^47 bytes, and lie in old memory.
-/
import Derived.Test.YtkdiccedkjbpeaaGreatDoorRWServe7
import Derived.Test.YtkdiccedkjbpeaaGreatDoorRWDial0
namespace Go.Proofs.YtkdiccedkjbpeaaGreatDoorR
open Go.RowKit

set_option maxRecDepth 100000 in
set_option maxHeartbeats 4000000 in
theorem dEnds_any (h : Hd) (m : Me) (A : Option Addr) (cap : Nat) (w : World) (hw : Wid w) (hv : wfM m) (hA : ValsAt w A (rowV m.l)) : Calls Tryz.prog 34 #[encHd h, encM m A cap] w (DnPost (ofTn (hTake h m)) w) := by
  obtain ⟨st, ch, fr, bt, us, wo, ho⟩ := h
  obtain ⟨mc, mi, ml⟩ := m
  unfold encHd encM
  dsimp only
  obtain ⟨r, HG⟩ : ∃ r, Hid (r = ofTn (hTake ⟨st, ch, fr, bt, us, wo, ho⟩ ⟨mc, mi, ml⟩)) := ⟨_, Lib.hid rfl⟩
  rw [← HG.out]
  unfold DnPost
  obtain ⟨W0, hW0⟩ : ∃ W0, W0 = ((w.alloc (.cells #[.int .i64 st, .int .i64 ch, .int .i64 fr, .int .i64 bt, .string us, .string wo, .string ho] 59)).alloc (.cells #[.int .i64 mc, .int .i64 mi, .slice A ml.length cap] 39)).alloc (.cells #[.int .i64 0, .int .i64 0, .int .i64 0, .int .i64 0, .string ⟨#[]⟩, .string ⟨#[]⟩, .string ⟨#[]⟩] 28) := ⟨_, rfl⟩
  have hb0 : Below w.heap.size w W0 := by rw [hW0]; exact (((Below.refl _ w).alloc (Nat.le_refl _) _).alloc (by simp) _).alloc (by simp; omega) _
  have hs0 : W0.heap.size = w.heap.size + 1 + 1 + 1 := by rw [hW0]; simp
  have hx : Bx W0 w.heap.size 59 [.int .i64 st, .int .i64 ch, .int .i64 fr, .int .i64 bt, .string us, .string wo, .string ho] := by rw [hW0]; exact ((Bx.new w 59 [.int .i64 st, .int .i64 ch, .int .i64 fr, .int .i64 bt, .string us, .string wo, .string ho]).alloc _).alloc _
  have hm : Bx W0 (w.heap.size + 1) 39 [.int .i64 mc, .int .i64 mi, .slice A ml.length cap] := by
    have h := (Bx.new (w.alloc (.cells #[.int .i64 st, .int .i64 ch, .int .i64 fr, .int .i64 bt, .string us, .string wo, .string ho] 59)) 39 [.int .i64 mc, .int .i64 mi, .slice A ml.length cap]).alloc (.cells #[.int .i64 0, .int .i64 0, .int .i64 0, .int .i64 0, .string ⟨#[]⟩, .string ⟨#[]⟩, .string ⟨#[]⟩] 28)
    rw [World.size_alloc] at h
    rw [hW0]; exact h
  have hr : Bx W0 (w.heap.size + 1 + 1) 28 [.int .i64 0, .int .i64 0, .int .i64 0, .int .i64 0, .string ⟨#[]⟩, .string ⟨#[]⟩, .string ⟨#[]⟩] := by
    have h := Bx.new ((w.alloc (.cells #[.int .i64 st, .int .i64 ch, .int .i64 fr, .int .i64 bt, .string us, .string wo, .string ho] 59)).alloc (.cells #[.int .i64 mc, .int .i64 mi, .slice A ml.length cap] 39)) 28 [.int .i64 0, .int .i64 0, .int .i64 0, .int .i64 0, .string ⟨#[]⟩, .string ⟨#[]⟩, .string ⟨#[]⟩]
    rw [World.size_alloc, World.size_alloc] at h
    rw [hW0]; exact h
  have hC := sTake_any ⟨st, ch, fr, bt, us, wo, ho⟩ ⟨mc, mi, ml⟩ A cap W0 (hw.below hb0) hv (hA.below hb0)
  unfold TnPost encM at hC
  try unfold encHd at *
  try dsimp only at *
  generalize hTake ⟨st, ch, fr, bt, us, wo, ho⟩ ⟨mc, mi, ml⟩ = r9 at hC HG
  obtain ⟨⟨p0, p1, p2, p3, p4, p5, p6⟩, ps, pe⟩ := r9
  dsimp only at hC
  clear hw hv hA
  go_enter Tryz.func34, Tryz.ntmps34
  go_wp2_with fail
  rw [← hW0]
  clear hW0
  with_reducible refine hC.mono ?_
  rintro e w9 ⟨A9, k9, c9, rfl, hS0, hb9⟩
  have hS := DSaid.of hS0
  have hB9 := hb0.trans (hb9.mono hb0.size)
  have hlt := hr.lt
  replace hr := hr.kept hb9
  clear hC hS0
  obtain ⟨a0, f0, a1, f1, a2, f2, a3, f3, a4, f4, a5, f5, a6, f6, bR⟩ := hr.store7 (.int .i64 p0) (.int .i64 p1) (.int .i64 p2) (.int .i64 p3) (.string p4) (.string p5) (.string p6)
  have hBz := below_store7 hB9 (B := w.heap.size + 1 + 1) (by omega) (.int .i64 p0) (.int .i64 p1) (.int .i64 p2) (.int .i64 p3) (.string p4) (.string p5) (.string p6)
  have HS := Lib.hid (DSaid.store7 (w := w9) (n' := w.heap.size) hS (by omega) (B := w.heap.size + 1 + 1) (by omega) (.int .i64 p0) (.int .i64 p1) (.int .i64 p2) (.int .i64 p3) (.string p4) (.string p5) (.string p6))
  obtain ⟨y0, y1, y2, y3, y4, y5, y6⟩ := bR.seven
  clear bR hx hm hr hs0 hB9 
  go_wp2
  first | refine bodyPost_ret (v := .tuple #[.agg #[.int .i64 p0, .int .i64 p1, .int .i64 p2, .int .i64 p3, .string p4, .string p5, .string p6], .slice A9 k9 c9, .int .i64 pe]) ?_ rfl ⟨A9, k9, c9, by rw [HG.out] <;> rfl, by rw [HG.out]; exact HS.out, hBz⟩ | refine bodyPost_ret (v := .tuple #[.agg #[.int .i64 p0, .int .i64 p1, .int .i64 p2, .int .i64 p3, .string p4, .string p5, .string p6], .slice A9 k9 c9, .int .i64 pe]) ?_ rfl ⟨A9, k9, ⟨c9, by rw [HG.out] <;> rfl⟩, by rw [HG.out]; exact HS.out, hBz⟩
  rw [results_ctt rfl]
  simp [asAddr, Result.andThen, go_sem, y0, y1, y2, y3, y4, y5, y6]
set_option maxRecDepth 100000 in
set_option maxHeartbeats 4000000 in
theorem dOthers_any (h : Hd) (m : Me) (A : Option Addr) (cap : Nat) (w : World) (hw : Wid w) (hv : wfM m) (hA : ValsAt w A (rowV m.l)) : Calls Tryz.prog 51 #[encHd h, encM m A cap] w (DnPost (dOthers h m) w) := by
  obtain ⟨st, ch, fr, bt, us, wo, ho⟩ := h
  obtain ⟨mc, mi, ml⟩ := m
  unfold encHd encM
  dsimp only
  obtain ⟨r, HG⟩ : ∃ r, Hid (r = dOthers ⟨st, ch, fr, bt, us, wo, ho⟩ ⟨mc, mi, ml⟩) := ⟨_, Lib.hid rfl⟩
  rw [← HG.out]
  unfold DnPost
  have HF : Hid (r = if (mc == 10 && mi == 50) = true then ofTn (hTake ⟨st, ch, fr, bt, us, wo, ho⟩ ⟨mc, mi, ml⟩) else dRefuse ⟨st, ch, fr, bt, us, wo, ho⟩ 16) := Lib.hid HG.out
  clear HG
  obtain ⟨q, hq⟩ : ∃ q, (mc == 10 && mi == 50) = q := ⟨_, rfl⟩
  rw [hq] at HF
  obtain ⟨W0, hW0⟩ : ∃ W0, W0 = ((w.alloc (.cells #[.int .i64 st, .int .i64 ch, .int .i64 fr, .int .i64 bt, .string us, .string wo, .string ho] 59)).alloc (.cells #[.int .i64 mc, .int .i64 mi, .slice A ml.length cap] 39)).alloc (.cells #[.int .i64 0, .int .i64 0, .int .i64 0, .int .i64 0, .string ⟨#[]⟩, .string ⟨#[]⟩, .string ⟨#[]⟩] 28) := ⟨_, rfl⟩
  have hb0 : Below w.heap.size w W0 := by rw [hW0]; exact (((Below.refl _ w).alloc (Nat.le_refl _) _).alloc (by simp) _).alloc (by simp; omega) _
  have hs0 : W0.heap.size = w.heap.size + 1 + 1 + 1 := by rw [hW0]; simp
  have hx : Bx W0 w.heap.size 59 [.int .i64 st, .int .i64 ch, .int .i64 fr, .int .i64 bt, .string us, .string wo, .string ho] := by rw [hW0]; exact ((Bx.new w 59 [.int .i64 st, .int .i64 ch, .int .i64 fr, .int .i64 bt, .string us, .string wo, .string ho]).alloc _).alloc _
  have hm : Bx W0 (w.heap.size + 1) 39 [.int .i64 mc, .int .i64 mi, .slice A ml.length cap] := by
    have h := (Bx.new (w.alloc (.cells #[.int .i64 st, .int .i64 ch, .int .i64 fr, .int .i64 bt, .string us, .string wo, .string ho] 59)) 39 [.int .i64 mc, .int .i64 mi, .slice A ml.length cap]).alloc (.cells #[.int .i64 0, .int .i64 0, .int .i64 0, .int .i64 0, .string ⟨#[]⟩, .string ⟨#[]⟩, .string ⟨#[]⟩] 28)
    rw [World.size_alloc] at h
    rw [hW0]; exact h
  have hr : Bx W0 (w.heap.size + 1 + 1) 28 [.int .i64 0, .int .i64 0, .int .i64 0, .int .i64 0, .string ⟨#[]⟩, .string ⟨#[]⟩, .string ⟨#[]⟩] := by
    have h := Bx.new ((w.alloc (.cells #[.int .i64 st, .int .i64 ch, .int .i64 fr, .int .i64 bt, .string us, .string wo, .string ho] 59)).alloc (.cells #[.int .i64 mc, .int .i64 mi, .slice A ml.length cap] 39)) 28 [.int .i64 0, .int .i64 0, .int .i64 0, .int .i64 0, .string ⟨#[]⟩, .string ⟨#[]⟩, .string ⟨#[]⟩]
    rw [World.size_alloc, World.size_alloc] at h
    rw [hW0]; exact h
  have hI := dIs_any mc mi A ml.length cap 50 W0
  try unfold encHd at *
  try dsimp only at *
  rw [hq] at hI
  clear hq
  go_enter Tryz.func51, Tryz.ntmps51
  go_wp2_with fail
  rw [← hW0]
  clear hW0
  with_reducible refine hI.mono ?_
  rintro e w1 ⟨rfl, hb1⟩
  have hB := hb0.trans (hb1.mono hb0.size)
  replace hx := hx.kept hb1
  replace hm := hm.kept hb1
  replace hr := hr.kept hb1
  clear hI hb1 hb0
  cases q
  · have HG : Hid (r = dRefuse ⟨st, ch, fr, bt, us, wo, ho⟩ 16) := Lib.hid (by rw [HF.out]; rfl)
    clear HF hw hv hA
    obtain ⟨x0, x1, x2, x3, x4, x5, x6⟩ := hx.seven
    have hC := dRefuse_any ⟨st, ch, fr, bt, us, wo, ho⟩ 16 w1
    unfold encHd at hC
    dsimp only at hC
    go_wp2_with fail
    with_reducible refine hC.mono ?_
    rintro e w9 ⟨rfl, hb9⟩
    have hB9 := hB.trans (hb9.mono hB.size)
    replace hr := hr.kept hb9
    clear hC x0 x1 x2 x3 x4 x5 x6 
    obtain ⟨a0, f0, a1, f1, a2, f2, a3, f3, a4, f4, a5, f5, a6, f6, bR⟩ := hr.store7 (.int .i64 st) (.int .i64 ch) (.int .i64 fr) (.int .i64 bt) (.string us) (.string wo) (.string ho)
    have hBz := below_store7 hB9 (B := w.heap.size + 1 + 1) (by omega) (.int .i64 st) (.int .i64 ch) (.int .i64 fr) (.int .i64 bt) (.string us) (.string wo) (.string ho)
    have HS := Lib.hid (DSaid.store7 (w := w9) (n' := w.heap.size) (n := w.heap.size + 1 + 1 + 1) (l := []) (A := none) (k := 0) ⟨rfl, rfl⟩ (by omega) (B := w.heap.size + 1 + 1) (by omega) (.int .i64 st) (.int .i64 ch) (.int .i64 fr) (.int .i64 bt) (.string us) (.string wo) (.string ho))
    obtain ⟨y0, y1, y2, y3, y4, y5, y6⟩ := bR.seven
    clear bR hx hm hr hs0 hB9 
    go_wp2
    first | refine bodyPost_ret (v := .tuple #[.agg #[.int .i64 st, .int .i64 ch, .int .i64 fr, .int .i64 bt, .string us, .string wo, .string ho], .slice none 0 0, .int .i64 16]) ?_ rfl ⟨none, 0, 0, by rw [HG.out] <;> rfl, by rw [HG.out]; exact HS.out, hBz⟩ | refine bodyPost_ret (v := .tuple #[.agg #[.int .i64 st, .int .i64 ch, .int .i64 fr, .int .i64 bt, .string us, .string wo, .string ho], .slice none 0 0, .int .i64 16]) ?_ rfl ⟨none, 0, ⟨0, by rw [HG.out] <;> rfl⟩, by rw [HG.out]; exact HS.out, hBz⟩
    rw [results_ctt rfl]
    simp [asAddr, Result.andThen, go_sem, y0, y1, y2, y3, y4, y5, y6]
  · have HG : Hid (r = ofTn (hTake ⟨st, ch, fr, bt, us, wo, ho⟩ ⟨mc, mi, ml⟩)) := Lib.hid (by rw [HF.out]; rfl)
    clear HF
    obtain ⟨x0, x1, x2, x3, x4, x5, x6⟩ := hx.seven
    obtain ⟨m0, m1, m2⟩ := hm.three
    have hC := dEnds_any ⟨st, ch, fr, bt, us, wo, ho⟩ ⟨mc, mi, ml⟩ A cap w1 (hw.below hB) hv (hA.below hB)
    unfold DnPost encHd encM at hC
    dsimp only at hC
    generalize ofTn (hTake ⟨st, ch, fr, bt, us, wo, ho⟩ ⟨mc, mi, ml⟩) = r9 at hC HG
    obtain ⟨⟨p0, p1, p2, p3, p4, p5, p6⟩, ps, pe⟩ := r9
    dsimp only at hC
    go_wp2_with fail
    with_reducible refine hC.mono ?_
    rintro e w9 ⟨A9, k9, c9, rfl, hS, hb9⟩
    have hB9 := hB.trans (hb9.mono hB.size)
    have hlt := hr.lt
    replace hr := hr.kept hb9
    clear hC x0 x1 x2 x3 x4 x5 x6 m0 m1 m2
    obtain ⟨a0, f0, a1, f1, a2, f2, a3, f3, a4, f4, a5, f5, a6, f6, bR⟩ := hr.store7 (.int .i64 p0) (.int .i64 p1) (.int .i64 p2) (.int .i64 p3) (.string p4) (.string p5) (.string p6)
    have hBz := below_store7 hB9 (B := w.heap.size + 1 + 1) (by omega) (.int .i64 p0) (.int .i64 p1) (.int .i64 p2) (.int .i64 p3) (.string p4) (.string p5) (.string p6)
    have HS := Lib.hid (DSaid.store7 (w := w9) (n' := w.heap.size) hS (by omega) (B := w.heap.size + 1 + 1) (by omega) (.int .i64 p0) (.int .i64 p1) (.int .i64 p2) (.int .i64 p3) (.string p4) (.string p5) (.string p6))
    obtain ⟨y0, y1, y2, y3, y4, y5, y6⟩ := bR.seven
    clear bR hx hm hr hs0 hB9 hw hv hA 
    go_wp2
    first | refine bodyPost_ret (v := .tuple #[.agg #[.int .i64 p0, .int .i64 p1, .int .i64 p2, .int .i64 p3, .string p4, .string p5, .string p6], .slice A9 k9 c9, .int .i64 pe]) ?_ rfl ⟨A9, k9, c9, by rw [HG.out] <;> rfl, by rw [HG.out]; exact HS.out, hBz⟩ | refine bodyPost_ret (v := .tuple #[.agg #[.int .i64 p0, .int .i64 p1, .int .i64 p2, .int .i64 p3, .string p4, .string p5, .string p6], .slice A9 k9 c9, .int .i64 pe]) ?_ rfl ⟨A9, k9, ⟨c9, by rw [HG.out] <;> rfl⟩, by rw [HG.out]; exact HS.out, hBz⟩
    rw [results_ctt rfl]
    simp [asAddr, Result.andThen, go_sem, y0, y1, y2, y3, y4, y5, y6]
set_option maxRecDepth 100000 in
set_option maxHeartbeats 4000000 in
theorem dOpen_any (h : Hd) (m : Me) (A : Option Addr) (cap : Nat) (w : World) (hw : Wid w) (hv : wfM m) (hA : ValsAt w A (rowV m.l)) : Calls Tryz.prog 32 #[encHd h, encM m A cap] w (DnPost (dOpens h m) w) := by
  obtain ⟨st, ch, fr, bt, us, wo, ho⟩ := h
  obtain ⟨mc, mi, ml⟩ := m
  unfold encHd encM
  dsimp only
  obtain ⟨r, HG⟩ : ∃ r, Hid (r = dOpens ⟨st, ch, fr, bt, us, wo, ho⟩ ⟨mc, mi, ml⟩) := ⟨_, Lib.hid rfl⟩
  rw [← HG.out]
  unfold DnPost
  have HF : Hid (r = if (mc == 10 && mi == 41) = true then dSays ⟨st, ch, fr, bt, us, wo, ho⟩ 4 [] else dOthers ⟨st, ch, fr, bt, us, wo, ho⟩ ⟨mc, mi, ml⟩) := Lib.hid HG.out
  clear HG
  obtain ⟨q, hq⟩ : ∃ q, (mc == 10 && mi == 41) = q := ⟨_, rfl⟩
  rw [hq] at HF
  obtain ⟨W0, hW0⟩ : ∃ W0, W0 = ((w.alloc (.cells #[.int .i64 st, .int .i64 ch, .int .i64 fr, .int .i64 bt, .string us, .string wo, .string ho] 59)).alloc (.cells #[.int .i64 mc, .int .i64 mi, .slice A ml.length cap] 39)).alloc (.cells #[.int .i64 0, .int .i64 0, .int .i64 0, .int .i64 0, .string ⟨#[]⟩, .string ⟨#[]⟩, .string ⟨#[]⟩] 28) := ⟨_, rfl⟩
  have hb0 : Below w.heap.size w W0 := by rw [hW0]; exact (((Below.refl _ w).alloc (Nat.le_refl _) _).alloc (by simp) _).alloc (by simp; omega) _
  have hs0 : W0.heap.size = w.heap.size + 1 + 1 + 1 := by rw [hW0]; simp
  have hx : Bx W0 w.heap.size 59 [.int .i64 st, .int .i64 ch, .int .i64 fr, .int .i64 bt, .string us, .string wo, .string ho] := by rw [hW0]; exact ((Bx.new w 59 [.int .i64 st, .int .i64 ch, .int .i64 fr, .int .i64 bt, .string us, .string wo, .string ho]).alloc _).alloc _
  have hm : Bx W0 (w.heap.size + 1) 39 [.int .i64 mc, .int .i64 mi, .slice A ml.length cap] := by
    have h := (Bx.new (w.alloc (.cells #[.int .i64 st, .int .i64 ch, .int .i64 fr, .int .i64 bt, .string us, .string wo, .string ho] 59)) 39 [.int .i64 mc, .int .i64 mi, .slice A ml.length cap]).alloc (.cells #[.int .i64 0, .int .i64 0, .int .i64 0, .int .i64 0, .string ⟨#[]⟩, .string ⟨#[]⟩, .string ⟨#[]⟩] 28)
    rw [World.size_alloc] at h
    rw [hW0]; exact h
  have hr : Bx W0 (w.heap.size + 1 + 1) 28 [.int .i64 0, .int .i64 0, .int .i64 0, .int .i64 0, .string ⟨#[]⟩, .string ⟨#[]⟩, .string ⟨#[]⟩] := by
    have h := Bx.new ((w.alloc (.cells #[.int .i64 st, .int .i64 ch, .int .i64 fr, .int .i64 bt, .string us, .string wo, .string ho] 59)).alloc (.cells #[.int .i64 mc, .int .i64 mi, .slice A ml.length cap] 39)) 28 [.int .i64 0, .int .i64 0, .int .i64 0, .int .i64 0, .string ⟨#[]⟩, .string ⟨#[]⟩, .string ⟨#[]⟩]
    rw [World.size_alloc, World.size_alloc] at h
    rw [hW0]; exact h
  have hI := dIs_any mc mi A ml.length cap 41 W0
  try unfold encHd at *
  try dsimp only at *
  rw [hq] at hI
  clear hq
  go_enter Tryz.func32, Tryz.ntmps32
  go_wp2_with fail
  rw [← hW0]
  clear hW0
  with_reducible refine hI.mono ?_
  rintro e w1 ⟨rfl, hb1⟩
  have hB := hb0.trans (hb1.mono hb0.size)
  replace hx := hx.kept hb1
  replace hm := hm.kept hb1
  replace hr := hr.kept hb1
  clear hI hb1 hb0
  cases q
  · have HG : Hid (r = dOthers ⟨st, ch, fr, bt, us, wo, ho⟩ ⟨mc, mi, ml⟩) := Lib.hid (by rw [HF.out]; rfl)
    clear HF
    obtain ⟨x0, x1, x2, x3, x4, x5, x6⟩ := hx.seven
    obtain ⟨m0, m1, m2⟩ := hm.three
    have hC := dOthers_any ⟨st, ch, fr, bt, us, wo, ho⟩ ⟨mc, mi, ml⟩ A cap w1 (hw.below hB) hv (hA.below hB)
    unfold DnPost encHd encM at hC
    dsimp only at hC
    generalize dOthers ⟨st, ch, fr, bt, us, wo, ho⟩ ⟨mc, mi, ml⟩ = r9 at hC HG
    obtain ⟨⟨p0, p1, p2, p3, p4, p5, p6⟩, ps, pe⟩ := r9
    dsimp only at hC
    go_wp2_with fail
    with_reducible refine hC.mono ?_
    rintro e w9 ⟨A9, k9, c9, rfl, hS, hb9⟩
    have hB9 := hB.trans (hb9.mono hB.size)
    have hlt := hr.lt
    replace hr := hr.kept hb9
    clear hC x0 x1 x2 x3 x4 x5 x6 m0 m1 m2
    obtain ⟨a0, f0, a1, f1, a2, f2, a3, f3, a4, f4, a5, f5, a6, f6, bR⟩ := hr.store7 (.int .i64 p0) (.int .i64 p1) (.int .i64 p2) (.int .i64 p3) (.string p4) (.string p5) (.string p6)
    have hBz := below_store7 hB9 (B := w.heap.size + 1 + 1) (by omega) (.int .i64 p0) (.int .i64 p1) (.int .i64 p2) (.int .i64 p3) (.string p4) (.string p5) (.string p6)
    have HS := Lib.hid (DSaid.store7 (w := w9) (n' := w.heap.size) hS (by omega) (B := w.heap.size + 1 + 1) (by omega) (.int .i64 p0) (.int .i64 p1) (.int .i64 p2) (.int .i64 p3) (.string p4) (.string p5) (.string p6))
    obtain ⟨y0, y1, y2, y3, y4, y5, y6⟩ := bR.seven
    clear bR hx hm hr hs0 hB9 hw hv hA 
    go_wp2
    first | refine bodyPost_ret (v := .tuple #[.agg #[.int .i64 p0, .int .i64 p1, .int .i64 p2, .int .i64 p3, .string p4, .string p5, .string p6], .slice A9 k9 c9, .int .i64 pe]) ?_ rfl ⟨A9, k9, c9, by rw [HG.out] <;> rfl, by rw [HG.out]; exact HS.out, hBz⟩ | refine bodyPost_ret (v := .tuple #[.agg #[.int .i64 p0, .int .i64 p1, .int .i64 p2, .int .i64 p3, .string p4, .string p5, .string p6], .slice A9 k9 c9, .int .i64 pe]) ?_ rfl ⟨A9, k9, ⟨c9, by rw [HG.out] <;> rfl⟩, by rw [HG.out]; exact HS.out, hBz⟩
    rw [results_ctt rfl]
    simp [asAddr, Result.andThen, go_sem, y0, y1, y2, y3, y4, y5, y6]
  · have HG : Hid (r = dSays ⟨st, ch, fr, bt, us, wo, ho⟩ 4 []) := Lib.hid (by rw [HF.out]; rfl)
    clear HF hw hv hA
    obtain ⟨x0, x1, x2, x3, x4, x5, x6⟩ := hx.seven
    have hC := dSay_any ⟨st, ch, fr, bt, us, wo, ho⟩ 4 none 0 0 w1
    unfold encHd at hC
    dsimp only at hC
    go_wp2_with fail
    with_reducible refine hC.mono ?_
    rintro e w9 ⟨rfl, hb9⟩
    have hB9 := hB.trans (hb9.mono hB.size)
    replace hr := hr.kept hb9
    clear hC x0 x1 x2 x3 x4 x5 x6 
    obtain ⟨a0, f0, a1, f1, a2, f2, a3, f3, a4, f4, a5, f5, a6, f6, bR⟩ := hr.store7 (.int .i64 4) (.int .i64 ch) (.int .i64 fr) (.int .i64 bt) (.string us) (.string wo) (.string ho)
    have hBz := below_store7 hB9 (B := w.heap.size + 1 + 1) (by omega) (.int .i64 4) (.int .i64 ch) (.int .i64 fr) (.int .i64 bt) (.string us) (.string wo) (.string ho)
    have HS := Lib.hid (DSaid.store7 (w := w9) (n' := w.heap.size) (n := w.heap.size + 1 + 1 + 1) (l := []) (A := none) (k := 0) ⟨rfl, rfl⟩ (by omega) (B := w.heap.size + 1 + 1) (by omega) (.int .i64 4) (.int .i64 ch) (.int .i64 fr) (.int .i64 bt) (.string us) (.string wo) (.string ho))
    obtain ⟨y0, y1, y2, y3, y4, y5, y6⟩ := bR.seven
    clear bR hx hm hr hs0 hB9 
    go_wp2
    first | refine bodyPost_ret (v := .tuple #[.agg #[.int .i64 4, .int .i64 ch, .int .i64 fr, .int .i64 bt, .string us, .string wo, .string ho], .slice none 0 0, .int .i64 0]) ?_ rfl ⟨none, 0, 0, by rw [HG.out] <;> rfl, by rw [HG.out]; exact HS.out, hBz⟩ | refine bodyPost_ret (v := .tuple #[.agg #[.int .i64 4, .int .i64 ch, .int .i64 fr, .int .i64 bt, .string us, .string wo, .string ho], .slice none 0 0, .int .i64 0]) ?_ rfl ⟨none, 0, ⟨0, by rw [HG.out] <;> rfl⟩, by rw [HG.out]; exact HS.out, hBz⟩
    rw [results_ctt rfl]
    simp [asAddr, Result.andThen, go_sem, y0, y1, y2, y3, y4, y5, y6]
set_option maxRecDepth 100000 in
set_option maxHeartbeats 4000000 in
theorem dRun_any (h : Hd) (m : Me) (A : Option Addr) (cap : Nat) (w : World) (hw : Wid w) (hv : wfM m) (hA : ValsAt w A (rowV m.l)) : Calls Tryz.prog 33 #[encHd h, encM m A cap] w (DnPost (dRuns h m) w) := by
  obtain ⟨st, ch, fr, bt, us, wo, ho⟩ := h
  obtain ⟨mc, mi, ml⟩ := m
  unfold encHd encM
  dsimp only
  obtain ⟨r, HG⟩ : ∃ r, Hid (r = dRuns ⟨st, ch, fr, bt, us, wo, ho⟩ ⟨mc, mi, ml⟩) := ⟨_, Lib.hid rfl⟩
  rw [← HG.out]
  unfold DnPost
  have HF : Hid (r = if (mc == 10 && mi == 60) = true ∨ (mc == 10 && mi == 61) = true then dSays ⟨st, ch, fr, bt, us, wo, ho⟩ 4 [] else dOthers ⟨st, ch, fr, bt, us, wo, ho⟩ ⟨mc, mi, ml⟩) := Lib.hid HG.out
  clear HG
  obtain ⟨q, hq⟩ : ∃ q, (mc == 10 && mi == 60) = q := ⟨_, rfl⟩
  obtain ⟨p, hp⟩ : ∃ p, (mc == 10 && mi == 61) = p := ⟨_, rfl⟩
  rw [hq, hp] at HF
  obtain ⟨W0, hW0⟩ : ∃ W0, W0 = ((w.alloc (.cells #[.int .i64 st, .int .i64 ch, .int .i64 fr, .int .i64 bt, .string us, .string wo, .string ho] 59)).alloc (.cells #[.int .i64 mc, .int .i64 mi, .slice A ml.length cap] 39)).alloc (.cells #[.int .i64 0, .int .i64 0, .int .i64 0, .int .i64 0, .string ⟨#[]⟩, .string ⟨#[]⟩, .string ⟨#[]⟩] 28) := ⟨_, rfl⟩
  have hb0 : Below w.heap.size w W0 := by rw [hW0]; exact (((Below.refl _ w).alloc (Nat.le_refl _) _).alloc (by simp) _).alloc (by simp; omega) _
  have hs0 : W0.heap.size = w.heap.size + 1 + 1 + 1 := by rw [hW0]; simp
  have hx : Bx W0 w.heap.size 59 [.int .i64 st, .int .i64 ch, .int .i64 fr, .int .i64 bt, .string us, .string wo, .string ho] := by rw [hW0]; exact ((Bx.new w 59 [.int .i64 st, .int .i64 ch, .int .i64 fr, .int .i64 bt, .string us, .string wo, .string ho]).alloc _).alloc _
  have hm : Bx W0 (w.heap.size + 1) 39 [.int .i64 mc, .int .i64 mi, .slice A ml.length cap] := by
    have h := (Bx.new (w.alloc (.cells #[.int .i64 st, .int .i64 ch, .int .i64 fr, .int .i64 bt, .string us, .string wo, .string ho] 59)) 39 [.int .i64 mc, .int .i64 mi, .slice A ml.length cap]).alloc (.cells #[.int .i64 0, .int .i64 0, .int .i64 0, .int .i64 0, .string ⟨#[]⟩, .string ⟨#[]⟩, .string ⟨#[]⟩] 28)
    rw [World.size_alloc] at h
    rw [hW0]; exact h
  have hr : Bx W0 (w.heap.size + 1 + 1) 28 [.int .i64 0, .int .i64 0, .int .i64 0, .int .i64 0, .string ⟨#[]⟩, .string ⟨#[]⟩, .string ⟨#[]⟩] := by
    have h := Bx.new ((w.alloc (.cells #[.int .i64 st, .int .i64 ch, .int .i64 fr, .int .i64 bt, .string us, .string wo, .string ho] 59)).alloc (.cells #[.int .i64 mc, .int .i64 mi, .slice A ml.length cap] 39)) 28 [.int .i64 0, .int .i64 0, .int .i64 0, .int .i64 0, .string ⟨#[]⟩, .string ⟨#[]⟩, .string ⟨#[]⟩]
    rw [World.size_alloc, World.size_alloc] at h
    rw [hW0]; exact h
  have hI := dIs_any mc mi A ml.length cap 60 W0
  have hJ := fun W => dIs_any mc mi A ml.length cap 61 W
  try unfold encHd at *
  try dsimp only at *
  rw [hq] at hI
  rw [hp] at hJ
  clear hq hp
  go_enter Tryz.func33, Tryz.ntmps33
  go_wp2_with fail
  rw [← hW0]
  clear hW0
  with_reducible refine hI.mono ?_
  rintro e w1 ⟨rfl, hb1⟩
  have hB := hb0.trans (hb1.mono hb0.size)
  replace hx := hx.kept hb1
  replace hm := hm.kept hb1
  replace hr := hr.kept hb1
  clear hI hb1 hb0
  cases q
  · obtain ⟨m0, m1, m2⟩ := hm.three
    go_wp2_with fail
    with_reducible refine (hJ _).mono ?_
    rintro e w2 ⟨rfl, hb2⟩
    have hB2 := hB.trans (hb2.mono hB.size)
    replace hx := hx.kept hb2
    replace hm := hm.kept hb2
    replace hr := hr.kept hb2
    clear hJ hb2 hB m0 m1 m2
    cases p
    · have HG : Hid (r = dOthers ⟨st, ch, fr, bt, us, wo, ho⟩ ⟨mc, mi, ml⟩) := Lib.hid (by rw [HF.out]; rfl)
      clear HF
      obtain ⟨x0, x1, x2, x3, x4, x5, x6⟩ := hx.seven
      obtain ⟨m0, m1, m2⟩ := hm.three
      have hC := dOthers_any ⟨st, ch, fr, bt, us, wo, ho⟩ ⟨mc, mi, ml⟩ A cap w2 (hw.below hB2) hv (hA.below hB2)
      unfold DnPost encHd encM at hC
      dsimp only at hC
      generalize dOthers ⟨st, ch, fr, bt, us, wo, ho⟩ ⟨mc, mi, ml⟩ = r9 at hC HG
      obtain ⟨⟨p0, p1, p2, p3, p4, p5, p6⟩, ps, pe⟩ := r9
      dsimp only at hC
      go_wp2_with fail
      with_reducible refine hC.mono ?_
      rintro e w9 ⟨A9, k9, c9, rfl, hS, hb9⟩
      have hB9 := hB2.trans (hb9.mono hB2.size)
      have hlt := hr.lt
      replace hr := hr.kept hb9
      clear hC x0 x1 x2 x3 x4 x5 x6 m0 m1 m2
      obtain ⟨a0, f0, a1, f1, a2, f2, a3, f3, a4, f4, a5, f5, a6, f6, bR⟩ := hr.store7 (.int .i64 p0) (.int .i64 p1) (.int .i64 p2) (.int .i64 p3) (.string p4) (.string p5) (.string p6)
      have hBz := below_store7 hB9 (B := w.heap.size + 1 + 1) (by omega) (.int .i64 p0) (.int .i64 p1) (.int .i64 p2) (.int .i64 p3) (.string p4) (.string p5) (.string p6)
      have HS := Lib.hid (DSaid.store7 (w := w9) (n' := w.heap.size) hS (by omega) (B := w.heap.size + 1 + 1) (by omega) (.int .i64 p0) (.int .i64 p1) (.int .i64 p2) (.int .i64 p3) (.string p4) (.string p5) (.string p6))
      obtain ⟨y0, y1, y2, y3, y4, y5, y6⟩ := bR.seven
      clear bR hx hm hr hs0 hB9 hw hv hA 
      go_wp2
      first | refine bodyPost_ret (v := .tuple #[.agg #[.int .i64 p0, .int .i64 p1, .int .i64 p2, .int .i64 p3, .string p4, .string p5, .string p6], .slice A9 k9 c9, .int .i64 pe]) ?_ rfl ⟨A9, k9, c9, by rw [HG.out] <;> rfl, by rw [HG.out]; exact HS.out, hBz⟩ | refine bodyPost_ret (v := .tuple #[.agg #[.int .i64 p0, .int .i64 p1, .int .i64 p2, .int .i64 p3, .string p4, .string p5, .string p6], .slice A9 k9 c9, .int .i64 pe]) ?_ rfl ⟨A9, k9, ⟨c9, by rw [HG.out] <;> rfl⟩, by rw [HG.out]; exact HS.out, hBz⟩
      rw [results_ctt rfl]
      simp [asAddr, Result.andThen, go_sem, y0, y1, y2, y3, y4, y5, y6]
    · have HG : Hid (r = dSays ⟨st, ch, fr, bt, us, wo, ho⟩ 4 []) := Lib.hid (by rw [HF.out]; rfl)
      clear HF hw hv hA
      obtain ⟨x0, x1, x2, x3, x4, x5, x6⟩ := hx.seven
      have hC := dSay_any ⟨st, ch, fr, bt, us, wo, ho⟩ 4 none 0 0 w2
      unfold encHd at hC
      dsimp only at hC
      go_wp2_with fail
      with_reducible refine hC.mono ?_
      rintro e w9 ⟨rfl, hb9⟩
      have hB9 := hB2.trans (hb9.mono hB2.size)
      replace hr := hr.kept hb9
      clear hC x0 x1 x2 x3 x4 x5 x6 
      obtain ⟨a0, f0, a1, f1, a2, f2, a3, f3, a4, f4, a5, f5, a6, f6, bR⟩ := hr.store7 (.int .i64 4) (.int .i64 ch) (.int .i64 fr) (.int .i64 bt) (.string us) (.string wo) (.string ho)
      have hBz := below_store7 hB9 (B := w.heap.size + 1 + 1) (by omega) (.int .i64 4) (.int .i64 ch) (.int .i64 fr) (.int .i64 bt) (.string us) (.string wo) (.string ho)
      have HS := Lib.hid (DSaid.store7 (w := w9) (n' := w.heap.size) (n := w.heap.size + 1 + 1 + 1) (l := []) (A := none) (k := 0) ⟨rfl, rfl⟩ (by omega) (B := w.heap.size + 1 + 1) (by omega) (.int .i64 4) (.int .i64 ch) (.int .i64 fr) (.int .i64 bt) (.string us) (.string wo) (.string ho))
      obtain ⟨y0, y1, y2, y3, y4, y5, y6⟩ := bR.seven
      clear bR hx hm hr hs0 hB9 
      go_wp2
      first | refine bodyPost_ret (v := .tuple #[.agg #[.int .i64 4, .int .i64 ch, .int .i64 fr, .int .i64 bt, .string us, .string wo, .string ho], .slice none 0 0, .int .i64 0]) ?_ rfl ⟨none, 0, 0, by rw [HG.out] <;> rfl, by rw [HG.out]; exact HS.out, hBz⟩ | refine bodyPost_ret (v := .tuple #[.agg #[.int .i64 4, .int .i64 ch, .int .i64 fr, .int .i64 bt, .string us, .string wo, .string ho], .slice none 0 0, .int .i64 0]) ?_ rfl ⟨none, 0, ⟨0, by rw [HG.out] <;> rfl⟩, by rw [HG.out]; exact HS.out, hBz⟩
      rw [results_ctt rfl]
      simp [asAddr, Result.andThen, go_sem, y0, y1, y2, y3, y4, y5, y6]
  · have HG : Hid (r = dSays ⟨st, ch, fr, bt, us, wo, ho⟩ 4 []) := Lib.hid (by rw [HF.out]; rfl)
    clear HF hJ hw hv hA
    obtain ⟨x0, x1, x2, x3, x4, x5, x6⟩ := hx.seven
    have hC := dSay_any ⟨st, ch, fr, bt, us, wo, ho⟩ 4 none 0 0 w1
    unfold encHd at hC
    dsimp only at hC
    go_wp2_with fail
    with_reducible refine hC.mono ?_
    rintro e w9 ⟨rfl, hb9⟩
    have hB9 := hB.trans (hb9.mono hB.size)
    replace hr := hr.kept hb9
    clear hC x0 x1 x2 x3 x4 x5 x6 
    obtain ⟨a0, f0, a1, f1, a2, f2, a3, f3, a4, f4, a5, f5, a6, f6, bR⟩ := hr.store7 (.int .i64 4) (.int .i64 ch) (.int .i64 fr) (.int .i64 bt) (.string us) (.string wo) (.string ho)
    have hBz := below_store7 hB9 (B := w.heap.size + 1 + 1) (by omega) (.int .i64 4) (.int .i64 ch) (.int .i64 fr) (.int .i64 bt) (.string us) (.string wo) (.string ho)
    have HS := Lib.hid (DSaid.store7 (w := w9) (n' := w.heap.size) (n := w.heap.size + 1 + 1 + 1) (l := []) (A := none) (k := 0) ⟨rfl, rfl⟩ (by omega) (B := w.heap.size + 1 + 1) (by omega) (.int .i64 4) (.int .i64 ch) (.int .i64 fr) (.int .i64 bt) (.string us) (.string wo) (.string ho))
    obtain ⟨y0, y1, y2, y3, y4, y5, y6⟩ := bR.seven
    clear bR hx hm hr hs0 hB9 
    go_wp2
    first | refine bodyPost_ret (v := .tuple #[.agg #[.int .i64 4, .int .i64 ch, .int .i64 fr, .int .i64 bt, .string us, .string wo, .string ho], .slice none 0 0, .int .i64 0]) ?_ rfl ⟨none, 0, 0, by rw [HG.out] <;> rfl, by rw [HG.out]; exact HS.out, hBz⟩ | refine bodyPost_ret (v := .tuple #[.agg #[.int .i64 4, .int .i64 ch, .int .i64 fr, .int .i64 bt, .string us, .string wo, .string ho], .slice none 0 0, .int .i64 0]) ?_ rfl ⟨none, 0, ⟨0, by rw [HG.out] <;> rfl⟩, by rw [HG.out]; exact HS.out, hBz⟩
    rw [results_ctt rfl]
    simp [asAddr, Result.andThen, go_sem, y0, y1, y2, y3, y4, y5, y6]
end Go.Proofs.YtkdiccedkjbpeaaGreatDoorR
