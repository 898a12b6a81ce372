/-
  ServeNames: who a connection is, and where to, is told once, and stays: the law returns true, and changes nothing that was there. Conditions: the table of widths is as its text lays it; the method's values are numbers and texts of fewer than 2^47 bytes, and lie in old memory.
-/
import Derived.Test.YtebkolhibifbpaaDoorPServeK
import Derived.Test.YtebkolhibifbpaaDoorWServe9
namespace Go.Proofs.YtebkolhibifbpaaDoor
open Go.RowKit

set_option maxRecDepth 100000 in
set_option maxHeartbeats 4000000 in
theorem serveNames_walk (h : Hd) (m : Me) (A : Option Addr) (cap : Nat) (w : World) (hw : Wid w) (hv : wfM m) (hA : ValsAt w A (rowV m.l)) : Calls Tryd.prog 5 #[encHd h, encM m A cap] w fun e w' => e = .returned (.bool true) ∧ Below w.heap.size w w' := by
  have hk := take_kind h m
  have hTk := fun W (hb : Below w.heap.size w W) => sTake_any h m A cap W (hw.below hb) hv (hA.below hb)
  have hSh := fun W (hb : Below w.heap.size w W) => shown_any W (hw.below hb)
  generalize hTake h m = r at *
  unfold TnPost encHd encM at hTk
  unfold encHd encM
  unfold TnKind at hk
  obtain ⟨st, ch, fr, bt, us, wo, ho⟩ := h
  obtain ⟨mc, mi, ml⟩ := m
  obtain ⟨⟨p0, p1, p2, p3, p4, p5, p6⟩, ps, pe⟩ := r
  dsimp only at *
  obtain ⟨W0, hW0⟩ : ∃ W0, W0 = (w.alloc (.cells #[.int .i64 st, .int .i64 ch, .int .i64 fr, .int .i64 bt, .string us, .string wo, .string ho] 25)).alloc (.cells #[.int .i64 mc, .int .i64 mi, .slice A ml.length cap] 39) := ⟨_, rfl⟩
  have hb0 : Below w.heap.size w W0 := by rw [hW0]; exact ((Below.refl _ w).alloc (Nat.le_refl _) _).alloc (by simp) _
  have hx : Bx W0 w.heap.size 25 [.int .i64 st, .int .i64 ch, .int .i64 fr, .int .i64 bt, .string us, .string wo, .string ho] := by rw [hW0]; exact (Bx.new w 25 [.int .i64 st, .int .i64 ch, .int .i64 fr, .int .i64 bt, .string us, .string wo, .string ho]).alloc _
  have hm : Bx W0 (w.heap.size + 1) 39 [.int .i64 mc, .int .i64 mi, .slice A ml.length cap] := by
    have h := Bx.new (w.alloc (.cells #[.int .i64 st, .int .i64 ch, .int .i64 fr, .int .i64 bt, .string us, .string wo, .string ho] 25)) 39 [.int .i64 mc, .int .i64 mi, .slice A ml.length cap]
    rw [World.size_alloc] at h
    rw [hW0]; exact h
  have hSh0 := hSh W0 hb0
  clear hw hv hA hSh
  go_enter Tryd.func5, Tryd.ntmps5
  go_wp2_with fail
  rw [← hW0]
  clear hW0
  with_reducible refine hSh0.mono ?_
  rintro e w1 ⟨rfl, hb1⟩
  have hB := hb0.trans (hb1.mono hb0.size)
  replace hx := hx.kept hb1
  replace hm := hm.kept hb1
  clear hSh0 hb0 hb1
  have hT1 := hTk w1 hB
  obtain ⟨x0, x1, x2, x3, x4, x5, x6⟩ := hx.seven
  obtain ⟨m0, m1, m2⟩ := hm.three
  go_wp2_with fail
  with_reducible refine hT1.mono ?_
  rintro e w2 ⟨A2, k2, c2, rfl, hS, hb2⟩
  have hB2 := hB.trans (hb2.mono hB.size)
  replace hx := hx.kept hb2
  replace hm := hm.kept hb2
  clear hTk hT1 hB x0 x1 x2 x3 x4 x5 x6 m0 m1 m2
  obtain ⟨W3, hW3⟩ : ∃ W3, W3 = w2.alloc (.cells #[.int .i64 p0, .int .i64 p1, .int .i64 p2, .int .i64 p3, .string p4, .string p5, .string p6] 25) := ⟨_, rfl⟩
  have hb3 : Below w2.heap.size w2 W3 := by rw [hW3]; exact (Below.refl _ w2).alloc (Nat.le_refl _) _
  have hk3 : Bx W3 w2.heap.size 25 [.int .i64 p0, .int .i64 p1, .int .i64 p2, .int .i64 p3, .string p4, .string p5, .string p6] := by rw [hW3]; exact Bx.new w2 _ _
  have hS3 := hS.below (Nat.zero_le _) hb3
  have hB3 := hB2.trans (hb3.mono hB2.size)
  replace hx := hx.kept hb3
  replace hm := hm.kept hb3
  obtain ⟨x0, x1, x2, x3, x4, x5, x6⟩ := hx.seven
  obtain ⟨m0, m1, m2⟩ := hm.three
  obtain ⟨q0, q1, q2, q3, q4, q5, q6⟩ := hk3.seven
  clear hb2 hB2 hb3 hx hm hk3 hS
  go_upto_region 3 with fail
  rw [← hW3]
  clear hW3
  clear hS3
  rcases hk with ⟨he, hk, -⟩ | ⟨rfl, n, hk⟩ | ⟨rfl, rfl, n, u, p, hk⟩ | ⟨rfl, rfl, n, a, b, c, hk⟩ | ⟨rfl, rfl, n, x, hk⟩
  · have e1 : (pe != 0) = true := bne_iff_ne.2 he
    clear hk
    go_wp2
    go_ret
    exact ⟨rfl, hB3⟩
  · cases hk
    go_wp2
    all_goals
      go_ret
      exact ⟨rfl, hB3⟩
  · cases hk
    go_wp2
    all_goals
      go_ret
      exact ⟨rfl, hB3⟩
  · cases hk
    go_wp2
    all_goals
      go_ret
      exact ⟨rfl, hB3⟩
  · cases hk
    go_wp2
    all_goals
      go_ret
      exact ⟨rfl, hB3⟩
end Go.Proofs.YtebkolhibifbpaaDoor
