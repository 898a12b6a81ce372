/-
  method.Same answers as the plain function says; nothing that was there is changed. Conditions: the values lie in old memory.
-/
import Derived.Test.YtaclpijcfgniiaaGreatDoorMEq
import Derived.Test.YtaclpijcfgniiaaGreatDoorMSameM
import Derived.Test.YtaclpijcfgniiaaGreatDoorJMB
namespace Go.Proofs.YtaclpijcfgniiaaGreatDoor
open Go.RowKit

set_option maxRecDepth 100000 in
set_option maxHeartbeats 2000000 in
theorem msame_any (a b : Me) (A B : Option Addr) (ca cb : Nat) (w : World) (hA : ValsAt w A (rowV a.l)) (hB : ValsAt w B (rowV b.l)) (hl : a.l.length ≤ 9223372036854775807) :
    Calls Tryz.prog 12 #[encM a A ca, encM b B cb] w fun e w' => e = .returned (.bool (sameM a b)) ∧ Below w.heap.size w w' := by
  obtain ⟨c, i, l⟩ := a
  obtain ⟨c', i', m⟩ := b
  unfold encM sameM
  dsimp only at *
  obtain ⟨W0, hW0⟩ : ∃ W0, W0 = (w.alloc (.cells #[.int .i64 c, .int .i64 i, .slice A l.length ca] 24)).alloc (.cells #[.int .i64 c', .int .i64 i', .slice B m.length cb] 24) := ⟨_, rfl⟩
  have hb0 : Below w.heap.size w W0 := by rw [hW0]; exact ((Below.refl _ w).alloc (Nat.le_refl _) _).alloc (by simp) _
  have hx : Bx W0 w.heap.size 24 [.int .i64 c, .int .i64 i, .slice A l.length ca] := by rw [hW0]; exact (Bx.new w 24 [.int .i64 c, .int .i64 i, .slice A l.length ca]).alloc _
  have hy : Bx W0 (w.heap.size + 1) 24 [.int .i64 c', .int .i64 i', .slice B m.length cb] := by
    have h := Bx.new (w.alloc (.cells #[.int .i64 c, .int .i64 i, .slice A l.length ca] 24)) 24 [.int .i64 c', .int .i64 i', .slice B m.length cb]
    rw [World.size_alloc] at h
    rw [hW0]
    exact h
  have x0 := hx.cell 0 (by simp)
  have x1 := hx.cell 1 (by simp)
  have x2 := hx.cell 2 (by simp)
  have y0 := hy.cell 0 (by simp)
  have y1 := hy.cell 1 (by simp)
  have y2 := hy.cell 2 (by simp)
  dsimp only [List.getElem_cons_zero, List.getElem_cons_succ] at x0 x1 x2 y0 y1 y2
  have hE := equalV_any l m A B ca cb W0 (hA.below hb0) (hB.below hb0) hl
  clear hx hy hA hB
  cases t1 : (c == c')
  · simp only [Bool.false_and]
    clear hE
    go_enter Tryz.func12, Tryz.ntmps12
    go_wp2_with fail
    rw [← hW0]
    go_wp2
    go_ret
    exact ⟨rfl, hb0⟩
  · cases t2 : (i == i')
    · simp only [Bool.false_and, Bool.true_and]
      clear hE
      go_enter Tryz.func12, Tryz.ntmps12
      go_wp2_with fail
      rw [← hW0]
      go_wp2
      go_ret
      exact ⟨rfl, hb0⟩
    · simp only [Bool.true_and]
      generalize sameL l m = q at *
      go_enter Tryz.func12, Tryz.ntmps12
      go_wp2_with fail
      rw [← hW0]
      go_wp2_with fail
      refine hE.mono ?_
      rintro e w1 ⟨rfl, hb1⟩
      go_wp2
      go_ret
      exact ⟨rfl, hb0.trans (hb1.mono hb0.size)⟩
end Go.Proofs.YtaclpijcfgniiaaGreatDoor
