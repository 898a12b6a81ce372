/-
  method.has and Arg, and the document's own Arg, answer one of a method's values, or nothing; nothing that was there is changed. Condition: the values lie in old memory.
-/
import Derived.Laws.ResultCell
import Derived.Test.YtebkolhibifbpaaGreatDoorJMem
import Derived.Test.YtebkolhibifbpaaGreatDoorJMV
import Derived.Test.YtebkolhibifbpaaGreatDoorWMBytes
namespace Go.Proofs.YtebkolhibifbpaaGreatDoor
open Go.RowKit

set_option maxHeartbeats 1000000 in
theorem has_any (m : Me) (A : Option Addr) (cap : Nat) (i : Int) (w : World) :
    Calls Tryz.prog 51 #[encM m A cap, .int .i64 i] w fun e w' => e = .returned (.bool (decide (0 ≤ i) && decide (i < m.l.length))) ∧ Below w.heap.size w w' := by
  obtain ⟨c, j, l⟩ := m
  unfold encM
  dsimp only
  have hb0 : Below w.heap.size w (w.alloc (.cells #[.int .i64 c, .int .i64 j, .slice A l.length cap] 37)) := (Below.refl _ w).alloc (Nat.le_refl _) _
  generalize l.length = n at hb0 ⊢
  by_cases h : 0 ≤ i
  · have h1 : decide (0 ≤ i) = true := by simpa using h
    rw [h1, Bool.true_and]
    go_enter Tryz.func51, Tryz.ntmps51
    go_wp2
    go_ret
    exact ⟨rfl, hb0⟩
  · have h1 : decide (0 ≤ i) = false := by simpa using h
    rw [h1, Bool.false_and]
    go_enter Tryz.func51, Tryz.ntmps51
    go_wp2
    go_ret
    exact ⟨rfl, hb0⟩

set_option maxHeartbeats 1000000 in
theorem arg_any (m : Me) (A : Option Addr) (cap : Nat) (i : Int) (w : World) (hA : ValsAt w A (rowV m.l)) :
    Calls Tryz.prog 39 #[encM m A cap, .int .i64 i] w fun e w' => e = .returned (encV (argV m.l i)) ∧ Below w.heap.size w w' := by
  have hH := has_any m A cap i ((w.alloc (.cells #[.int .i64 m.c, .int .i64 m.i, .slice A m.l.length cap] 37)).alloc (.cells #[.int .u64 0, .string ⟨#[]⟩] 44))
  have hb0 : Below w.heap.size w ((w.alloc (.cells #[.int .i64 m.c, .int .i64 m.i, .slice A m.l.length cap] 37)).alloc (.cells #[.int .u64 0, .string ⟨#[]⟩] 44)) := ((Below.refl _ w).alloc (Nat.le_refl _) _).alloc (by simp) _
  have hx := (Bx.new w 37 [.int .i64 m.c, .int .i64 m.i, .slice A m.l.length cap]).alloc (.cells #[.int .u64 0, .string ⟨#[]⟩] 44)
  have hy := Bx.new (w.alloc (.cells #[.int .i64 m.c, .int .i64 m.i, .slice A m.l.length cap] 37)) 44 [.int .u64 0, .string ⟨#[]⟩]
  rw [World.size_alloc] at hy
  obtain ⟨c, j, l⟩ := m
  unfold encM at hH ⊢
  dsimp only at *
  rcases int_cases i l.length with hi | ⟨k, rfl, hk⟩ | ⟨k, rfl, hk⟩
  · have hb : (decide (0 ≤ i) && decide (i < (l.length : Int))) = false := by simp; omega
    rw [hb] at hH
    rw [argV_low l hi]
    clear hb hi
    go_enter Tryz.func39, Tryz.ntmps39
    go_wp2_with fail
    refine hH.mono ?_
    rintro e w1 ⟨rfl, hb1⟩
    have hB := hb0.trans (hb1.mono hb0.size)
    obtain ⟨a0, f0, a1, f1, bR⟩ := (hy.kept hb1).store2 (.int .u64 0) (.string ⟨#[]⟩)
    have hB2 := below_store2 hB (B := w.heap.size + 1) (by omega) (.int .u64 0) (.string ⟨#[]⟩)
    clear hH hx hy hb0 hb1 hB hA
    go_wp2
    have y0 := bR.cell 0 (by simp)
    have y1 := bR.cell 1 (by simp)
    dsimp only [List.getElem_cons_zero, List.getElem_cons_succ] at y0 y1
    refine bodyPost_ret (v := encV noV) ?_ rfl ⟨rfl, hB2⟩
    rw [results_cell rfl]
    simp [asAddr, Result.andThen, go_sem, y0, y1, encV, noV]
  · have hb : (decide (0 ≤ (k : Int)) && decide ((k : Int) < (l.length : Int))) = true := by simp; omega
    rw [hb] at hH
    rw [argV_at l k hk]
    obtain ⟨b0, off, rfl, hbl, hc⟩ := vals_v hA (by omega)
    obtain ⟨x0, x1⟩ := hc k hk
    generalize l[k] = v at x0 x1 ⊢
    obtain ⟨nn, ss⟩ := v
    dsimp only at x0 x1
    clear hb hc
    go_enter Tryz.func39, Tryz.ntmps39
    go_wp2_with fail
    refine hH.mono ?_
    rintro e w1 ⟨rfl, hb1⟩
    have hB := hb0.trans (hb1.mono hb0.size)
    have z0 := (hB.cell (p := ⟨b0, off + k * 2, none⟩) hbl).trans x0
    have z1 := (hB.cell (p := ⟨b0, off + k * 2 + 1, none⟩) hbl).trans x1
    have z2 := (hx.kept hb1).cell 2 (by simp)
    dsimp only [List.getElem_cons_zero, List.getElem_cons_succ] at z2
    obtain ⟨a0, f0, a1, f1, bR⟩ := (hy.kept hb1).store2 (.int .u64 nn) (.string ss)
    have hB2 := below_store2 hB (B := w.heap.size + 1) (by omega) (.int .u64 nn) (.string ss)
    clear hH hx hy hb0 hb1 hB hA x0 x1
    go_wp2
    have y0 := bR.cell 0 (by simp)
    have y1 := bR.cell 1 (by simp)
    dsimp only [List.getElem_cons_zero, List.getElem_cons_succ] at y0 y1
    refine bodyPost_ret (v := encV ⟨nn, ss⟩) ?_ rfl ⟨rfl, hB2⟩
    rw [results_cell rfl]
    simp [asAddr, Result.andThen, go_sem, y0, y1, encV]
  · have hb : (decide (0 ≤ (k : Int)) && decide ((k : Int) < (l.length : Int))) = false := by simp; omega
    rw [hb] at hH
    rw [argV_high l k hk]
    clear hb
    go_enter Tryz.func39, Tryz.ntmps39
    go_wp2_with fail
    refine hH.mono ?_
    rintro e w1 ⟨rfl, hb1⟩
    have hB := hb0.trans (hb1.mono hb0.size)
    obtain ⟨a0, f0, a1, f1, bR⟩ := (hy.kept hb1).store2 (.int .u64 0) (.string ⟨#[]⟩)
    have hB2 := below_store2 hB (B := w.heap.size + 1) (by omega) (.int .u64 0) (.string ⟨#[]⟩)
    clear hH hx hy hb0 hb1 hB hA
    go_wp2
    have y0 := bR.cell 0 (by simp)
    have y1 := bR.cell 1 (by simp)
    dsimp only [List.getElem_cons_zero, List.getElem_cons_succ] at y0 y1
    refine bodyPost_ret (v := encV noV) ?_ rfl ⟨rfl, hB2⟩
    rw [results_cell rfl]
    simp [asAddr, Result.andThen, go_sem, y0, y1, encV, noV]
end Go.Proofs.YtebkolhibifbpaaGreatDoor
