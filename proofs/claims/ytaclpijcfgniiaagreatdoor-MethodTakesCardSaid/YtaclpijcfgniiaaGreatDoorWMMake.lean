/-
  method.Make answers the method, its values in memory of its own, or why there is none; nothing that was there is changed. Conditions: the package num's table of widths holds 1, 2, 4, 8; the values lie in old memory, each number a uint64, each text shorter than 2^47 bytes.
-/
import Derived.Test.YtaclpijcfgniiaaGreatDoorWMClone
import Derived.Test.YtaclpijcfgniiaaGreatDoorMWf
import Derived.Test.YtaclpijcfgniiaaGreatDoorJMB
namespace Go.Proofs.YtaclpijcfgniiaaGreatDoor
open Go.RowKit

/-- what Make answers -/
def MkP (m : Me) (q : Int) (w : World) (e : Ending) (w' : World) : Prop :=
  (q = 0 ∧ ∃ A cap, e = .returned (.tuple #[encM m A cap, .int .i64 0]) ∧ ValsAt w' A (rowV m.l) ∧ (A = none → m.l.length = 0 ∧ cap = 0) ∧ Below w.heap.size w w') ∨
  (¬ q = 0 ∧ e = .returned (.tuple #[noneM, .int .i64 q]) ∧ Below w.heap.size w w')

set_option maxRecDepth 100000 in
set_option maxHeartbeats 2000000 in
theorem mmake_any (m : Me) (A : Option Addr) (cap : Nat) (w : World) (hw : Wid w) (hm : wfM m) (hA : ValsAt w A (rowV m.l)) (h0 : A = none → m.l.length = 0 ∧ cap = 0) (hl : m.l.length * 24 ≤ 140737488355328) :
    Calls Tryz.prog 9 #[.int .i64 m.c, .int .i64 m.i, .slice A m.l.length cap] w (MkP m (mE m) w) := by
  obtain ⟨W0, hW0⟩ : ∃ W0, W0 = w.alloc (.cells #[.int .i64 0, .int .i64 0, .slice none 0 0] 24) := ⟨_, rfl⟩
  have hb0 : Below w.heap.size w W0 := by rw [hW0]; exact (Below.refl _ w).alloc (Nat.le_refl _) _
  have hr0 : Bx W0 w.heap.size 24 [.int .i64 0, .int .i64 0, .slice none 0 0] := by rw [hW0]; exact Bx.new w 24 _
  have hC := clone_any A cap m.l W0 (hA.below hb0) h0 hl
  have hR := fun A1 c1 W hW hV => mright_any m A1 c1 W hW hm hV
  clear hA h0 hl
  unfold encM at hR
  generalize mE m = q at hR ⊢
  go_enter Tryz.func9, Tryz.ntmps9
  go_wp2_with fail
  rw [← hW0]
  clear hW0
  go_wp2_with fail
  with_reducible refine hC.mono ?_
  rintro e w1 ⟨v1, rfl, hrow1, hb1⟩
  obtain ⟨A1, c1, rfl, hV1, hn1⟩ := row_form hrow1
  have HN := Lib.hid hn1
  obtain ⟨W2, hW2⟩ : ∃ W2, W2 = w1.alloc (.cells #[.int .i64 m.c, .int .i64 m.i, .slice A1 m.l.length c1] 24) := ⟨_, rfl⟩
  have hbn : Below w1.heap.size w1 W2 := by rw [hW2]; exact (Below.refl _ w1).alloc (Nat.le_refl _) _
  have hp2 : Bx W2 w1.heap.size 24 [.int .i64 m.c, .int .i64 m.i, .slice A1 m.l.length c1] := by rw [hW2]; exact Bx.new w1 24 _
  have hB1 := hb0.trans (hb1.mono hb0.size)
  have hB2 := hB1.trans (hbn.mono hB1.size)
  have hr2 := (hr0.kept hb1).kept hbn
  have hV2 := hV1.below hbn
  have hrow2 := rowKept hrow1 hbn
  have x0 := hp2.cell 0 (by simp)
  have x1 := hp2.cell 1 (by simp)
  have x2 := hp2.cell 2 (by simp)
  dsimp only [List.getElem_cons_zero, List.getElem_cons_succ] at x0 x1 x2
  rw [hW2] at x0 x1 x2
  clear hC hb0 hr0 hrow1 hb1 hV1 hn1 hbn hB1
  go_wp2_with fail
  rw [← hW2]
  clear hW2 x0 x1 x2
  with_reducible refine (hR A1 c1 W2 (hw.below hB2) hV2).mono ?_
  rintro e w3 ⟨rfl, hb3⟩
  have hB3 := hB2.trans (hb3.mono hB2.size)
  have hr3 := hr2.kept hb3
  have hp3 := hp2.kept hb3
  have hrow3 := rowKept hrow2 hb3
  clear hR hB2 hr2 hp2 hrow2 hb3 hV2
  by_cases hq : q = 0
  · subst hq
    obtain ⟨a0, f0, a1, f1, a2, f2, bR⟩ := hr3.store3 (.int .i64 m.c) (.int .i64 m.i) (.slice A1 m.l.length c1)
    have hB4 := below_store3 hB3 (B := w.heap.size) (Nat.le_refl _) (.int .i64 m.c) (.int .i64 m.i) (.slice A1 m.l.length c1)
    have HV4 : Hid (ValsAt (((w3.setCell ⟨w.heap.size, 0, none⟩ (.int .i64 m.c)).setCell ⟨w.heap.size, 1, none⟩ (.int .i64 m.i)).setCell ⟨w.heap.size, 2, none⟩ (.slice A1 m.l.length c1)) A1 (rowV m.l)) := Lib.hid (by
      have k1 : Keeps (fun t => t != 24) w3 (w3.setCell ⟨w.heap.size, 0, none⟩ (.int .i64 m.c)) := Keeps.setCell (show w3.heap[w.heap.size]? = _ from hr3) (by decide) 0 _
      have k2 : Keeps (fun t => t != 24) _ ((w3.setCell ⟨w.heap.size, 0, none⟩ (.int .i64 m.c)).setCell ⟨w.heap.size, 1, none⟩ (.int .i64 m.i)) := Keeps.setCell (show _ = _ from hr3.set 0 (.int .i64 m.c)) (by decide) 1 _
      have k3 : Keeps (fun t => t != 24) _ (((w3.setCell ⟨w.heap.size, 0, none⟩ (.int .i64 m.c)).setCell ⟨w.heap.size, 1, none⟩ (.int .i64 m.i)).setCell ⟨w.heap.size, 2, none⟩ (.slice A1 m.l.length c1)) := Keeps.setCell (show _ = _ from (hr3.set 0 (.int .i64 m.c)).set 1 (.int .i64 m.i)) (by decide) 2 _
      obtain ⟨A', c', e', hV', -⟩ := row_form (((k1.trans k2).trans k3).row hrow3 (by decide))
      cases e'
      exact hV')
    have x0 := hp3.cell 0 (by simp)
    have x1 := hp3.cell 1 (by simp)
    have x2 := hp3.cell 2 (by simp)
    have y0 := bR.cell 0 (by simp)
    have y1 := bR.cell 1 (by simp)
    have y2 := bR.cell 2 (by simp)
    dsimp only [List.getElem_cons_zero, List.getElem_cons_succ] at x0 x1 x2 y0 y1 y2
    clear hr3 hp3 hrow3 hB3 bR
    go_wp2
    refine bodyPost_ret (v := .tuple #[encM m A1 c1, .int .i64 0]) ?_ rfl (Or.inl ⟨rfl, A1, c1, rfl, HV4.out, HN.out, hB4⟩)
    rw [results_cell_tmp rfl]
    simp [asAddr, Result.andThen, go_sem, y0, y1, y2, encM]
  · have t : (q != 0) = true := by simpa using hq
    have HQ := Lib.hid hq
    obtain ⟨a0, f0, a1, f1, a2, f2, bR⟩ := hr3.store3 (.int .i64 0) (.int .i64 0) (.slice none 0 0)
    have hB4 := below_store3 hB3 (B := w.heap.size) (Nat.le_refl _) (.int .i64 0) (.int .i64 0) (.slice none 0 0)
    have y0 := bR.cell 0 (by simp)
    have y1 := bR.cell 1 (by simp)
    have y2 := bR.cell 2 (by simp)
    dsimp only [List.getElem_cons_zero, List.getElem_cons_succ] at y0 y1 y2
    clear hr3 hp3 hrow3 hB3 bR hq
    go_wp2
    refine bodyPost_ret (v := .tuple #[noneM, .int .i64 q]) ?_ rfl (Or.inr ⟨HQ.out, rfl, hB4⟩)
    rw [results_cell_tmp rfl]
    simp [asAddr, Result.andThen, go_sem, y0, y1, y2, noneM]
end Go.Proofs.YtaclpijcfgniiaaGreatDoor
