/-
  A command's method and head in memory of their own; nothing that was there is changed. Conditions: the values lie in old memory, of at most 2^47 bytes.
-/
import Derived.Laws.ResultCell
import Derived.Test.YtllgkohgcicbhaaGreatDoorWMClone
import Derived.Test.YtllgkohgcicbhaaGreatDoorZJ
import Derived.Test.YtllgkohgcicbhaaGreatDoorZG
import Derived.Test.YtllgkohgcicbhaaGreatDoorMCm
namespace Go.Proofs.YtllgkohgcicbhaaGreatDoor
open Go.RowKit

set_option maxRecDepth 100000 in
set_option maxHeartbeats 2000000 in
theorem ownMethod_any (c : Cm) (A B : Option Addr) (ca cb : Nat) (w : World) (hc : CmAt w c A B ca cb) (hl : c.m.l.length * 24 ≤ 140737488355328) :
    Calls Tryz.prog 65 #[encC c A B ca cb] w fun e w' => ∃ A1 c1, e = .returned (encM c.m A1 c1) ∧ ValsAt w' A1 (rowV c.m.l) ∧ (A1 = none → c.m.l.length = 0 ∧ c1 = 0) ∧ Below w.heap.size w w' := by
  obtain ⟨W0, hW0⟩ : ∃ W0, W0 = ((w.alloc (.cells (cellsC c A B ca cb).toArray 66)).alloc (.cells #[.int .i64 0, .int .i64 0, .slice none 0 0] 24)).alloc (.cells #[.int .i64 c.m.c, .int .i64 c.m.i, .slice A c.m.l.length ca] 24) := ⟨_, rfl⟩
  have hb0 : Below w.heap.size w W0 := by rw [hW0]; exact (((Below.refl _ w).alloc (Nat.le_refl _) _).alloc (by simp) _).alloc (by simp; omega) _
  have hx : Bx W0 w.heap.size 66 (cellsC c A B ca cb) := by rw [hW0]; exact ((Bx.new w 66 (cellsC c A B ca cb)).alloc _).alloc _
  have hr : Bx W0 (w.heap.size + 1) 24 [.int .i64 0, .int .i64 0, .slice none 0 0] := by
    have h := (Bx.new (w.alloc (.cells (cellsC c A B ca cb).toArray 66)) 24 [.int .i64 0, .int .i64 0, .slice none 0 0]).alloc (.cells #[.int .i64 c.m.c, .int .i64 c.m.i, .slice A c.m.l.length ca] 24)
    rw [World.size_alloc] at h
    rw [hW0]; exact h
  have hp : Bx W0 (w.heap.size + 1 + 1) 24 [.int .i64 c.m.c, .int .i64 c.m.i, .slice A c.m.l.length ca] := by
    have h := Bx.new ((w.alloc (.cells (cellsC c A B ca cb).toArray 66)).alloc (.cells #[.int .i64 0, .int .i64 0, .slice none 0 0] 24)) 24 [.int .i64 c.m.c, .int .i64 c.m.i, .slice A c.m.l.length ca]
    rw [World.size_alloc, World.size_alloc] at h
    rw [hW0]; exact h
  have hC := clone_any A ca c.m.l W0 (hc.va.below hb0) hc.na hl
  clear hc hl
  unfold encC
  unfold cellsC at hW0 hx
  unfold encM
  obtain ⟨⟨mc, mi, ml⟩, ⟨hc', hz', hf, hl⟩, sb⟩ := c
  dsimp only at *
  have p2 := hp.cell 2 (by simp)
  dsimp only [List.getElem_cons_zero, List.getElem_cons_succ] at p2
  rw [hW0] at p2
  go_enter Tryz.func65, Tryz.ntmps65
  go_wp2_with fail
  rw [← hW0]
  clear hW0 p2
  with_reducible refine hC.mono ?_
  rintro e w1 ⟨v, rfl, hrow, hb1⟩
  obtain ⟨A1, c1, rfl, -, hn1⟩ := row_form hrow
  have HN := Lib.hid hn1
  have hB1 := hb0.trans (hb1.mono hb0.size)
  have hr1 := hr.kept hb1
  have hp1 := hp.kept hb1
  have q0 := hp1.cell 2 (by simp)
  have q1 := hp1.frozen 2
  dsimp only [List.getElem_cons_zero, List.getElem_cons_succ] at q0
  have hp2 := hp1.set 2 (.slice A1 ml.length c1)
  dsimp only [List.set_cons_zero, List.set_cons_succ] at hp2
  have hr2 := hr1.other (B' := w.heap.size + 1 + 1) (by omega) 2 (.slice A1 ml.length c1)
  have hB2 := hB1.setCell (p := ⟨w.heap.size + 1 + 1, 2, none⟩) (by simp; omega) (.slice A1 ml.length c1)
  obtain ⟨a0, f0, a1, f1, a2, f2, bR⟩ := hr2.store3 (.int .i64 mc) (.int .i64 mi) (.slice A1 ml.length c1)
  have hB3 := below_store3 hB2 (B := w.heap.size + 1) (by omega) (.int .i64 mc) (.int .i64 mi) (.slice A1 ml.length c1)
  have y0 := bR.cell 0 (by simp)
  have y1 := bR.cell 1 (by simp)
  have y2 := bR.cell 2 (by simp)
  have z0 := hp2.cell 0 (by simp)
  have z1 := hp2.cell 1 (by simp)
  have z2 := hp2.cell 2 (by simp)
  dsimp only [List.getElem_cons_zero, List.getElem_cons_succ] at y0 z0 y1 z1 y2 z2
  have k0 : Keeps (fun t => t != 24) w1 (w1.setCell ⟨w.heap.size + 1 + 1, 2, none⟩ (.slice A1 ml.length c1)) := Keeps.setCell (show w1.heap[w.heap.size + 1 + 1]? = _ from hp1) (by decide) 2 _
  have k1 : Keeps (fun t => t != 24) (w1.setCell ⟨w.heap.size + 1 + 1, 2, none⟩ (.slice A1 ml.length c1)) ((w1.setCell ⟨w.heap.size + 1 + 1, 2, none⟩ (.slice A1 ml.length c1)).setCell ⟨w.heap.size + 1, 0, none⟩ (.int .i64 mc)) := Keeps.setCell (show _ = _ from hr2) (by decide) 0 _
  have k2 : Keeps (fun t => t != 24) ((w1.setCell ⟨w.heap.size + 1 + 1, 2, none⟩ (.slice A1 ml.length c1)).setCell ⟨w.heap.size + 1, 0, none⟩ (.int .i64 mc)) (((w1.setCell ⟨w.heap.size + 1 + 1, 2, none⟩ (.slice A1 ml.length c1)).setCell ⟨w.heap.size + 1, 0, none⟩ (.int .i64 mc)).setCell ⟨w.heap.size + 1, 1, none⟩ (.int .i64 mi)) := Keeps.setCell (show _ = _ from (hr2.set 0 (.int .i64 mc))) (by decide) 1 _
  have k3 : Keeps (fun t => t != 24) (((w1.setCell ⟨w.heap.size + 1 + 1, 2, none⟩ (.slice A1 ml.length c1)).setCell ⟨w.heap.size + 1, 0, none⟩ (.int .i64 mc)).setCell ⟨w.heap.size + 1, 1, none⟩ (.int .i64 mi)) ((((w1.setCell ⟨w.heap.size + 1 + 1, 2, none⟩ (.slice A1 ml.length c1)).setCell ⟨w.heap.size + 1, 0, none⟩ (.int .i64 mc)).setCell ⟨w.heap.size + 1, 1, none⟩ (.int .i64 mi)).setCell ⟨w.heap.size + 1, 2, none⟩ (.slice A1 ml.length c1)) := Keeps.setCell (show _ = _ from ((hr2.set 0 (.int .i64 mc)).set 1 (.int .i64 mi))) (by decide) 2 _
  have HV : Hid (ValsAt ((((w1.setCell ⟨w.heap.size + 1 + 1, 2, none⟩ (.slice A1 ml.length c1)).setCell ⟨w.heap.size + 1, 0, none⟩ (.int .i64 mc)).setCell ⟨w.heap.size + 1, 1, none⟩ (.int .i64 mi)).setCell ⟨w.heap.size + 1, 2, none⟩ (.slice A1 ml.length c1)) A1 (rowV ml)) := Lib.hid (by
    obtain ⟨A', c', e', hV', -⟩ := row_form ((((k0.trans k1).trans k2).trans k3).row hrow (by decide))
    cases e'
    exact hV')
  clear hC hb0 hb1 hn1 hr hp hr1 hp1 hp2 hr2 bR hrow hB1 hB2 hx k0 k1 k2 k3
  go_wp2
  refine bodyPost_ret (v := .agg #[.int .i64 mc, .int .i64 mi, .slice A1 ml.length c1]) ?_ rfl ⟨A1, c1, rfl, HV.out, HN.out, hB3⟩
  rw [results_cell rfl]
  simp [asAddr, Result.andThen, go_sem, y0, y1, y2]

set_option maxRecDepth 100000 in
set_option maxHeartbeats 2000000 in
theorem ownHead_any (c : Cm) (A B : Option Addr) (ca cb : Nat) (w : World) (hc : CmAt w c A B ca cb) (hl : c.h.l.length * 24 ≤ 140737488355328) :
    Calls Tryz.prog 66 #[encC c A B ca cb] w fun e w' => ∃ A1 c1, e = .returned (encH c.h A1 c1) ∧ ValsAt w' A1 (rowV c.h.l) ∧ (A1 = none → c.h.l.length = 0 ∧ c1 = 0) ∧ Below w.heap.size w w' := by
  obtain ⟨W0, hW0⟩ : ∃ W0, W0 = ((w.alloc (.cells (cellsC c A B ca cb).toArray 66)).alloc (.cells #[.int .i64 0, .int .u64 0, .int .u64 0, .slice none 0 0] 27)).alloc (.cells #[.int .i64 c.h.c, .int .u64 c.h.z, .int .u64 c.h.f, .slice B c.h.l.length cb] 27) := ⟨_, rfl⟩
  have hb0 : Below w.heap.size w W0 := by rw [hW0]; exact (((Below.refl _ w).alloc (Nat.le_refl _) _).alloc (by simp) _).alloc (by simp; omega) _
  have hx : Bx W0 w.heap.size 66 (cellsC c A B ca cb) := by rw [hW0]; exact ((Bx.new w 66 (cellsC c A B ca cb)).alloc _).alloc _
  have hr : Bx W0 (w.heap.size + 1) 27 [.int .i64 0, .int .u64 0, .int .u64 0, .slice none 0 0] := by
    have h := (Bx.new (w.alloc (.cells (cellsC c A B ca cb).toArray 66)) 27 [.int .i64 0, .int .u64 0, .int .u64 0, .slice none 0 0]).alloc (.cells #[.int .i64 c.h.c, .int .u64 c.h.z, .int .u64 c.h.f, .slice B c.h.l.length cb] 27)
    rw [World.size_alloc] at h
    rw [hW0]; exact h
  have hp : Bx W0 (w.heap.size + 1 + 1) 27 [.int .i64 c.h.c, .int .u64 c.h.z, .int .u64 c.h.f, .slice B c.h.l.length cb] := by
    have h := Bx.new ((w.alloc (.cells (cellsC c A B ca cb).toArray 66)).alloc (.cells #[.int .i64 0, .int .u64 0, .int .u64 0, .slice none 0 0] 27)) 27 [.int .i64 c.h.c, .int .u64 c.h.z, .int .u64 c.h.f, .slice B c.h.l.length cb]
    rw [World.size_alloc, World.size_alloc] at h
    rw [hW0]; exact h
  have hC := clone_any B cb c.h.l W0 (hc.vb.below hb0) hc.nb hl
  clear hc hl
  unfold encC
  unfold cellsC at hW0 hx
  unfold encH
  obtain ⟨⟨mc, mi, ml⟩, ⟨hc', hz', hf, hl⟩, sb⟩ := c
  dsimp only at *
  have p3 := hp.cell 3 (by simp)
  dsimp only [List.getElem_cons_zero, List.getElem_cons_succ] at p3
  rw [hW0] at p3
  go_enter Tryz.func66, Tryz.ntmps66
  go_wp2_with fail
  rw [← hW0]
  clear hW0 p3
  with_reducible refine hC.mono ?_
  rintro e w1 ⟨v, rfl, hrow, hb1⟩
  obtain ⟨A1, c1, rfl, -, hn1⟩ := row_form hrow
  have HN := Lib.hid hn1
  have hB1 := hb0.trans (hb1.mono hb0.size)
  have hr1 := hr.kept hb1
  have hp1 := hp.kept hb1
  have q0 := hp1.cell 3 (by simp)
  have q1 := hp1.frozen 3
  dsimp only [List.getElem_cons_zero, List.getElem_cons_succ] at q0
  have hp2 := hp1.set 3 (.slice A1 hl.length c1)
  dsimp only [List.set_cons_zero, List.set_cons_succ] at hp2
  have hr2 := hr1.other (B' := w.heap.size + 1 + 1) (by omega) 3 (.slice A1 hl.length c1)
  have hB2 := hB1.setCell (p := ⟨w.heap.size + 1 + 1, 3, none⟩) (by simp; omega) (.slice A1 hl.length c1)
  obtain ⟨a0, f0, a1, f1, a2, f2, a3, f3, bR⟩ := hr2.store4 (.int .i64 hc') (.int .u64 hz') (.int .u64 hf) (.slice A1 hl.length c1)
  have hB3 := below_store4 hB2 (B := w.heap.size + 1) (by omega) (.int .i64 hc') (.int .u64 hz') (.int .u64 hf) (.slice A1 hl.length c1)
  have y0 := bR.cell 0 (by simp)
  have y1 := bR.cell 1 (by simp)
  have y2 := bR.cell 2 (by simp)
  have y3 := bR.cell 3 (by simp)
  have z0 := hp2.cell 0 (by simp)
  have z1 := hp2.cell 1 (by simp)
  have z2 := hp2.cell 2 (by simp)
  have z3 := hp2.cell 3 (by simp)
  dsimp only [List.getElem_cons_zero, List.getElem_cons_succ] at y0 z0 y1 z1 y2 z2 y3 z3
  have k0 : Keeps (fun t => t != 27) w1 (w1.setCell ⟨w.heap.size + 1 + 1, 3, none⟩ (.slice A1 hl.length c1)) := Keeps.setCell (show w1.heap[w.heap.size + 1 + 1]? = _ from hp1) (by decide) 3 _
  have k1 : Keeps (fun t => t != 27) (w1.setCell ⟨w.heap.size + 1 + 1, 3, none⟩ (.slice A1 hl.length c1)) ((w1.setCell ⟨w.heap.size + 1 + 1, 3, none⟩ (.slice A1 hl.length c1)).setCell ⟨w.heap.size + 1, 0, none⟩ (.int .i64 hc')) := Keeps.setCell (show _ = _ from hr2) (by decide) 0 _
  have k2 : Keeps (fun t => t != 27) ((w1.setCell ⟨w.heap.size + 1 + 1, 3, none⟩ (.slice A1 hl.length c1)).setCell ⟨w.heap.size + 1, 0, none⟩ (.int .i64 hc')) (((w1.setCell ⟨w.heap.size + 1 + 1, 3, none⟩ (.slice A1 hl.length c1)).setCell ⟨w.heap.size + 1, 0, none⟩ (.int .i64 hc')).setCell ⟨w.heap.size + 1, 1, none⟩ (.int .u64 hz')) := Keeps.setCell (show _ = _ from (hr2.set 0 (.int .i64 hc'))) (by decide) 1 _
  have k3 : Keeps (fun t => t != 27) (((w1.setCell ⟨w.heap.size + 1 + 1, 3, none⟩ (.slice A1 hl.length c1)).setCell ⟨w.heap.size + 1, 0, none⟩ (.int .i64 hc')).setCell ⟨w.heap.size + 1, 1, none⟩ (.int .u64 hz')) ((((w1.setCell ⟨w.heap.size + 1 + 1, 3, none⟩ (.slice A1 hl.length c1)).setCell ⟨w.heap.size + 1, 0, none⟩ (.int .i64 hc')).setCell ⟨w.heap.size + 1, 1, none⟩ (.int .u64 hz')).setCell ⟨w.heap.size + 1, 2, none⟩ (.int .u64 hf)) := Keeps.setCell (show _ = _ from ((hr2.set 0 (.int .i64 hc')).set 1 (.int .u64 hz'))) (by decide) 2 _
  have k4 : Keeps (fun t => t != 27) ((((w1.setCell ⟨w.heap.size + 1 + 1, 3, none⟩ (.slice A1 hl.length c1)).setCell ⟨w.heap.size + 1, 0, none⟩ (.int .i64 hc')).setCell ⟨w.heap.size + 1, 1, none⟩ (.int .u64 hz')).setCell ⟨w.heap.size + 1, 2, none⟩ (.int .u64 hf)) (((((w1.setCell ⟨w.heap.size + 1 + 1, 3, none⟩ (.slice A1 hl.length c1)).setCell ⟨w.heap.size + 1, 0, none⟩ (.int .i64 hc')).setCell ⟨w.heap.size + 1, 1, none⟩ (.int .u64 hz')).setCell ⟨w.heap.size + 1, 2, none⟩ (.int .u64 hf)).setCell ⟨w.heap.size + 1, 3, none⟩ (.slice A1 hl.length c1)) := Keeps.setCell (show _ = _ from (((hr2.set 0 (.int .i64 hc')).set 1 (.int .u64 hz')).set 2 (.int .u64 hf))) (by decide) 3 _
  have HV : Hid (ValsAt (((((w1.setCell ⟨w.heap.size + 1 + 1, 3, none⟩ (.slice A1 hl.length c1)).setCell ⟨w.heap.size + 1, 0, none⟩ (.int .i64 hc')).setCell ⟨w.heap.size + 1, 1, none⟩ (.int .u64 hz')).setCell ⟨w.heap.size + 1, 2, none⟩ (.int .u64 hf)).setCell ⟨w.heap.size + 1, 3, none⟩ (.slice A1 hl.length c1)) A1 (rowV hl)) := Lib.hid (by
    obtain ⟨A', c', e', hV', -⟩ := row_form (((((k0.trans k1).trans k2).trans k3).trans k4).row hrow (by decide))
    cases e'
    exact hV')
  clear hC hb0 hb1 hn1 hr hp hr1 hp1 hp2 hr2 bR hrow hB1 hB2 hx k0 k1 k2 k3 k4
  go_wp2
  refine bodyPost_ret (v := .agg #[.int .i64 hc', .int .u64 hz', .int .u64 hf, .slice A1 hl.length c1]) ?_ rfl ⟨A1, c1, rfl, HV.out, HN.out, hB3⟩
  rw [results_cell rfl]
  simp [asAddr, Result.andThen, go_sem, y0, y1, y2, y3]
end Go.Proofs.YtllgkohgcicbhaaGreatDoor
