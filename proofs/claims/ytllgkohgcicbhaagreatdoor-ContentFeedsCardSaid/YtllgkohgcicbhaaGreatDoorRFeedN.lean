/-
  The document's own no answers an error and nothing else; its own Feed refuses what is fed in a state that is none, and a frame of a type that isn't waited for; nothing that was there is changed. No condition.
-/
import Derived.Deep.DeepCutAuto
import Derived.Test.YtllgkohgcicbhaaGreatDoorWFeedC
namespace Go.Proofs.YtllgkohgcicbhaaGreatDoor
open Go.RowKit

set_option maxRecDepth 100000 in
set_option maxHeartbeats 4000000 in
theorem rno_any (er : Int) (w : World) : Calls Tryz.prog 21 #[.int .i64 er] w fun e w' => e = .returned (.tuple #[.agg #[.int .i64 0, .int .i64 0, .int .i64 0, .slice none 0 0, .int .i64 0, .int .u64 0, .int .u64 0, .slice none 0 0, .string ⟨#[]⟩], .agg #[.int .i64 0, .int .i64 0, .slice none 0 0, .int .i64 0, .int .u64 0, .int .u64 0, .slice none 0 0, .string ⟨#[]⟩], .bool false, .int .i64 er]) ∧ Below w.heap.size w w' := by
 obtain ⟨W0, hW0⟩ : ∃ W0, W0 = (w.alloc (.cells #[.int .i64 0, .int .i64 0, .int .i64 0, .slice none 0 0, .int .i64 0, .int .u64 0, .int .u64 0, .slice none 0 0, .string ⟨#[]⟩] 31)).alloc (.cells #[.int .i64 0, .int .i64 0, .slice none 0 0, .int .i64 0, .int .u64 0, .int .u64 0, .slice none 0 0, .string ⟨#[]⟩] 29) := ⟨_, rfl⟩
 have hb0 : Below w.heap.size w W0 := by rw [hW0]; exact ((Below.refl _ w).alloc (Nat.le_refl _) _).alloc (by simp) _
 have hr : Bx W0 w.heap.size 31 [.int .i64 0, .int .i64 0, .int .i64 0, .slice none 0 0, .int .i64 0, .int .u64 0, .int .u64 0, .slice none 0 0, .string ⟨#[]⟩] := by rw [hW0]; exact (Bx.new w 31 [.int .i64 0, .int .i64 0, .int .i64 0, .slice none 0 0, .int .i64 0, .int .u64 0, .int .u64 0, .slice none 0 0, .string ⟨#[]⟩]).alloc _
 have hq : Bx W0 (w.heap.size + 1) 29 [.int .i64 0, .int .i64 0, .slice none 0 0, .int .i64 0, .int .u64 0, .int .u64 0, .slice none 0 0, .string ⟨#[]⟩] := by
  have h := Bx.new (w.alloc (.cells #[.int .i64 0, .int .i64 0, .int .i64 0, .slice none 0 0, .int .i64 0, .int .u64 0, .int .u64 0, .slice none 0 0, .string ⟨#[]⟩] 31)) 29 [.int .i64 0, .int .i64 0, .slice none 0 0, .int .i64 0, .int .u64 0, .int .u64 0, .slice none 0 0, .string ⟨#[]⟩]
  rw [World.size_alloc] at h
  rw [hW0]; exact h
 go_enter Tryz.func21, Tryz.ntmps21
 go_upto_region 1 with fail
 rw [← hW0]
 clear hW0
 obtain ⟨a0, f0, a1, f1, a2, f2, a3, f3, a4, f4, a5, f5, a6, f6, a7, f7, a8, f8, bR⟩ := (hr).store9 (.int .i64 0) (.int .i64 0) (.int .i64 0) (.slice none 0 0) (.int .i64 0) (.int .u64 0) (.int .u64 0) (.slice none 0 0) (.string ⟨#[]⟩)
 have hq3 := (((((((((hq.other (B' := w.heap.size) (by omega) 0 (.int .i64 0)).other (B' := w.heap.size) (by omega) 1 (.int .i64 0)).other (B' := w.heap.size) (by omega) 2 (.int .i64 0)).other (B' := w.heap.size) (by omega) 3 (.slice none 0 0)).other (B' := w.heap.size) (by omega) 4 (.int .i64 0)).other (B' := w.heap.size) (by omega) 5 (.int .u64 0)).other (B' := w.heap.size) (by omega) 6 (.int .u64 0)).other (B' := w.heap.size) (by omega) 7 (.slice none 0 0)).other (B' := w.heap.size) (by omega) 8 (.string ⟨#[]⟩))
 obtain ⟨k0, g0, k1, g1, k2, g2, k3, g3, k4, g4, k5, g5, k6, g6, k7, g7, bQ⟩ := hq3.store8 (.int .i64 0) (.int .i64 0) (.slice none 0 0) (.int .i64 0) (.int .u64 0) (.int .u64 0) (.slice none 0 0) (.string ⟨#[]⟩)
 have bR2 := ((((((((bR.other (B' := w.heap.size + 1) (by omega) 0 (.int .i64 0)).other (B' := w.heap.size + 1) (by omega) 1 (.int .i64 0)).other (B' := w.heap.size + 1) (by omega) 2 (.slice none 0 0)).other (B' := w.heap.size + 1) (by omega) 3 (.int .i64 0)).other (B' := w.heap.size + 1) (by omega) 4 (.int .u64 0)).other (B' := w.heap.size + 1) (by omega) 5 (.int .u64 0)).other (B' := w.heap.size + 1) (by omega) 6 (.slice none 0 0)).other (B' := w.heap.size + 1) (by omega) 7 (.string ⟨#[]⟩))
 have hBy := below_store9 hb0 (B := w.heap.size) (by omega) (.int .i64 0) (.int .i64 0) (.int .i64 0) (.slice none 0 0) (.int .i64 0) (.int .u64 0) (.int .u64 0) (.slice none 0 0) (.string ⟨#[]⟩)
 have hBz := below_store8 hBy (B := w.heap.size + 1) (by omega) (.int .i64 0) (.int .i64 0) (.slice none 0 0) (.int .i64 0) (.int .u64 0) (.int .u64 0) (.slice none 0 0) (.string ⟨#[]⟩)
 obtain ⟨q0, q1, q2, q3, q4, q5, q6, q7⟩ := bQ.eight
 obtain ⟨r0, r1, r2, r3, r4, r5, r6, r7, r8⟩ := bR2.nine
 clear hr hq bR hq3 bQ bR2 hBy hb0
 go_wp2
 refine bodyPost_ret (v := .tuple #[.agg #[.int .i64 0, .int .i64 0, .int .i64 0, .slice none 0 0, .int .i64 0, .int .u64 0, .int .u64 0, .slice none 0 0, .string ⟨#[]⟩], .agg #[.int .i64 0, .int .i64 0, .slice none 0 0, .int .i64 0, .int .u64 0, .int .u64 0, .slice none 0 0, .string ⟨#[]⟩], .bool false, .int .i64 er]) ?_ rfl ⟨rfl, hBz⟩
 rw [results_cctt rfl]
 simp [asAddr, Result.andThen, go_sem, q0, q1, q2, q3, q4, q5, q6, q7, r0, r1, r2, r3, r4, r5, r6, r7, r8]
set_option maxRecDepth 100000 in
set_option maxHeartbeats 4000000 in
theorem rfeed_none (a : As) (A B : Option Addr) (ca cb : Nat) (t ch : Int) (d : ByteArray) (w : World) (hst : ¬ (0 ≤ a.st ∧ a.st ≤ 2)) :
 Calls Tryz.prog 9 #[encAs a A B ca cb, encFr ⟨t, ch, d⟩] w (FdPost (fNo 1) w) := by
 obtain ⟨W0, hW0⟩ : ∃ W0, W0 = (((w.alloc (.cells (cellsAs a A B ca cb).toArray 31)).alloc (.cells #[.int .i64 t, .int .i64 ch, .string d] 33)).alloc (.cells #[.int .i64 0, .int .i64 0, .int .i64 0, .slice none 0 0, .int .i64 0, .int .u64 0, .int .u64 0, .slice none 0 0, .string ⟨#[]⟩] 31)).alloc (.cells #[.int .i64 0, .int .i64 0, .slice none 0 0, .int .i64 0, .int .u64 0, .int .u64 0, .slice none 0 0, .string ⟨#[]⟩] 29) := ⟨_, rfl⟩
 have hb0 : Below w.heap.size w W0 := by rw [hW0]; exact ((((Below.refl _ w).alloc (Nat.le_refl _) _).alloc (by simp) _).alloc (by simp; omega) _).alloc (by simp; omega) _
 have hx : Bx W0 w.heap.size 31 (cellsAs a A B ca cb) := by rw [hW0]; exact (((Bx.new w 31 (cellsAs a A B ca cb)).alloc _).alloc _).alloc _
 have hf : Bx W0 (w.heap.size + 1) 33 [.int .i64 t, .int .i64 ch, .string d] := by
  have h := ((Bx.new (w.alloc (.cells (cellsAs a A B ca cb).toArray 31)) 33 [.int .i64 t, .int .i64 ch, .string d]).alloc (.cells #[.int .i64 0, .int .i64 0, .int .i64 0, .slice none 0 0, .int .i64 0, .int .u64 0, .int .u64 0, .slice none 0 0, .string ⟨#[]⟩] 31)).alloc (.cells #[.int .i64 0, .int .i64 0, .slice none 0 0, .int .i64 0, .int .u64 0, .int .u64 0, .slice none 0 0, .string ⟨#[]⟩] 29)
  rw [World.size_alloc] at h
  rw [hW0]; exact h
 have hr : Bx W0 (w.heap.size + 1 + 1) 31 [.int .i64 0, .int .i64 0, .int .i64 0, .slice none 0 0, .int .i64 0, .int .u64 0, .int .u64 0, .slice none 0 0, .string ⟨#[]⟩] := by
  have h := (Bx.new ((w.alloc (.cells (cellsAs a A B ca cb).toArray 31)).alloc (.cells #[.int .i64 t, .int .i64 ch, .string d] 33)) 31 [.int .i64 0, .int .i64 0, .int .i64 0, .slice none 0 0, .int .i64 0, .int .u64 0, .int .u64 0, .slice none 0 0, .string ⟨#[]⟩]).alloc (.cells #[.int .i64 0, .int .i64 0, .slice none 0 0, .int .i64 0, .int .u64 0, .int .u64 0, .slice none 0 0, .string ⟨#[]⟩] 29)
  rw [World.size_alloc, World.size_alloc] at h
  rw [hW0]; exact h
 have hq : Bx W0 (w.heap.size + 1 + 1 + 1) 29 [.int .i64 0, .int .i64 0, .slice none 0 0, .int .i64 0, .int .u64 0, .int .u64 0, .slice none 0 0, .string ⟨#[]⟩] := by
  have h := Bx.new (((w.alloc (.cells (cellsAs a A B ca cb).toArray 31)).alloc (.cells #[.int .i64 t, .int .i64 ch, .string d] 33)).alloc (.cells #[.int .i64 0, .int .i64 0, .int .i64 0, .slice none 0 0, .int .i64 0, .int .u64 0, .int .u64 0, .slice none 0 0, .string ⟨#[]⟩] 31)) 29 [.int .i64 0, .int .i64 0, .slice none 0 0, .int .i64 0, .int .u64 0, .int .u64 0, .slice none 0 0, .string ⟨#[]⟩]
  rw [World.size_alloc, World.size_alloc, World.size_alloc] at h
  rw [hW0]; exact h
 unfold FdPost
 have HE : Hid (fNo 1 = ⟨as0, cm0, false, 1⟩) := Lib.hid rfl
 generalize fNo 1 = fd at HE ⊢
 unfold encAs encFr
 unfold cellsAs at hx hW0
 obtain ⟨st, ⟨⟨mc, mi, ml⟩, ⟨hc', hz', hf', hl⟩, sb⟩⟩ := a
 dsimp only at *
 go_enter Tryz.func9, Tryz.ntmps9
 go_upto_region 1 with fail
 rw [← hW0]
 clear hW0
 have x0 := hx.nine.1
 have t0 := hf.cell 0 (by simp)
 dsimp only [List.getElem_cons_zero] at t0
 by_cases h1 : st < 0
 · clear hst hx hf
   go_wp2_with fail
   with_reducible refine (rno_any 1 W0).mono ?_
   rintro e w2 ⟨rfl, hbn⟩
   have hBn := hb0.trans (hbn.mono hb0.size)
   have hrn := hr.kept hbn
   have hqn := hq.kept hbn
   clear hbn hb0 hr hq 
   obtain ⟨a0, f0, a1, f1, a2, f2, a3, f3, a4, f4, a5, f5, a6, f6, a7, f7, a8, f8, bR⟩ := (hrn).store9 (.int .i64 0) (.int .i64 0) (.int .i64 0) (.slice none 0 0) (.int .i64 0) (.int .u64 0) (.int .u64 0) (.slice none 0 0) (.string ⟨#[]⟩)
   have hq3 := (((((((((hqn.other (B' := w.heap.size + 1 + 1) (by omega) 0 (.int .i64 0)).other (B' := w.heap.size + 1 + 1) (by omega) 1 (.int .i64 0)).other (B' := w.heap.size + 1 + 1) (by omega) 2 (.int .i64 0)).other (B' := w.heap.size + 1 + 1) (by omega) 3 (.slice none 0 0)).other (B' := w.heap.size + 1 + 1) (by omega) 4 (.int .i64 0)).other (B' := w.heap.size + 1 + 1) (by omega) 5 (.int .u64 0)).other (B' := w.heap.size + 1 + 1) (by omega) 6 (.int .u64 0)).other (B' := w.heap.size + 1 + 1) (by omega) 7 (.slice none 0 0)).other (B' := w.heap.size + 1 + 1) (by omega) 8 (.string ⟨#[]⟩))
   obtain ⟨k0, g0, k1, g1, k2, g2, k3, g3, k4, g4, k5, g5, k6, g6, k7, g7, bQ⟩ := hq3.store8 (.int .i64 0) (.int .i64 0) (.slice none 0 0) (.int .i64 0) (.int .u64 0) (.int .u64 0) (.slice none 0 0) (.string ⟨#[]⟩)
   have bR2 := ((((((((bR.other (B' := w.heap.size + 1 + 1 + 1) (by omega) 0 (.int .i64 0)).other (B' := w.heap.size + 1 + 1 + 1) (by omega) 1 (.int .i64 0)).other (B' := w.heap.size + 1 + 1 + 1) (by omega) 2 (.slice none 0 0)).other (B' := w.heap.size + 1 + 1 + 1) (by omega) 3 (.int .i64 0)).other (B' := w.heap.size + 1 + 1 + 1) (by omega) 4 (.int .u64 0)).other (B' := w.heap.size + 1 + 1 + 1) (by omega) 5 (.int .u64 0)).other (B' := w.heap.size + 1 + 1 + 1) (by omega) 6 (.slice none 0 0)).other (B' := w.heap.size + 1 + 1 + 1) (by omega) 7 (.string ⟨#[]⟩))
   have hBy := below_store9 hBn (B := w.heap.size + 1 + 1) (by omega) (.int .i64 0) (.int .i64 0) (.int .i64 0) (.slice none 0 0) (.int .i64 0) (.int .u64 0) (.int .u64 0) (.slice none 0 0) (.string ⟨#[]⟩)
   have hBz := below_store8 hBy (B := w.heap.size + 1 + 1 + 1) (by omega) (.int .i64 0) (.int .i64 0) (.slice none 0 0) (.int .i64 0) (.int .u64 0) (.int .u64 0) (.slice none 0 0) (.string ⟨#[]⟩)
   obtain ⟨q0, q1, q2, q3, q4, q5, q6, q7⟩ := bQ.eight
   obtain ⟨r0, r1, r2, r3, r4, r5, r6, r7, r8⟩ := bR2.nine
   clear hrn hqn bR hq3 bQ bR2 hBn hBy
   go_wp2
   refine bodyPost_ret (v := .tuple #[.agg #[.int .i64 0, .int .i64 0, .int .i64 0, .slice none 0 0, .int .i64 0, .int .u64 0, .int .u64 0, .slice none 0 0, .string ⟨#[]⟩], .agg #[.int .i64 0, .int .i64 0, .slice none 0 0, .int .i64 0, .int .u64 0, .int .u64 0, .slice none 0 0, .string ⟨#[]⟩], .bool false, .int .i64 1]) ?_ rfl ⟨none, none, none, none, 0, 0, 0, 0, by rw [HE.out]; rfl, by rw [HE.out]; exact cmAt0 _, by rw [HE.out]; exact cmAt0 _, hBz⟩
   rw [results_cctt rfl]
   simp [asAddr, Result.andThen, go_sem, q0, q1, q2, q3, q4, q5, q6, q7, r0, r1, r2, r3, r4, r5, r6, r7, r8]
 · have h2 : 2 < st := by omega
   clear hst hx hf
   go_wp2_with fail
   with_reducible refine (rno_any 1 W0).mono ?_
   rintro e w2 ⟨rfl, hbn⟩
   have hBn := hb0.trans (hbn.mono hb0.size)
   have hrn := hr.kept hbn
   have hqn := hq.kept hbn
   clear hbn hb0 hr hq 
   obtain ⟨a0, f0, a1, f1, a2, f2, a3, f3, a4, f4, a5, f5, a6, f6, a7, f7, a8, f8, bR⟩ := (hrn).store9 (.int .i64 0) (.int .i64 0) (.int .i64 0) (.slice none 0 0) (.int .i64 0) (.int .u64 0) (.int .u64 0) (.slice none 0 0) (.string ⟨#[]⟩)
   have hq3 := (((((((((hqn.other (B' := w.heap.size + 1 + 1) (by omega) 0 (.int .i64 0)).other (B' := w.heap.size + 1 + 1) (by omega) 1 (.int .i64 0)).other (B' := w.heap.size + 1 + 1) (by omega) 2 (.int .i64 0)).other (B' := w.heap.size + 1 + 1) (by omega) 3 (.slice none 0 0)).other (B' := w.heap.size + 1 + 1) (by omega) 4 (.int .i64 0)).other (B' := w.heap.size + 1 + 1) (by omega) 5 (.int .u64 0)).other (B' := w.heap.size + 1 + 1) (by omega) 6 (.int .u64 0)).other (B' := w.heap.size + 1 + 1) (by omega) 7 (.slice none 0 0)).other (B' := w.heap.size + 1 + 1) (by omega) 8 (.string ⟨#[]⟩))
   obtain ⟨k0, g0, k1, g1, k2, g2, k3, g3, k4, g4, k5, g5, k6, g6, k7, g7, bQ⟩ := hq3.store8 (.int .i64 0) (.int .i64 0) (.slice none 0 0) (.int .i64 0) (.int .u64 0) (.int .u64 0) (.slice none 0 0) (.string ⟨#[]⟩)
   have bR2 := ((((((((bR.other (B' := w.heap.size + 1 + 1 + 1) (by omega) 0 (.int .i64 0)).other (B' := w.heap.size + 1 + 1 + 1) (by omega) 1 (.int .i64 0)).other (B' := w.heap.size + 1 + 1 + 1) (by omega) 2 (.slice none 0 0)).other (B' := w.heap.size + 1 + 1 + 1) (by omega) 3 (.int .i64 0)).other (B' := w.heap.size + 1 + 1 + 1) (by omega) 4 (.int .u64 0)).other (B' := w.heap.size + 1 + 1 + 1) (by omega) 5 (.int .u64 0)).other (B' := w.heap.size + 1 + 1 + 1) (by omega) 6 (.slice none 0 0)).other (B' := w.heap.size + 1 + 1 + 1) (by omega) 7 (.string ⟨#[]⟩))
   have hBy := below_store9 hBn (B := w.heap.size + 1 + 1) (by omega) (.int .i64 0) (.int .i64 0) (.int .i64 0) (.slice none 0 0) (.int .i64 0) (.int .u64 0) (.int .u64 0) (.slice none 0 0) (.string ⟨#[]⟩)
   have hBz := below_store8 hBy (B := w.heap.size + 1 + 1 + 1) (by omega) (.int .i64 0) (.int .i64 0) (.slice none 0 0) (.int .i64 0) (.int .u64 0) (.int .u64 0) (.slice none 0 0) (.string ⟨#[]⟩)
   obtain ⟨q0, q1, q2, q3, q4, q5, q6, q7⟩ := bQ.eight
   obtain ⟨r0, r1, r2, r3, r4, r5, r6, r7, r8⟩ := bR2.nine
   clear hrn hqn bR hq3 bQ bR2 hBn hBy
   go_wp2
   refine bodyPost_ret (v := .tuple #[.agg #[.int .i64 0, .int .i64 0, .int .i64 0, .slice none 0 0, .int .i64 0, .int .u64 0, .int .u64 0, .slice none 0 0, .string ⟨#[]⟩], .agg #[.int .i64 0, .int .i64 0, .slice none 0 0, .int .i64 0, .int .u64 0, .int .u64 0, .slice none 0 0, .string ⟨#[]⟩], .bool false, .int .i64 1]) ?_ rfl ⟨none, none, none, none, 0, 0, 0, 0, by rw [HE.out]; rfl, by rw [HE.out]; exact cmAt0 _, by rw [HE.out]; exact cmAt0 _, hBz⟩
   rw [results_cctt rfl]
   simp [asAddr, Result.andThen, go_sem, q0, q1, q2, q3, q4, q5, q6, q7, r0, r1, r2, r3, r4, r5, r6, r7, r8]
set_option maxRecDepth 100000 in
set_option maxHeartbeats 4000000 in
theorem rfeed_wrong (a : As) (A B : Option Addr) (ca cb : Nat) (t ch : Int) (d : ByteArray) (w : World) (hst : 0 ≤ a.st ∧ a.st ≤ 2) (ht : ¬ t = a.st + 1) :
 Calls Tryz.prog 9 #[encAs a A B ca cb, encFr ⟨t, ch, d⟩] w (FdPost (fNo 10) w) := by
 obtain ⟨W0, hW0⟩ : ∃ W0, W0 = (((w.alloc (.cells (cellsAs a A B ca cb).toArray 31)).alloc (.cells #[.int .i64 t, .int .i64 ch, .string d] 33)).alloc (.cells #[.int .i64 0, .int .i64 0, .int .i64 0, .slice none 0 0, .int .i64 0, .int .u64 0, .int .u64 0, .slice none 0 0, .string ⟨#[]⟩] 31)).alloc (.cells #[.int .i64 0, .int .i64 0, .slice none 0 0, .int .i64 0, .int .u64 0, .int .u64 0, .slice none 0 0, .string ⟨#[]⟩] 29) := ⟨_, rfl⟩
 have hb0 : Below w.heap.size w W0 := by rw [hW0]; exact ((((Below.refl _ w).alloc (Nat.le_refl _) _).alloc (by simp) _).alloc (by simp; omega) _).alloc (by simp; omega) _
 have hx : Bx W0 w.heap.size 31 (cellsAs a A B ca cb) := by rw [hW0]; exact (((Bx.new w 31 (cellsAs a A B ca cb)).alloc _).alloc _).alloc _
 have hf : Bx W0 (w.heap.size + 1) 33 [.int .i64 t, .int .i64 ch, .string d] := by
  have h := ((Bx.new (w.alloc (.cells (cellsAs a A B ca cb).toArray 31)) 33 [.int .i64 t, .int .i64 ch, .string d]).alloc (.cells #[.int .i64 0, .int .i64 0, .int .i64 0, .slice none 0 0, .int .i64 0, .int .u64 0, .int .u64 0, .slice none 0 0, .string ⟨#[]⟩] 31)).alloc (.cells #[.int .i64 0, .int .i64 0, .slice none 0 0, .int .i64 0, .int .u64 0, .int .u64 0, .slice none 0 0, .string ⟨#[]⟩] 29)
  rw [World.size_alloc] at h
  rw [hW0]; exact h
 have hr : Bx W0 (w.heap.size + 1 + 1) 31 [.int .i64 0, .int .i64 0, .int .i64 0, .slice none 0 0, .int .i64 0, .int .u64 0, .int .u64 0, .slice none 0 0, .string ⟨#[]⟩] := by
  have h := (Bx.new ((w.alloc (.cells (cellsAs a A B ca cb).toArray 31)).alloc (.cells #[.int .i64 t, .int .i64 ch, .string d] 33)) 31 [.int .i64 0, .int .i64 0, .int .i64 0, .slice none 0 0, .int .i64 0, .int .u64 0, .int .u64 0, .slice none 0 0, .string ⟨#[]⟩]).alloc (.cells #[.int .i64 0, .int .i64 0, .slice none 0 0, .int .i64 0, .int .u64 0, .int .u64 0, .slice none 0 0, .string ⟨#[]⟩] 29)
  rw [World.size_alloc, World.size_alloc] at h
  rw [hW0]; exact h
 have hq : Bx W0 (w.heap.size + 1 + 1 + 1) 29 [.int .i64 0, .int .i64 0, .slice none 0 0, .int .i64 0, .int .u64 0, .int .u64 0, .slice none 0 0, .string ⟨#[]⟩] := by
  have h := Bx.new (((w.alloc (.cells (cellsAs a A B ca cb).toArray 31)).alloc (.cells #[.int .i64 t, .int .i64 ch, .string d] 33)).alloc (.cells #[.int .i64 0, .int .i64 0, .int .i64 0, .slice none 0 0, .int .i64 0, .int .u64 0, .int .u64 0, .slice none 0 0, .string ⟨#[]⟩] 31)) 29 [.int .i64 0, .int .i64 0, .slice none 0 0, .int .i64 0, .int .u64 0, .int .u64 0, .slice none 0 0, .string ⟨#[]⟩]
  rw [World.size_alloc, World.size_alloc, World.size_alloc] at h
  rw [hW0]; exact h
 unfold FdPost
 have HE : Hid (fNo 10 = ⟨as0, cm0, false, 10⟩) := Lib.hid rfl
 generalize fNo 10 = fd at HE ⊢
 unfold encAs encFr
 unfold cellsAs at hx hW0
 obtain ⟨st, ⟨⟨mc, mi, ml⟩, ⟨hc', hz', hf', hl⟩, sb⟩⟩ := a
 dsimp only at *
 go_enter Tryz.func9, Tryz.ntmps9
 go_upto_region 1 with fail
 rw [← hW0]
 clear hW0
 have x0 := hx.nine.1
 have t0 := hf.cell 0 (by simp)
 dsimp only [List.getElem_cons_zero] at t0
 have h1 : ¬ st < 0 := by omega
 have h2 : ¬ 2 < st := by omega
 have e1 : IntKind.i64.wrap (st + 1) = st + 1 := by simp only [IntKind.wrap_i64]; omega
 have t1 : (t != st + 1) = true := by simpa using ht
 clear hst ht hx hf
 go_wp2_with fail
 with_reducible refine (rno_any 10 W0).mono ?_
 rintro e w2 ⟨rfl, hbn⟩
 have hBn := hb0.trans (hbn.mono hb0.size)
 have hrn := hr.kept hbn
 have hqn := hq.kept hbn
 clear hbn hb0 hr hq 
 obtain ⟨a0, f0, a1, f1, a2, f2, a3, f3, a4, f4, a5, f5, a6, f6, a7, f7, a8, f8, bR⟩ := (hrn).store9 (.int .i64 0) (.int .i64 0) (.int .i64 0) (.slice none 0 0) (.int .i64 0) (.int .u64 0) (.int .u64 0) (.slice none 0 0) (.string ⟨#[]⟩)
 have hq3 := (((((((((hqn.other (B' := w.heap.size + 1 + 1) (by omega) 0 (.int .i64 0)).other (B' := w.heap.size + 1 + 1) (by omega) 1 (.int .i64 0)).other (B' := w.heap.size + 1 + 1) (by omega) 2 (.int .i64 0)).other (B' := w.heap.size + 1 + 1) (by omega) 3 (.slice none 0 0)).other (B' := w.heap.size + 1 + 1) (by omega) 4 (.int .i64 0)).other (B' := w.heap.size + 1 + 1) (by omega) 5 (.int .u64 0)).other (B' := w.heap.size + 1 + 1) (by omega) 6 (.int .u64 0)).other (B' := w.heap.size + 1 + 1) (by omega) 7 (.slice none 0 0)).other (B' := w.heap.size + 1 + 1) (by omega) 8 (.string ⟨#[]⟩))
 obtain ⟨k0, g0, k1, g1, k2, g2, k3, g3, k4, g4, k5, g5, k6, g6, k7, g7, bQ⟩ := hq3.store8 (.int .i64 0) (.int .i64 0) (.slice none 0 0) (.int .i64 0) (.int .u64 0) (.int .u64 0) (.slice none 0 0) (.string ⟨#[]⟩)
 have bR2 := ((((((((bR.other (B' := w.heap.size + 1 + 1 + 1) (by omega) 0 (.int .i64 0)).other (B' := w.heap.size + 1 + 1 + 1) (by omega) 1 (.int .i64 0)).other (B' := w.heap.size + 1 + 1 + 1) (by omega) 2 (.slice none 0 0)).other (B' := w.heap.size + 1 + 1 + 1) (by omega) 3 (.int .i64 0)).other (B' := w.heap.size + 1 + 1 + 1) (by omega) 4 (.int .u64 0)).other (B' := w.heap.size + 1 + 1 + 1) (by omega) 5 (.int .u64 0)).other (B' := w.heap.size + 1 + 1 + 1) (by omega) 6 (.slice none 0 0)).other (B' := w.heap.size + 1 + 1 + 1) (by omega) 7 (.string ⟨#[]⟩))
 have hBy := below_store9 hBn (B := w.heap.size + 1 + 1) (by omega) (.int .i64 0) (.int .i64 0) (.int .i64 0) (.slice none 0 0) (.int .i64 0) (.int .u64 0) (.int .u64 0) (.slice none 0 0) (.string ⟨#[]⟩)
 have hBz := below_store8 hBy (B := w.heap.size + 1 + 1 + 1) (by omega) (.int .i64 0) (.int .i64 0) (.slice none 0 0) (.int .i64 0) (.int .u64 0) (.int .u64 0) (.slice none 0 0) (.string ⟨#[]⟩)
 obtain ⟨q0, q1, q2, q3, q4, q5, q6, q7⟩ := bQ.eight
 obtain ⟨r0, r1, r2, r3, r4, r5, r6, r7, r8⟩ := bR2.nine
 clear hrn hqn bR hq3 bQ bR2 hBn hBy
 go_wp2
 refine bodyPost_ret (v := .tuple #[.agg #[.int .i64 0, .int .i64 0, .int .i64 0, .slice none 0 0, .int .i64 0, .int .u64 0, .int .u64 0, .slice none 0 0, .string ⟨#[]⟩], .agg #[.int .i64 0, .int .i64 0, .slice none 0 0, .int .i64 0, .int .u64 0, .int .u64 0, .slice none 0 0, .string ⟨#[]⟩], .bool false, .int .i64 10]) ?_ rfl ⟨none, none, none, none, 0, 0, 0, 0, by rw [HE.out]; rfl, by rw [HE.out]; exact cmAt0 _, by rw [HE.out]; exact cmAt0 _, hBz⟩
 rw [results_cctt rfl]
 simp [asAddr, Result.andThen, go_sem, q0, q1, q2, q3, q4, q5, q6, q7, r0, r1, r2, r3, r4, r5, r6, r7, r8]
end Go.Proofs.YtllgkohgcicbhaaGreatDoor
