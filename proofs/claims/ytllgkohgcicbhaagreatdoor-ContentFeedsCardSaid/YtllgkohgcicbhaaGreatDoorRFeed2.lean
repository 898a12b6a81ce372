/-
  The document's own Feed takes a frame that holds a piece of a body; nothing that was there is changed. Conditions: the values lie in old memory; bytes of fewer than 2^62.
-/
import Derived.Deep.DeepCutAuto
import Derived.Test.YtllgkohgcicbhaaGreatDoorWFeedC
import Derived.Test.YtllgkohgcicbhaaGreatDoorRFeedN
import Derived.Test.YtllgkohgcicbhaaGreatDoorRFeed0
import Derived.Test.YtllgkohgcicbhaaGreatDoorWBegunB
namespace Go.Proofs.YtllgkohgcicbhaaGreatDoor
open Go.RowKit

set_option maxRecDepth 100000 in
set_option maxHeartbeats 4000000 in
theorem rfeed_at2 (c : Cm) (A B : Option Addr) (ca cb : Nat) (ch : Int) (d : ByteArray) (w : World) (hc : CmAt w c A B ca cb) (hd : c.b.size + d.size < 4611686018427387904) :
 Calls Tryz.prog 9 #[encAs ⟨2, c⟩ A B ca cb, encFr ⟨3, ch, d⟩] w (FdPost (feedB c d) w) := by
 obtain ⟨W0, hW0⟩ : ∃ W0, W0 = (((w.alloc (.cells (cellsAs ⟨2, c⟩ A B ca cb).toArray 31)).alloc (.cells #[.int .i64 3, .int .i64 ch, .string d] 33)).alloc (.cells #[.int .i64 0, .int .i64 0, .int .i64 0, .slice none 0 0, .int .i64 0, .int .u64 0, .int .u64 0, .slice none 0 0, .string ⟨#[]⟩] 31)).alloc (.cells #[.int .i64 0, .int .i64 0, .slice none 0 0, .int .i64 0, .int .u64 0, .int .u64 0, .slice none 0 0, .string ⟨#[]⟩] 29) := ⟨_, rfl⟩
 have hb0 : Below w.heap.size w W0 := by rw [hW0]; exact ((((Below.refl _ w).alloc (Nat.le_refl _) _).alloc (by simp) _).alloc (by simp; omega) _).alloc (by simp; omega) _
 have hx : Bx W0 w.heap.size 31 (cellsAs ⟨2, c⟩ A B ca cb) := by rw [hW0]; exact (((Bx.new w 31 (cellsAs ⟨2, c⟩ A B ca cb)).alloc _).alloc _).alloc _
 have hf : Bx W0 (w.heap.size + 1) 33 [.int .i64 3, .int .i64 ch, .string d] := by
  have h := ((Bx.new (w.alloc (.cells (cellsAs ⟨2, c⟩ A B ca cb).toArray 31)) 33 [.int .i64 3, .int .i64 ch, .string d]).alloc (.cells #[.int .i64 0, .int .i64 0, .int .i64 0, .slice none 0 0, .int .i64 0, .int .u64 0, .int .u64 0, .slice none 0 0, .string ⟨#[]⟩] 31)).alloc (.cells #[.int .i64 0, .int .i64 0, .slice none 0 0, .int .i64 0, .int .u64 0, .int .u64 0, .slice none 0 0, .string ⟨#[]⟩] 29)
  rw [World.size_alloc] at h
  rw [hW0]; exact h
 have hr : Bx W0 (w.heap.size + 1 + 1) 31 [.int .i64 0, .int .i64 0, .int .i64 0, .slice none 0 0, .int .i64 0, .int .u64 0, .int .u64 0, .slice none 0 0, .string ⟨#[]⟩] := by
  have h := (Bx.new ((w.alloc (.cells (cellsAs ⟨2, c⟩ A B ca cb).toArray 31)).alloc (.cells #[.int .i64 3, .int .i64 ch, .string d] 33)) 31 [.int .i64 0, .int .i64 0, .int .i64 0, .slice none 0 0, .int .i64 0, .int .u64 0, .int .u64 0, .slice none 0 0, .string ⟨#[]⟩]).alloc (.cells #[.int .i64 0, .int .i64 0, .slice none 0 0, .int .i64 0, .int .u64 0, .int .u64 0, .slice none 0 0, .string ⟨#[]⟩] 29)
  rw [World.size_alloc, World.size_alloc] at h
  rw [hW0]; exact h
 have hq : Bx W0 (w.heap.size + 1 + 1 + 1) 29 [.int .i64 0, .int .i64 0, .slice none 0 0, .int .i64 0, .int .u64 0, .int .u64 0, .slice none 0 0, .string ⟨#[]⟩] := by
  have h := Bx.new (((w.alloc (.cells (cellsAs ⟨2, c⟩ A B ca cb).toArray 31)).alloc (.cells #[.int .i64 3, .int .i64 ch, .string d] 33)).alloc (.cells #[.int .i64 0, .int .i64 0, .int .i64 0, .slice none 0 0, .int .i64 0, .int .u64 0, .int .u64 0, .slice none 0 0, .string ⟨#[]⟩] 31)) 29 [.int .i64 0, .int .i64 0, .slice none 0 0, .int .i64 0, .int .u64 0, .int .u64 0, .slice none 0 0, .string ⟨#[]⟩]
  rw [World.size_alloc, World.size_alloc, World.size_alloc] at h
  rw [hW0]; exact h
 obtain ⟨S2, hS2⟩ : ∃ S2, c.b ++ d = S2 := ⟨_, rfl⟩
 have hsz2 : S2.size < 4611686018427387904 := by rw [← hS2, ByteArray.size_append]; omega
 have hadd : ∀ w', (Op.stringOp .add c.b d).run Tryz.prog w' = .ok (.string S2) w' := fun w' => by rw [← hS2]; exact run_string_add_sum w' c.b d (by omega)
 have e0 : IntKind.u64.wrap (S2.size : Int) = (S2.size : Int) := u64_nat hsz2
 have HF : Hid (feedB c d = if c.h.z < (c.b ++ d).size then fNo 6 else if (c.b ++ d).size < c.h.z then fMore 2 ⟨c.m, c.h, c.b ++ d⟩ else fWhole ⟨c.m, c.h, c.b ++ d⟩) := Lib.hid rfl
 rw [hS2] at HF
 clear hS2
 unfold FdPost
 generalize feedB c d = fd at HF ⊢
 have va := hc.va.below hb0
 have vb := hc.vb.below hb0
 have HNA := Lib.hid hc.na
 have HNB := Lib.hid hc.nb
 unfold encAs encFr
 unfold cellsAs at hx hW0
 clear hc hd
 obtain ⟨⟨mc, mi, ml⟩, ⟨hc', hz', hf', hl⟩, sb⟩ := c
 dsimp only at *
 go_enter Tryz.func9, Tryz.ntmps9
 go_upto_region 1 with fail
 rw [← hW0]
 clear hW0
 have hlt := hq.lt
 obtain ⟨x0, x1, x2, x3, x4, x5, x6, x7, x8⟩ := hx.nine
 have t0 := hf.cell 0 (by simp)
 have t2 := hf.cell 2 (by simp)
 dsimp only [List.getElem_cons_zero, List.getElem_cons_succ] at t0 t2
 obtain ⟨W1, hW1⟩ : ∃ W1, W1 = W0.alloc (.cells #[.int .i64 mc, .int .i64 mi, .slice A ml.length ca, .int .i64 hc', .int .u64 hz', .int .u64 hf', .slice B hl.length cb, .string sb] 29) := ⟨_, rfl⟩
 have hb1 : Below W0.heap.size W0 W1 := by rw [hW1]; exact (Below.refl _ W0).alloc (Nat.le_refl _) _
 have hB1 := hb0.trans (hb1.mono hb0.size)
 have hk1 : Bx W1 W0.heap.size 29 [.int .i64 mc, .int .i64 mi, .slice A ml.length ca, .int .i64 hc', .int .u64 hz', .int .u64 hf', .slice B hl.length cb, .string sb] := by rw [hW1]; exact Bx.new W0 _ _
 have hx1 := hx.kept hb1
 have hf1 := hf.kept hb1
 have hr1 := hr.kept hb1
 have hq1 := hq.kept hb1
 replace va := va.below hb1
 replace vb := vb.below hb1
 go_upto_region 6 with fail
 rw [← hW1]
 clear hW1 hx hf hr hq hb0 hb1 x0 x1 x2 x3 x4 x5 x6 x7 x8 t0 t2
 obtain ⟨x0, x1, x2, x3, x4, x5, x6, x7, x8⟩ := hx1.nine
 have t2 := hf1.cell 2 (by simp)
 dsimp only [List.getElem_cons_zero, List.getElem_cons_succ] at t2
 have k7 := hk1.cell 7 (by simp)
 have g7 := hk1.frozen 7
 dsimp only [List.getElem_cons_zero, List.getElem_cons_succ] at k7
 obtain ⟨W4, hW4⟩ : ∃ W4, W4 = W1.setCell ⟨W0.heap.size, 7, none⟩ (.string S2) := ⟨_, rfl⟩
 have bK : Bx W4 W0.heap.size 29 [.int .i64 mc, .int .i64 mi, .slice A ml.length ca, .int .i64 hc', .int .u64 hz', .int .u64 hf', .slice B hl.length cb, .string S2] := by rw [hW4]; exact hk1.set 7 (.string S2)
 have hx4 := hx1.other (B' := W0.heap.size) (by have := hx1.lt; omega) 7 (.string S2)
 have hr4 := hr1.other (B' := W0.heap.size) (by omega) 7 (.string S2)
 have hq4 := hq1.other (B' := W0.heap.size) (by omega) 7 (.string S2)
 have hB4 := hB1.setCell (p := ⟨W0.heap.size, 7, none⟩) (by simp; omega) (.string S2)
 have hV4 := vals_apart hk1 (noVal_cmd _ _ _ _ _ _ _ _ (fun r h => by cases h) (fun k n h => by cases h)) vb (fun g hg => Below.heap_setCell W1 ⟨W0.heap.size, 7, none⟩ (.string S2) g hg)
 have hU4 := vals_apart hk1 (noVal_cmd _ _ _ _ _ _ _ _ (fun r h => by cases h) (fun k n h => by cases h)) va (fun g hg => Below.heap_setCell W1 ⟨W0.heap.size, 7, none⟩ (.string S2) g hg)
 rw [← hW4] at hx4 hr4 hq4 hB4 hV4 hU4
 go_upto_region 21 with fail
 rw [← hW4]
 clear hW4 k7 g7 hx1 hk1 hr1 hq1 hf1 hB1 va vb x0 x1 x2 x3 x4 x5 x6 x7 x8 t2
 have x0 := hx4.nine.1
 obtain ⟨m0, m1, m2, m3, m4, m5, m6, m7⟩ := bK.eight
 clear hx4 hadd
 by_cases hz : hz' < (S2.size : Int)
 · have HE : Hid (fd = fNo 6) := Lib.hid (by rw [HF.out, if_pos hz])
   have t : decide (hz' < (S2.size : Int)) = true := decide_eq_true hz
   clear HF
   go_wp2_with fail
   with_reducible refine (rno_any 6 W4).mono ?_
   rintro e w5 ⟨rfl, hbn⟩
   have hBn := hB4.trans (hbn.mono hB4.size)
   have hrn := hr4.kept hbn
   have hqn := hq4.kept hbn
   clear hbn hB4 hr4 hq4 
   obtain ⟨a0, f0, a1, f1, a2, f2, a3, f3, a4, f4, a5, f5, a6, f6, a7, f7, a8, f8, bR⟩ := (hrn).store9 (.int .i64 0) (.int .i64 0) (.int .i64 0) (.slice none 0 0) (.int .i64 0) (.int .u64 0) (.int .u64 0) (.slice none 0 0) (.string ⟨#[]⟩)
   have hq3 := (((((((((hqn.other (B' := w.heap.size + 1 + 1) (by omega) 0 (.int .i64 0)).other (B' := w.heap.size + 1 + 1) (by omega) 1 (.int .i64 0)).other (B' := w.heap.size + 1 + 1) (by omega) 2 (.int .i64 0)).other (B' := w.heap.size + 1 + 1) (by omega) 3 (.slice none 0 0)).other (B' := w.heap.size + 1 + 1) (by omega) 4 (.int .i64 0)).other (B' := w.heap.size + 1 + 1) (by omega) 5 (.int .u64 0)).other (B' := w.heap.size + 1 + 1) (by omega) 6 (.int .u64 0)).other (B' := w.heap.size + 1 + 1) (by omega) 7 (.slice none 0 0)).other (B' := w.heap.size + 1 + 1) (by omega) 8 (.string ⟨#[]⟩))
   obtain ⟨k0, g0, k1, g1, k2, g2, k3, g3, k4, g4, k5, g5, k6, g6, k7, g7, bQ⟩ := hq3.store8 (.int .i64 0) (.int .i64 0) (.slice none 0 0) (.int .i64 0) (.int .u64 0) (.int .u64 0) (.slice none 0 0) (.string ⟨#[]⟩)
   have bR2 := ((((((((bR.other (B' := w.heap.size + 1 + 1 + 1) (by omega) 0 (.int .i64 0)).other (B' := w.heap.size + 1 + 1 + 1) (by omega) 1 (.int .i64 0)).other (B' := w.heap.size + 1 + 1 + 1) (by omega) 2 (.slice none 0 0)).other (B' := w.heap.size + 1 + 1 + 1) (by omega) 3 (.int .i64 0)).other (B' := w.heap.size + 1 + 1 + 1) (by omega) 4 (.int .u64 0)).other (B' := w.heap.size + 1 + 1 + 1) (by omega) 5 (.int .u64 0)).other (B' := w.heap.size + 1 + 1 + 1) (by omega) 6 (.slice none 0 0)).other (B' := w.heap.size + 1 + 1 + 1) (by omega) 7 (.string ⟨#[]⟩))
   have hBy := below_store9 hBn (B := w.heap.size + 1 + 1) (by omega) (.int .i64 0) (.int .i64 0) (.int .i64 0) (.slice none 0 0) (.int .i64 0) (.int .u64 0) (.int .u64 0) (.slice none 0 0) (.string ⟨#[]⟩)
   have hBz := below_store8 hBy (B := w.heap.size + 1 + 1 + 1) (by omega) (.int .i64 0) (.int .i64 0) (.slice none 0 0) (.int .i64 0) (.int .u64 0) (.int .u64 0) (.slice none 0 0) (.string ⟨#[]⟩)
   obtain ⟨q0, q1, q2, q3, q4, q5, q6, q7⟩ := bQ.eight
   obtain ⟨r0, r1, r2, r3, r4, r5, r6, r7, r8⟩ := bR2.nine
   clear hrn hqn bR hq3 bQ bR2 hBn hBy
   go_wp2
   refine bodyPost_ret (v := .tuple #[.agg #[.int .i64 0, .int .i64 0, .int .i64 0, .slice none 0 0, .int .i64 0, .int .u64 0, .int .u64 0, .slice none 0 0, .string ⟨#[]⟩], .agg #[.int .i64 0, .int .i64 0, .slice none 0 0, .int .i64 0, .int .u64 0, .int .u64 0, .slice none 0 0, .string ⟨#[]⟩], .bool false, .int .i64 6]) ?_ rfl ⟨none, none, none, none, 0, 0, 0, 0, by rw [HE.out]; rfl, by rw [HE.out]; exact cmAt0 _, by rw [HE.out]; exact cmAt0 _, hBz⟩
   rw [results_cctt rfl]
   simp [asAddr, Result.andThen, go_sem, q0, q1, q2, q3, q4, q5, q6, q7, r0, r1, r2, r3, r4, r5, r6, r7, r8]
 · have t : decide (hz' < (S2.size : Int)) = false := decide_eq_false hz
   by_cases hz2 : (S2.size : Int) = hz'
   · have HE : Hid (fd = fWhole ⟨⟨mc, mi, ml⟩, ⟨hc', hz', hf', hl⟩, S2⟩) := Lib.hid (by rw [HF.out, if_neg hz, if_neg (by omega)])
     have t3 : ((S2.size : Int) == hz') = true := by simpa using hz2
     clear HF hz hz2
     clear m0 m1 m2 m3 m5 m6
     have HVV := Lib.hid hV4
     clear hV4
     go_upto_region 25 with fail
     have hV4 := HVV.out
     clear m4 m7 t t3
     have bR := (hr4.store9 (.int .i64 0) (.int .i64 0) (.int .i64 0) (.slice none 0 0) (.int .i64 0) (.int .u64 0) (.int .u64 0) (.slice none 0 0) (.string ⟨#[]⟩)).2.2.2.2.2.2.2.2.2.2.2.2.2.2.2.2.2.2
     have hq3 := (((((((((hq4.other (B' := w.heap.size + 1 + 1) (by omega) 0 (.int .i64 0)).other (B' := w.heap.size + 1 + 1) (by omega) 1 (.int .i64 0)).other (B' := w.heap.size + 1 + 1) (by omega) 2 (.int .i64 0)).other (B' := w.heap.size + 1 + 1) (by omega) 3 (.slice none 0 0)).other (B' := w.heap.size + 1 + 1) (by omega) 4 (.int .i64 0)).other (B' := w.heap.size + 1 + 1) (by omega) 5 (.int .u64 0)).other (B' := w.heap.size + 1 + 1) (by omega) 6 (.int .u64 0)).other (B' := w.heap.size + 1 + 1) (by omega) 7 (.slice none 0 0)).other (B' := w.heap.size + 1 + 1) (by omega) 8 (.string ⟨#[]⟩))
     have bQ := (hq3.store8 (.int .i64 mc) (.int .i64 mi) (.slice A ml.length ca) (.int .i64 hc') (.int .u64 hz') (.int .u64 hf') (.slice B hl.length cb) (.string S2)).2.2.2.2.2.2.2.2.2.2.2.2.2.2.2.2
     have bR2 := ((((((((bR.other (B' := w.heap.size + 1 + 1 + 1) (by omega) 0 (.int .i64 mc)).other (B' := w.heap.size + 1 + 1 + 1) (by omega) 1 (.int .i64 mi)).other (B' := w.heap.size + 1 + 1 + 1) (by omega) 2 (.slice A ml.length ca)).other (B' := w.heap.size + 1 + 1 + 1) (by omega) 3 (.int .i64 hc')).other (B' := w.heap.size + 1 + 1 + 1) (by omega) 4 (.int .u64 hz')).other (B' := w.heap.size + 1 + 1 + 1) (by omega) 5 (.int .u64 hf')).other (B' := w.heap.size + 1 + 1 + 1) (by omega) 6 (.slice B hl.length cb)).other (B' := w.heap.size + 1 + 1 + 1) (by omega) 7 (.string S2))
     have hBz := below_store8 (below_store9 hB4 (B := w.heap.size + 1 + 1) (by omega) (.int .i64 0) (.int .i64 0) (.int .i64 0) (.slice none 0 0) (.int .i64 0) (.int .u64 0) (.int .u64 0) (.slice none 0 0) (.string ⟨#[]⟩)) (B := w.heap.size + 1 + 1 + 1) (by omega) (.int .i64 mc) (.int .i64 mi) (.slice A ml.length ca) (.int .i64 hc') (.int .u64 hz') (.int .u64 hf') (.slice B hl.length cb) (.string S2)
     have hva := vals_store8 hq3 noVal_zero8 (vals_store9 hr4 noVal_zero9 hU4 (.int .i64 0) (.int .i64 0) (.int .i64 0) (.slice none 0 0) (.int .i64 0) (.int .u64 0) (.int .u64 0) (.slice none 0 0) (.string ⟨#[]⟩)) (.int .i64 mc) (.int .i64 mi) (.slice A ml.length ca) (.int .i64 hc') (.int .u64 hz') (.int .u64 hf') (.slice B hl.length cb) (.string S2)
     have hvb := vals_store8 hq3 noVal_zero8 (vals_store9 hr4 noVal_zero9 hV4 (.int .i64 0) (.int .i64 0) (.int .i64 0) (.slice none 0 0) (.int .i64 0) (.int .u64 0) (.int .u64 0) (.slice none 0 0) (.string ⟨#[]⟩)) (.int .i64 mc) (.int .i64 mi) (.slice A ml.length ca) (.int .i64 hc') (.int .u64 hz') (.int .u64 hf') (.slice B hl.length cb) (.string S2)
     obtain ⟨W9, hW9⟩ : ∃ W9, W9 = (((((((((((((((((W4.setCell ⟨w.heap.size + 1 + 1, 0, none⟩ (.int .i64 0)).setCell ⟨w.heap.size + 1 + 1, 1, none⟩ (.int .i64 0)).setCell ⟨w.heap.size + 1 + 1, 2, none⟩ (.int .i64 0)).setCell ⟨w.heap.size + 1 + 1, 3, none⟩ (.slice none 0 0)).setCell ⟨w.heap.size + 1 + 1, 4, none⟩ (.int .i64 0)).setCell ⟨w.heap.size + 1 + 1, 5, none⟩ (.int .u64 0)).setCell ⟨w.heap.size + 1 + 1, 6, none⟩ (.int .u64 0)).setCell ⟨w.heap.size + 1 + 1, 7, none⟩ (.slice none 0 0)).setCell ⟨w.heap.size + 1 + 1, 8, none⟩ (.string ⟨#[]⟩)).setCell ⟨w.heap.size + 1 + 1 + 1, 0, none⟩ (.int .i64 mc)).setCell ⟨w.heap.size + 1 + 1 + 1, 1, none⟩ (.int .i64 mi)).setCell ⟨w.heap.size + 1 + 1 + 1, 2, none⟩ (.slice A ml.length ca)).setCell ⟨w.heap.size + 1 + 1 + 1, 3, none⟩ (.int .i64 hc')).setCell ⟨w.heap.size + 1 + 1 + 1, 4, none⟩ (.int .u64 hz')).setCell ⟨w.heap.size + 1 + 1 + 1, 5, none⟩ (.int .u64 hf')).setCell ⟨w.heap.size + 1 + 1 + 1, 6, none⟩ (.slice B hl.length cb)).setCell ⟨w.heap.size + 1 + 1 + 1, 7, none⟩ (.string S2)) := ⟨_, rfl⟩
     rw [← hW9] at bQ bR2 hBz hva hvb
     have HW9 := Lib.hid hW9
     have HQ : Hid (Bx W9.drew (w.heap.size + 1 + 1 + 1) 29 [.int .i64 mc, .int .i64 mi, .slice A ml.length ca, .int .i64 hc', .int .u64 hz', .int .u64 hf', .slice B hl.length cb, .string S2]) := Lib.hid bQ
     have HR : Hid (Bx W9.drew (w.heap.size + 1 + 1) 31 [.int .i64 0, .int .i64 0, .int .i64 0, .slice none 0 0, .int .i64 0, .int .u64 0, .int .u64 0, .slice none 0 0, .string ⟨#[]⟩]) := Lib.hid bR2
     have hBz := hBz.drew
     have hva := hva.below (Below.refl _ W9).drew
     have hvb := hvb.below (Below.refl _ W9).drew
     have HVA := Lib.hid hva
     have HVB := Lib.hid hvb
     obtain ⟨a0, a1, a2, a3, a4, a5, a6, a7, a8⟩ := hr4.nine
     obtain ⟨k0, k1, k2, k3, k4, k5, k6, k7⟩ := hq4.eight
     obtain ⟨m0, m1, m2, m3, m4, m5, m6, m7⟩ := bK.eight
     have f0 := hr4.frozen 0
     have f1 := hr4.frozen 1
     have f2 := hr4.frozen 2
     have f3 := hr4.frozen 3
     have f4 := hr4.frozen 4
     have f5 := hr4.frozen 5
     have f6 := hr4.frozen 6
     have f7 := hr4.frozen 7
     have f8 := hr4.frozen 8
     have g0 := hq4.frozen 0
     have g1 := hq4.frozen 1
     have g2 := hq4.frozen 2
     have g3 := hq4.frozen 3
     have g4 := hq4.frozen 4
     have g5 := hq4.frozen 5
     have g6 := hq4.frozen 6
     have g7 := hq4.frozen 7
     have ne1 : ¬ (W0.heap.size = w.heap.size + 1 + 1) := by omega
     have ne2 : ¬ (w.heap.size + 1 + 1 = W0.heap.size) := by omega
     clear hr4 hq4 bK hq3 bR bQ bR2 hB4 hU4 hV4 hW9 hva hvb
     go_region
     rw [← HW9.out]
     clear a0 f0 a1 f1 a2 f2 a3 f3 a4 f4 a5 f5 a6 f6 a7 f7 a8 f8 k0 g0 m0 k1 g1 m1 k2 g2 m2 k3 g3 m3 k4 g4 m4 k5 g5 m5 k6 g6 m6 k7 g7 m7 ne1 ne2
     obtain ⟨q0, q1, q2, q3, q4, q5, q6, q7⟩ := HQ.out.eight
     obtain ⟨r0, r1, r2, r3, r4, r5, r6, r7, r8⟩ := HR.out.nine
     go_wp2
     refine bodyPost_ret (v := .tuple #[.agg #[.int .i64 0, .int .i64 0, .int .i64 0, .slice none 0 0, .int .i64 0, .int .u64 0, .int .u64 0, .slice none 0 0, .string ⟨#[]⟩], .agg #[.int .i64 mc, .int .i64 mi, .slice A ml.length ca, .int .i64 hc', .int .u64 hz', .int .u64 hf', .slice B hl.length cb, .string S2], .bool true, .int .i64 0]) ?_ rfl ⟨none, none, A, B, 0, 0, ca, cb, by rw [HE.out]; rfl, by rw [HE.out]; exact cmAt0 _, by rw [HE.out]; exact ⟨HVA.out, HVB.out, HNA.out, HNB.out⟩, hBz⟩
     rw [results_cctt rfl]
     simp [asAddr, Result.andThen, go_sem, q0, q1, q2, q3, q4, q5, q6, q7, r0, r1, r2, r3, r4, r5, r6, r7, r8]
   · have HE : Hid (fd = fMore 2 ⟨⟨mc, mi, ml⟩, ⟨hc', hz', hf', hl⟩, S2⟩) := Lib.hid (by rw [HF.out, if_neg hz, if_pos (by omega)])
     have t3 : ((S2.size : Int) == hz') = false := by simpa using hz2
     clear HF hz hz2
     clear m0 m1 m2 m3 m5 m6
     have HVV := Lib.hid hV4
     clear hV4
     go_upto_region 29 with fail
     have hV4 := HVV.out
     clear m4 m7 t t3
     obtain ⟨a0, f0, a1, f1, a2, f2, a3, f3, a4, f4, a5, f5, a6, f6, a7, f7, a8, f8, bR⟩ := (hr4).store9 (.int .i64 2) (.int .i64 mc) (.int .i64 mi) (.slice A ml.length ca) (.int .i64 hc') (.int .u64 hz') (.int .u64 hf') (.slice B hl.length cb) (.string S2)
     have hq3 := (((((((((hq4.other (B' := w.heap.size + 1 + 1) (by omega) 0 (.int .i64 2)).other (B' := w.heap.size + 1 + 1) (by omega) 1 (.int .i64 mc)).other (B' := w.heap.size + 1 + 1) (by omega) 2 (.int .i64 mi)).other (B' := w.heap.size + 1 + 1) (by omega) 3 (.slice A ml.length ca)).other (B' := w.heap.size + 1 + 1) (by omega) 4 (.int .i64 hc')).other (B' := w.heap.size + 1 + 1) (by omega) 5 (.int .u64 hz')).other (B' := w.heap.size + 1 + 1) (by omega) 6 (.int .u64 hf')).other (B' := w.heap.size + 1 + 1) (by omega) 7 (.slice B hl.length cb)).other (B' := w.heap.size + 1 + 1) (by omega) 8 (.string S2))
     obtain ⟨k0, g0, k1, g1, k2, g2, k3, g3, k4, g4, k5, g5, k6, g6, k7, g7, bQ⟩ := hq3.store8 (.int .i64 0) (.int .i64 0) (.slice none 0 0) (.int .i64 0) (.int .u64 0) (.int .u64 0) (.slice none 0 0) (.string ⟨#[]⟩)
     have bR2 := ((((((((bR.other (B' := w.heap.size + 1 + 1 + 1) (by omega) 0 (.int .i64 0)).other (B' := w.heap.size + 1 + 1 + 1) (by omega) 1 (.int .i64 0)).other (B' := w.heap.size + 1 + 1 + 1) (by omega) 2 (.slice none 0 0)).other (B' := w.heap.size + 1 + 1 + 1) (by omega) 3 (.int .i64 0)).other (B' := w.heap.size + 1 + 1 + 1) (by omega) 4 (.int .u64 0)).other (B' := w.heap.size + 1 + 1 + 1) (by omega) 5 (.int .u64 0)).other (B' := w.heap.size + 1 + 1 + 1) (by omega) 6 (.slice none 0 0)).other (B' := w.heap.size + 1 + 1 + 1) (by omega) 7 (.string ⟨#[]⟩))
     have hBy := below_store9 hB4 (B := w.heap.size + 1 + 1) (by omega) (.int .i64 2) (.int .i64 mc) (.int .i64 mi) (.slice A ml.length ca) (.int .i64 hc') (.int .u64 hz') (.int .u64 hf') (.slice B hl.length cb) (.string S2)
     have hBz := below_store8 hBy (B := w.heap.size + 1 + 1 + 1) (by omega) (.int .i64 0) (.int .i64 0) (.slice none 0 0) (.int .i64 0) (.int .u64 0) (.int .u64 0) (.slice none 0 0) (.string ⟨#[]⟩)
     obtain ⟨q0, q1, q2, q3, q4, q5, q6, q7⟩ := bQ.eight
     obtain ⟨r0, r1, r2, r3, r4, r5, r6, r7, r8⟩ := bR2.nine
     have HVA := Lib.hid (vals_store8 hq3 noVal_zero8 (vals_store9 hr4 noVal_zero9 hU4 (.int .i64 2) (.int .i64 mc) (.int .i64 mi) (.slice A ml.length ca) (.int .i64 hc') (.int .u64 hz') (.int .u64 hf') (.slice B hl.length cb) (.string S2)) (.int .i64 0) (.int .i64 0) (.slice none 0 0) (.int .i64 0) (.int .u64 0) (.int .u64 0) (.slice none 0 0) (.string ⟨#[]⟩))
     have HVB := Lib.hid (vals_store8 hq3 noVal_zero8 (vals_store9 hr4 noVal_zero9 hV4 (.int .i64 2) (.int .i64 mc) (.int .i64 mi) (.slice A ml.length ca) (.int .i64 hc') (.int .u64 hz') (.int .u64 hf') (.slice B hl.length cb) (.string S2)) (.int .i64 0) (.int .i64 0) (.slice none 0 0) (.int .i64 0) (.int .u64 0) (.int .u64 0) (.slice none 0 0) (.string ⟨#[]⟩))
     obtain ⟨m0, m1, m2, m3, m4, m5, m6, m7⟩ := bK.eight
     clear hr4 hq4 bK hq3 bR bQ bR2 hBy hB4
     go_wp2
     refine bodyPost_ret (v := .tuple #[.agg #[.int .i64 2, .int .i64 mc, .int .i64 mi, .slice A ml.length ca, .int .i64 hc', .int .u64 hz', .int .u64 hf', .slice B hl.length cb, .string S2], .agg #[.int .i64 0, .int .i64 0, .slice none 0 0, .int .i64 0, .int .u64 0, .int .u64 0, .slice none 0 0, .string ⟨#[]⟩], .bool false, .int .i64 0]) ?_ rfl ⟨A, B, none, none, ca, cb, 0, 0, by rw [HE.out]; rfl, by rw [HE.out]; exact ⟨HVA.out, HVB.out, HNA.out, HNB.out⟩, by rw [HE.out]; exact cmAt0 _, hBz⟩
     rw [results_cctt rfl]
     simp [asAddr, Result.andThen, go_sem, q0, q1, q2, q3, q4, q5, q6, q7, r0, r1, r2, r3, r4, r5, r6, r7, r8]
end Go.Proofs.YtllgkohgcicbhaaGreatDoor
