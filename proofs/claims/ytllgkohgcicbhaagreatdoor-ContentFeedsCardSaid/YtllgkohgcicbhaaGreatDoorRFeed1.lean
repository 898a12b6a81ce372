/-
  The document's own Feed takes a frame that holds a head; nothing that was there is changed. Conditions: the values lie in old memory; bytes of fewer than 2^62.
-/
import Derived.Deep.DeepCutAuto
import Derived.Test.YtllgkohgcicbhaaGreatDoorWFeedC
import Derived.Test.YtllgkohgcicbhaaGreatDoorRFeedN
import Derived.Test.YtllgkohgcicbhaaGreatDoorRPTk
import Derived.Test.YtllgkohgcicbhaaGreatDoorRFeed0
namespace Go.Proofs.YtllgkohgcicbhaaGreatDoor
open Go.RowKit

set_option maxRecDepth 100000 in
set_option maxHeartbeats 4000000 in
theorem rfeed_at1 (c : Cm) (A B : Option Addr) (ca cb : Nat) (ch : Int) (d : ByteArray) (w : World) (hc : CmAt w c A B ca cb) (hd : d.size < 4611686018427387904) :
 Calls Tryz.prog 9 #[encAs ⟨1, c⟩ A B ca cb, encFr ⟨2, ch, d⟩] w (FdPost (feedH c d) w) := by
 obtain ⟨W0, hW0⟩ : ∃ W0, W0 = (((w.alloc (.cells (cellsAs ⟨1, c⟩ A B ca cb).toArray 31)).alloc (.cells #[.int .i64 2, .int .i64 ch, .string d] 33)).alloc (.cells #[.int .i64 0, .int .i64 0, .int .i64 0, .slice none 0 0, .int .i64 0, .int .u64 0, .int .u64 0, .slice none 0 0, .string ⟨#[]⟩] 31)).alloc (.cells #[.int .i64 0, .int .i64 0, .slice none 0 0, .int .i64 0, .int .u64 0, .int .u64 0, .slice none 0 0, .string ⟨#[]⟩] 29) := ⟨_, rfl⟩
 have hb0 : Below w.heap.size w W0 := by rw [hW0]; exact ((((Below.refl _ w).alloc (Nat.le_refl _) _).alloc (by simp) _).alloc (by simp; omega) _).alloc (by simp; omega) _
 have hx : Bx W0 w.heap.size 31 (cellsAs ⟨1, c⟩ A B ca cb) := by rw [hW0]; exact (((Bx.new w 31 (cellsAs ⟨1, c⟩ A B ca cb)).alloc _).alloc _).alloc _
 have hf : Bx W0 (w.heap.size + 1) 33 [.int .i64 2, .int .i64 ch, .string d] := by
  have h := ((Bx.new (w.alloc (.cells (cellsAs ⟨1, c⟩ A B ca cb).toArray 31)) 33 [.int .i64 2, .int .i64 ch, .string d]).alloc (.cells #[.int .i64 0, .int .i64 0, .int .i64 0, .slice none 0 0, .int .i64 0, .int .u64 0, .int .u64 0, .slice none 0 0, .string ⟨#[]⟩] 31)).alloc (.cells #[.int .i64 0, .int .i64 0, .slice none 0 0, .int .i64 0, .int .u64 0, .int .u64 0, .slice none 0 0, .string ⟨#[]⟩] 29)
  rw [World.size_alloc] at h
  rw [hW0]; exact h
 have hr : Bx W0 (w.heap.size + 1 + 1) 31 [.int .i64 0, .int .i64 0, .int .i64 0, .slice none 0 0, .int .i64 0, .int .u64 0, .int .u64 0, .slice none 0 0, .string ⟨#[]⟩] := by
  have h := (Bx.new ((w.alloc (.cells (cellsAs ⟨1, c⟩ A B ca cb).toArray 31)).alloc (.cells #[.int .i64 2, .int .i64 ch, .string d] 33)) 31 [.int .i64 0, .int .i64 0, .int .i64 0, .slice none 0 0, .int .i64 0, .int .u64 0, .int .u64 0, .slice none 0 0, .string ⟨#[]⟩]).alloc (.cells #[.int .i64 0, .int .i64 0, .slice none 0 0, .int .i64 0, .int .u64 0, .int .u64 0, .slice none 0 0, .string ⟨#[]⟩] 29)
  rw [World.size_alloc, World.size_alloc] at h
  rw [hW0]; exact h
 have hq : Bx W0 (w.heap.size + 1 + 1 + 1) 29 [.int .i64 0, .int .i64 0, .slice none 0 0, .int .i64 0, .int .u64 0, .int .u64 0, .slice none 0 0, .string ⟨#[]⟩] := by
  have h := Bx.new (((w.alloc (.cells (cellsAs ⟨1, c⟩ A B ca cb).toArray 31)).alloc (.cells #[.int .i64 2, .int .i64 ch, .string d] 33)).alloc (.cells #[.int .i64 0, .int .i64 0, .int .i64 0, .slice none 0 0, .int .i64 0, .int .u64 0, .int .u64 0, .slice none 0 0, .string ⟨#[]⟩] 31)) 29 [.int .i64 0, .int .i64 0, .slice none 0 0, .int .i64 0, .int .u64 0, .int .u64 0, .slice none 0 0, .string ⟨#[]⟩]
  rw [World.size_alloc, World.size_alloc, World.size_alloc] at h
  rw [hW0]; exact h
 have hT := fun W => rTake7_any d W hd
 unfold TpPost at hT
 have HF : Hid (feedH c d = if tpErr d = 0 then (if 0 < (tpH d).z then fMore 2 ⟨c.m, tpH d, ⟨#[]⟩⟩ else fWhole ⟨c.m, tpH d, ⟨#[]⟩⟩) else fNo (tpErr d)) := Lib.hid rfl
 unfold FdPost
 generalize feedH c d = fd at HF ⊢
 have va := hc.va.below hb0
 have vb := hc.vb.below hb0
 have HNA := Lib.hid hc.na
 have HNB := Lib.hid hc.nb
 unfold encAs encFr
 unfold cellsAs at hx hW0
 clear hc hd
 obtain ⟨⟨mc, mi, ml⟩, ⟨hc', hz', hf', hl⟩, sb⟩ := c
 dsimp only at *
 go_enter Tryz.func9, Tryz.ntmps9
 go_upto_region 1 with fail
 rw [← hW0]
 clear hW0
 have hlt := hq.lt
 obtain ⟨x0, x1, x2, x3, x4, x5, x6, x7, x8⟩ := hx.nine
 have t0 := hf.cell 0 (by simp)
 have t2 := hf.cell 2 (by simp)
 dsimp only [List.getElem_cons_zero, List.getElem_cons_succ] at t0 t2
 obtain ⟨W1, hW1⟩ : ∃ W1, W1 = W0.alloc (.cells #[.int .i64 mc, .int .i64 mi, .slice A ml.length ca, .int .i64 hc', .int .u64 hz', .int .u64 hf', .slice B hl.length cb, .string sb] 29) := ⟨_, rfl⟩
 have hb1 : Below W0.heap.size W0 W1 := by rw [hW1]; exact (Below.refl _ W0).alloc (Nat.le_refl _) _
 have hB1 := hb0.trans (hb1.mono hb0.size)
 have hk1 : Bx W1 W0.heap.size 29 [.int .i64 mc, .int .i64 mi, .slice A ml.length ca, .int .i64 hc', .int .u64 hz', .int .u64 hf', .slice B hl.length cb, .string sb] := by rw [hW1]; exact Bx.new W0 _ _
 have hx1 := hx.kept hb1
 have hf1 := hf.kept hb1
 have hr1 := hr.kept hb1
 have hq1 := hq.kept hb1
 replace va := va.below hb1
 replace vb := vb.below hb1
 go_upto_region 6 with fail
 rw [← hW1]
 clear hW1 hx hf hr hq hb0 hb1 x0 x1 x2 x3 x4 x5 x6 x7 x8 t0 t2
 obtain ⟨x0, x1, x2, x3, x4, x5, x6, x7, x8⟩ := hx1.nine
 have t2 := hf1.cell 2 (by simp)
 dsimp only [List.getElem_cons_zero, List.getElem_cons_succ] at t2
 go_wp2_with fail
 with_reducible refine (hT W1).mono ?_
 rintro e w1 (⟨ht, A2, c2, rfl, hV, hN, hb⟩ | ⟨ht, rfl, hb⟩)
 · have hB2 := hB1.trans (hb.mono hB1.size)
   have hx2 := hx1.kept hb
   have hk2 := hk1.kept hb
   have hr2 := hr1.kept hb
   have hq2 := hq1.kept hb
   have hz0 : 0 ≤ (tpH d).z := (tp_forth ht).2.2.1.1
   have HF2 : Hid (fd = if 0 < (tpH d).z then fMore 2 ⟨⟨mc, mi, ml⟩, tpH d, ⟨#[]⟩⟩ else fWhole ⟨⟨mc, mi, ml⟩, tpH d, ⟨#[]⟩⟩) := Lib.hid (by rw [HF.out, if_pos ht])
   have HNH := Lib.hid hN
   clear HF ht hT hN
   generalize tpH d = h at HF2 hV HNH hz0 ⊢
   replace va := va.below hb
   clear vb hb hB1 hx1 hk1 hr1 hq1 hf1 x0 x1 x2 x3 x4 x5 x6 x7 x8 t2
   obtain ⟨W2, hW2⟩ : ∃ W2, W2 = w1.alloc (.cells #[.int .i64 h.c, .int .u64 h.z, .int .u64 h.f, .slice A2 h.l.length c2] 27) := ⟨_, rfl⟩
   have hb2 : Below w1.heap.size w1 W2 := by rw [hW2]; exact (Below.refl _ w1).alloc (Nat.le_refl _) _
   have hB3 := hB2.trans (hb2.mono hB2.size)
   have hx3 := hx2.kept hb2
   have hk3 := hk2.kept hb2
   have hr3 := hr2.kept hb2
   have hq3' := hq2.kept hb2
   have hm3 : Bx W2 w1.heap.size 27 [.int .i64 h.c, .int .u64 h.z, .int .u64 h.f, .slice A2 h.l.length c2] := by rw [hW2]; exact Bx.new w1 _ _
   have hne : w1.heap.size ≠ W0.heap.size := by have := hk2.lt; omega
   have hV3 := hV.below hb2
   replace va := va.below hb2
   clear hB2 hx2 hk2 hr2 hq2 hV hb2
   unfold encH
   go_upto_region 17 with fail
   rw [← hW2]
   clear hW2
   obtain ⟨m0, m1, m2, m3⟩ := hm3.four4
   obtain ⟨x0, x1, x2, x3, x4, x5, x6, x7, x8⟩ := hx3.nine
   obtain ⟨a0, f0, a1, f1, a2, f2, a3, f3, a4, f4, a5, f5, a6, f6, a7, f7, bK⟩ := hk3.store8 (.int .i64 mc) (.int .i64 mi) (.slice A ml.length ca) (.int .i64 h.c) (.int .u64 h.z) (.int .u64 h.f) (.slice A2 h.l.length c2) (.string ⟨#[]⟩)
   have hx4 := ((((((((hx3.other (B' := W0.heap.size) (by have := hx3.lt; omega) 0 (.int .i64 mc)).other (B' := W0.heap.size) (by have := hx3.lt; omega) 1 (.int .i64 mi)).other (B' := W0.heap.size) (by have := hx3.lt; omega) 2 (.slice A ml.length ca)).other (B' := W0.heap.size) (by have := hx3.lt; omega) 3 (.int .i64 h.c)).other (B' := W0.heap.size) (by have := hx3.lt; omega) 4 (.int .u64 h.z)).other (B' := W0.heap.size) (by have := hx3.lt; omega) 5 (.int .u64 h.f)).other (B' := W0.heap.size) (by have := hx3.lt; omega) 6 (.slice A2 h.l.length c2)).other (B' := W0.heap.size) (by have := hx3.lt; omega) 7 (.string ⟨#[]⟩))
   have hr4 := ((((((((hr3.other (B' := W0.heap.size) (by omega) 0 (.int .i64 mc)).other (B' := W0.heap.size) (by omega) 1 (.int .i64 mi)).other (B' := W0.heap.size) (by omega) 2 (.slice A ml.length ca)).other (B' := W0.heap.size) (by omega) 3 (.int .i64 h.c)).other (B' := W0.heap.size) (by omega) 4 (.int .u64 h.z)).other (B' := W0.heap.size) (by omega) 5 (.int .u64 h.f)).other (B' := W0.heap.size) (by omega) 6 (.slice A2 h.l.length c2)).other (B' := W0.heap.size) (by omega) 7 (.string ⟨#[]⟩))
   have hq4 := ((((((((hq3'.other (B' := W0.heap.size) (by omega) 0 (.int .i64 mc)).other (B' := W0.heap.size) (by omega) 1 (.int .i64 mi)).other (B' := W0.heap.size) (by omega) 2 (.slice A ml.length ca)).other (B' := W0.heap.size) (by omega) 3 (.int .i64 h.c)).other (B' := W0.heap.size) (by omega) 4 (.int .u64 h.z)).other (B' := W0.heap.size) (by omega) 5 (.int .u64 h.f)).other (B' := W0.heap.size) (by omega) 6 (.slice A2 h.l.length c2)).other (B' := W0.heap.size) (by omega) 7 (.string ⟨#[]⟩))
   have hm4 := ((((((((hm3.other (B' := W0.heap.size) (by omega) 0 (.int .i64 mc)).other (B' := W0.heap.size) (by omega) 1 (.int .i64 mi)).other (B' := W0.heap.size) (by omega) 2 (.slice A ml.length ca)).other (B' := W0.heap.size) (by omega) 3 (.int .i64 h.c)).other (B' := W0.heap.size) (by omega) 4 (.int .u64 h.z)).other (B' := W0.heap.size) (by omega) 5 (.int .u64 h.f)).other (B' := W0.heap.size) (by omega) 6 (.slice A2 h.l.length c2)).other (B' := W0.heap.size) (by omega) 7 (.string ⟨#[]⟩))
   have hB4 := below_store8 hB3 (B := W0.heap.size) (by omega) (.int .i64 mc) (.int .i64 mi) (.slice A ml.length ca) (.int .i64 h.c) (.int .u64 h.z) (.int .u64 h.f) (.slice A2 h.l.length c2) (.string ⟨#[]⟩)
   have hV4 := vals_store8 hk3 (noVal_cmd _ _ _ _ _ _ _ _ (fun r h => by cases h) (fun k n h => by cases h)) hV3 (.int .i64 mc) (.int .i64 mi) (.slice A ml.length ca) (.int .i64 h.c) (.int .u64 h.z) (.int .u64 h.f) (.slice A2 h.l.length c2) (.string ⟨#[]⟩)
   have hU4 := vals_store8 hk3 (noVal_cmd _ _ _ _ _ _ _ _ (fun r h => by cases h) (fun k n h => by cases h)) va (.int .i64 mc) (.int .i64 mi) (.slice A ml.length ca) (.int .i64 h.c) (.int .u64 h.z) (.int .u64 h.f) (.slice A2 h.l.length c2) (.string ⟨#[]⟩)
   obtain ⟨W4, hW4⟩ : ∃ W4, W4 = ((((((((W2.setCell ⟨W0.heap.size, 0, none⟩ (.int .i64 mc)).setCell ⟨W0.heap.size, 1, none⟩ (.int .i64 mi)).setCell ⟨W0.heap.size, 2, none⟩ (.slice A ml.length ca)).setCell ⟨W0.heap.size, 3, none⟩ (.int .i64 h.c)).setCell ⟨W0.heap.size, 4, none⟩ (.int .u64 h.z)).setCell ⟨W0.heap.size, 5, none⟩ (.int .u64 h.f)).setCell ⟨W0.heap.size, 6, none⟩ (.slice A2 h.l.length c2)).setCell ⟨W0.heap.size, 7, none⟩ (.string ⟨#[]⟩)) := ⟨_, rfl⟩
   rw [← hW4] at bK hx4 hr4 hq4 hm4 hB4 hV4 hU4
   go_upto_region 18 with fail
   rw [← hW4]
   clear hW4 a0 f0 a1 f1 a2 f2 a3 f3 a4 f4 a5 f5 a6 f6 a7 f7 hx3 hk3 hr3 hq3' hm3 hB3 hV3 va m0 m1 m2 m3 x0 x1 x2 x3 x4 x5 x6 x7 x8 hne
   have x0 := hx4.nine.1
   have m1 := hm4.four4.2.1
   clear hx4 hm4
   by_cases hz : h.z = 0
   · have HE : Hid (fd = fWhole ⟨⟨mc, mi, ml⟩, h, ⟨#[]⟩⟩) := Lib.hid (by rw [HF2.out, if_neg (by omega)])
     have tz : (h.z == 0) = true := by simpa using hz
     clear HF2 hz hz0
     go_upto_region 25 with fail
     have bR := (hr4.store9 (.int .i64 0) (.int .i64 0) (.int .i64 0) (.slice none 0 0) (.int .i64 0) (.int .u64 0) (.int .u64 0) (.slice none 0 0) (.string ⟨#[]⟩)).2.2.2.2.2.2.2.2.2.2.2.2.2.2.2.2.2.2
     have hq3 := (((((((((hq4.other (B' := w.heap.size + 1 + 1) (by omega) 0 (.int .i64 0)).other (B' := w.heap.size + 1 + 1) (by omega) 1 (.int .i64 0)).other (B' := w.heap.size + 1 + 1) (by omega) 2 (.int .i64 0)).other (B' := w.heap.size + 1 + 1) (by omega) 3 (.slice none 0 0)).other (B' := w.heap.size + 1 + 1) (by omega) 4 (.int .i64 0)).other (B' := w.heap.size + 1 + 1) (by omega) 5 (.int .u64 0)).other (B' := w.heap.size + 1 + 1) (by omega) 6 (.int .u64 0)).other (B' := w.heap.size + 1 + 1) (by omega) 7 (.slice none 0 0)).other (B' := w.heap.size + 1 + 1) (by omega) 8 (.string ⟨#[]⟩))
     have bQ := (hq3.store8 (.int .i64 mc) (.int .i64 mi) (.slice A ml.length ca) (.int .i64 h.c) (.int .u64 h.z) (.int .u64 h.f) (.slice A2 h.l.length c2) (.string ⟨#[]⟩)).2.2.2.2.2.2.2.2.2.2.2.2.2.2.2.2
     have bR2 := ((((((((bR.other (B' := w.heap.size + 1 + 1 + 1) (by omega) 0 (.int .i64 mc)).other (B' := w.heap.size + 1 + 1 + 1) (by omega) 1 (.int .i64 mi)).other (B' := w.heap.size + 1 + 1 + 1) (by omega) 2 (.slice A ml.length ca)).other (B' := w.heap.size + 1 + 1 + 1) (by omega) 3 (.int .i64 h.c)).other (B' := w.heap.size + 1 + 1 + 1) (by omega) 4 (.int .u64 h.z)).other (B' := w.heap.size + 1 + 1 + 1) (by omega) 5 (.int .u64 h.f)).other (B' := w.heap.size + 1 + 1 + 1) (by omega) 6 (.slice A2 h.l.length c2)).other (B' := w.heap.size + 1 + 1 + 1) (by omega) 7 (.string ⟨#[]⟩))
     have hBz := below_store8 (below_store9 hB4 (B := w.heap.size + 1 + 1) (by omega) (.int .i64 0) (.int .i64 0) (.int .i64 0) (.slice none 0 0) (.int .i64 0) (.int .u64 0) (.int .u64 0) (.slice none 0 0) (.string ⟨#[]⟩)) (B := w.heap.size + 1 + 1 + 1) (by omega) (.int .i64 mc) (.int .i64 mi) (.slice A ml.length ca) (.int .i64 h.c) (.int .u64 h.z) (.int .u64 h.f) (.slice A2 h.l.length c2) (.string ⟨#[]⟩)
     have hva := vals_store8 hq3 noVal_zero8 (vals_store9 hr4 noVal_zero9 hU4 (.int .i64 0) (.int .i64 0) (.int .i64 0) (.slice none 0 0) (.int .i64 0) (.int .u64 0) (.int .u64 0) (.slice none 0 0) (.string ⟨#[]⟩)) (.int .i64 mc) (.int .i64 mi) (.slice A ml.length ca) (.int .i64 h.c) (.int .u64 h.z) (.int .u64 h.f) (.slice A2 h.l.length c2) (.string ⟨#[]⟩)
     have hvb := vals_store8 hq3 noVal_zero8 (vals_store9 hr4 noVal_zero9 hV4 (.int .i64 0) (.int .i64 0) (.int .i64 0) (.slice none 0 0) (.int .i64 0) (.int .u64 0) (.int .u64 0) (.slice none 0 0) (.string ⟨#[]⟩)) (.int .i64 mc) (.int .i64 mi) (.slice A ml.length ca) (.int .i64 h.c) (.int .u64 h.z) (.int .u64 h.f) (.slice A2 h.l.length c2) (.string ⟨#[]⟩)
     obtain ⟨W9, hW9⟩ : ∃ W9, W9 = (((((((((((((((((W4.setCell ⟨w.heap.size + 1 + 1, 0, none⟩ (.int .i64 0)).setCell ⟨w.heap.size + 1 + 1, 1, none⟩ (.int .i64 0)).setCell ⟨w.heap.size + 1 + 1, 2, none⟩ (.int .i64 0)).setCell ⟨w.heap.size + 1 + 1, 3, none⟩ (.slice none 0 0)).setCell ⟨w.heap.size + 1 + 1, 4, none⟩ (.int .i64 0)).setCell ⟨w.heap.size + 1 + 1, 5, none⟩ (.int .u64 0)).setCell ⟨w.heap.size + 1 + 1, 6, none⟩ (.int .u64 0)).setCell ⟨w.heap.size + 1 + 1, 7, none⟩ (.slice none 0 0)).setCell ⟨w.heap.size + 1 + 1, 8, none⟩ (.string ⟨#[]⟩)).setCell ⟨w.heap.size + 1 + 1 + 1, 0, none⟩ (.int .i64 mc)).setCell ⟨w.heap.size + 1 + 1 + 1, 1, none⟩ (.int .i64 mi)).setCell ⟨w.heap.size + 1 + 1 + 1, 2, none⟩ (.slice A ml.length ca)).setCell ⟨w.heap.size + 1 + 1 + 1, 3, none⟩ (.int .i64 h.c)).setCell ⟨w.heap.size + 1 + 1 + 1, 4, none⟩ (.int .u64 h.z)).setCell ⟨w.heap.size + 1 + 1 + 1, 5, none⟩ (.int .u64 h.f)).setCell ⟨w.heap.size + 1 + 1 + 1, 6, none⟩ (.slice A2 h.l.length c2)).setCell ⟨w.heap.size + 1 + 1 + 1, 7, none⟩ (.string ⟨#[]⟩)) := ⟨_, rfl⟩
     rw [← hW9] at bQ bR2 hBz hva hvb
     have HW9 := Lib.hid hW9
     have HQ : Hid (Bx W9.drew (w.heap.size + 1 + 1 + 1) 29 [.int .i64 mc, .int .i64 mi, .slice A ml.length ca, .int .i64 h.c, .int .u64 h.z, .int .u64 h.f, .slice A2 h.l.length c2, .string ⟨#[]⟩]) := Lib.hid bQ
     have HR : Hid (Bx W9.drew (w.heap.size + 1 + 1) 31 [.int .i64 0, .int .i64 0, .int .i64 0, .slice none 0 0, .int .i64 0, .int .u64 0, .int .u64 0, .slice none 0 0, .string ⟨#[]⟩]) := Lib.hid bR2
     have hBz := hBz.drew
     have hva := hva.below (Below.refl _ W9).drew
     have hvb := hvb.below (Below.refl _ W9).drew
     have HVA := Lib.hid hva
     have HVB := Lib.hid hvb
     obtain ⟨a0, a1, a2, a3, a4, a5, a6, a7, a8⟩ := hr4.nine
     obtain ⟨k0, k1, k2, k3, k4, k5, k6, k7⟩ := hq4.eight
     obtain ⟨m0, m1, m2, m3, m4, m5, m6, m7⟩ := bK.eight
     have f0 := hr4.frozen 0
     have f1 := hr4.frozen 1
     have f2 := hr4.frozen 2
     have f3 := hr4.frozen 3
     have f4 := hr4.frozen 4
     have f5 := hr4.frozen 5
     have f6 := hr4.frozen 6
     have f7 := hr4.frozen 7
     have f8 := hr4.frozen 8
     have g0 := hq4.frozen 0
     have g1 := hq4.frozen 1
     have g2 := hq4.frozen 2
     have g3 := hq4.frozen 3
     have g4 := hq4.frozen 4
     have g5 := hq4.frozen 5
     have g6 := hq4.frozen 6
     have g7 := hq4.frozen 7
     have ne1 : ¬ (W0.heap.size = w.heap.size + 1 + 1) := by omega
     have ne2 : ¬ (w.heap.size + 1 + 1 = W0.heap.size) := by omega
     clear hr4 hq4 bK hq3 bR bQ bR2 hB4 hU4 hV4 hW9 hva hvb
     go_region
     rw [← HW9.out]
     clear a0 f0 a1 f1 a2 f2 a3 f3 a4 f4 a5 f5 a6 f6 a7 f7 a8 f8 k0 g0 m0 k1 g1 m1 k2 g2 m2 k3 g3 m3 k4 g4 m4 k5 g5 m5 k6 g6 m6 k7 g7 m7 ne1 ne2
     obtain ⟨q0, q1, q2, q3, q4, q5, q6, q7⟩ := HQ.out.eight
     obtain ⟨r0, r1, r2, r3, r4, r5, r6, r7, r8⟩ := HR.out.nine
     go_wp2
     refine bodyPost_ret (v := .tuple #[.agg #[.int .i64 0, .int .i64 0, .int .i64 0, .slice none 0 0, .int .i64 0, .int .u64 0, .int .u64 0, .slice none 0 0, .string ⟨#[]⟩], .agg #[.int .i64 mc, .int .i64 mi, .slice A ml.length ca, .int .i64 h.c, .int .u64 h.z, .int .u64 h.f, .slice A2 h.l.length c2, .string ⟨#[]⟩], .bool true, .int .i64 0]) ?_ rfl ⟨none, none, A, A2, 0, 0, ca, c2, by rw [HE.out]; rfl, by rw [HE.out]; exact cmAt0 _, by rw [HE.out]; exact ⟨HVA.out, HVB.out, HNA.out, HNH.out⟩, hBz⟩
     rw [results_cctt rfl]
     simp [asAddr, Result.andThen, go_sem, q0, q1, q2, q3, q4, q5, q6, q7, r0, r1, r2, r3, r4, r5, r6, r7, r8]
   · have HE : Hid (fd = fMore 2 ⟨⟨mc, mi, ml⟩, h, ⟨#[]⟩⟩) := Lib.hid (by rw [HF2.out, if_pos (by omega)])
     have tz : (h.z == 0) = false := by simpa using hz
     clear HF2 hz hz0
     go_upto_region 29 with fail
     obtain ⟨a0, f0, a1, f1, a2, f2, a3, f3, a4, f4, a5, f5, a6, f6, a7, f7, a8, f8, bR⟩ := (hr4).store9 (.int .i64 2) (.int .i64 mc) (.int .i64 mi) (.slice A ml.length ca) (.int .i64 h.c) (.int .u64 h.z) (.int .u64 h.f) (.slice A2 h.l.length c2) (.string ⟨#[]⟩)
     have hq3 := (((((((((hq4.other (B' := w.heap.size + 1 + 1) (by omega) 0 (.int .i64 2)).other (B' := w.heap.size + 1 + 1) (by omega) 1 (.int .i64 mc)).other (B' := w.heap.size + 1 + 1) (by omega) 2 (.int .i64 mi)).other (B' := w.heap.size + 1 + 1) (by omega) 3 (.slice A ml.length ca)).other (B' := w.heap.size + 1 + 1) (by omega) 4 (.int .i64 h.c)).other (B' := w.heap.size + 1 + 1) (by omega) 5 (.int .u64 h.z)).other (B' := w.heap.size + 1 + 1) (by omega) 6 (.int .u64 h.f)).other (B' := w.heap.size + 1 + 1) (by omega) 7 (.slice A2 h.l.length c2)).other (B' := w.heap.size + 1 + 1) (by omega) 8 (.string ⟨#[]⟩))
     obtain ⟨k0, g0, k1, g1, k2, g2, k3, g3, k4, g4, k5, g5, k6, g6, k7, g7, bQ⟩ := hq3.store8 (.int .i64 0) (.int .i64 0) (.slice none 0 0) (.int .i64 0) (.int .u64 0) (.int .u64 0) (.slice none 0 0) (.string ⟨#[]⟩)
     have bR2 := ((((((((bR.other (B' := w.heap.size + 1 + 1 + 1) (by omega) 0 (.int .i64 0)).other (B' := w.heap.size + 1 + 1 + 1) (by omega) 1 (.int .i64 0)).other (B' := w.heap.size + 1 + 1 + 1) (by omega) 2 (.slice none 0 0)).other (B' := w.heap.size + 1 + 1 + 1) (by omega) 3 (.int .i64 0)).other (B' := w.heap.size + 1 + 1 + 1) (by omega) 4 (.int .u64 0)).other (B' := w.heap.size + 1 + 1 + 1) (by omega) 5 (.int .u64 0)).other (B' := w.heap.size + 1 + 1 + 1) (by omega) 6 (.slice none 0 0)).other (B' := w.heap.size + 1 + 1 + 1) (by omega) 7 (.string ⟨#[]⟩))
     have hBy := below_store9 hB4 (B := w.heap.size + 1 + 1) (by omega) (.int .i64 2) (.int .i64 mc) (.int .i64 mi) (.slice A ml.length ca) (.int .i64 h.c) (.int .u64 h.z) (.int .u64 h.f) (.slice A2 h.l.length c2) (.string ⟨#[]⟩)
     have hBz := below_store8 hBy (B := w.heap.size + 1 + 1 + 1) (by omega) (.int .i64 0) (.int .i64 0) (.slice none 0 0) (.int .i64 0) (.int .u64 0) (.int .u64 0) (.slice none 0 0) (.string ⟨#[]⟩)
     obtain ⟨q0, q1, q2, q3, q4, q5, q6, q7⟩ := bQ.eight
     obtain ⟨r0, r1, r2, r3, r4, r5, r6, r7, r8⟩ := bR2.nine
     have HVA := Lib.hid (vals_store8 hq3 noVal_zero8 (vals_store9 hr4 noVal_zero9 hU4 (.int .i64 2) (.int .i64 mc) (.int .i64 mi) (.slice A ml.length ca) (.int .i64 h.c) (.int .u64 h.z) (.int .u64 h.f) (.slice A2 h.l.length c2) (.string ⟨#[]⟩)) (.int .i64 0) (.int .i64 0) (.slice none 0 0) (.int .i64 0) (.int .u64 0) (.int .u64 0) (.slice none 0 0) (.string ⟨#[]⟩))
     have HVB := Lib.hid (vals_store8 hq3 noVal_zero8 (vals_store9 hr4 noVal_zero9 hV4 (.int .i64 2) (.int .i64 mc) (.int .i64 mi) (.slice A ml.length ca) (.int .i64 h.c) (.int .u64 h.z) (.int .u64 h.f) (.slice A2 h.l.length c2) (.string ⟨#[]⟩)) (.int .i64 0) (.int .i64 0) (.slice none 0 0) (.int .i64 0) (.int .u64 0) (.int .u64 0) (.slice none 0 0) (.string ⟨#[]⟩))
     obtain ⟨m0, m1, m2, m3, m4, m5, m6, m7⟩ := bK.eight
     clear hr4 hq4 bK hq3 bR bQ bR2 hBy hB4
     go_wp2
     refine bodyPost_ret (v := .tuple #[.agg #[.int .i64 2, .int .i64 mc, .int .i64 mi, .slice A ml.length ca, .int .i64 h.c, .int .u64 h.z, .int .u64 h.f, .slice A2 h.l.length c2, .string ⟨#[]⟩], .agg #[.int .i64 0, .int .i64 0, .slice none 0 0, .int .i64 0, .int .u64 0, .int .u64 0, .slice none 0 0, .string ⟨#[]⟩], .bool false, .int .i64 0]) ?_ rfl ⟨A, A2, none, none, ca, c2, 0, 0, by rw [HE.out]; rfl, by rw [HE.out]; exact ⟨HVA.out, HVB.out, HNA.out, HNH.out⟩, by rw [HE.out]; exact cmAt0 _, hBz⟩
     rw [results_cctt rfl]
     simp [asAddr, Result.andThen, go_sem, q0, q1, q2, q3, q4, q5, q6, q7, r0, r1, r2, r3, r4, r5, r6, r7, r8]
 · have hB2 := hB1.trans (hb.mono hB1.size)
   have hx2 := hx1.kept hb
   have hk2 := hk1.kept hb
   have hr2 := hr1.kept hb
   have hq2 := hq1.kept hb
   have HE : Hid (fd = fNo (tpErr d)) := Lib.hid (by rw [HF.out, if_neg ht])
   have te : (tpErr d != 0) = true := by simpa using ht
   clear HF ht hT hb hB1 hx1 hk1 hr1 hq1 hf1 va vb x0 x1 x2 x3 x4 x5 x6 x7 x8 t2
   obtain ⟨W2, hW2⟩ : ∃ W2, W2 = w1.alloc (.cells #[.int .i64 0, .int .u64 0, .int .u64 0, .slice none 0 0] 27) := ⟨_, rfl⟩
   have hb2 : Below w1.heap.size w1 W2 := by rw [hW2]; exact (Below.refl _ w1).alloc (Nat.le_refl _) _
   have hB3 := hB2.trans (hb2.mono hB2.size)
   have hx3 := hx2.kept hb2
   have hk3 := hk2.kept hb2
   have hr3 := hr2.kept hb2
   have hq3' := hq2.kept hb2
   have hm3 : Bx W2 w1.heap.size 27 [.int .i64 0, .int .u64 0, .int .u64 0, .slice none 0 0] := by rw [hW2]; exact Bx.new w1 _ _
   have hne : w1.heap.size ≠ W0.heap.size := by have := hk2.lt; omega
   clear hB2 hx2 hk2 hr2 hq2 hb2 hm3 hne hx3 hk3
   unfold noneH
   go_upto_region 16 with fail
   rw [← hW2]
   clear hW2
   go_wp2_with fail
   with_reducible refine (rno_any (tpErr d) W2).mono ?_
   rintro e w5 ⟨rfl, hbn⟩
   have hBn := hB3.trans (hbn.mono hB3.size)
   have hrn := hr3.kept hbn
   have hqn := hq3'.kept hbn
   clear hbn hB3 hr3 hq3' 
   obtain ⟨a0, f0, a1, f1, a2, f2, a3, f3, a4, f4, a5, f5, a6, f6, a7, f7, a8, f8, bR⟩ := (hrn).store9 (.int .i64 0) (.int .i64 0) (.int .i64 0) (.slice none 0 0) (.int .i64 0) (.int .u64 0) (.int .u64 0) (.slice none 0 0) (.string ⟨#[]⟩)
   have hq3 := (((((((((hqn.other (B' := w.heap.size + 1 + 1) (by omega) 0 (.int .i64 0)).other (B' := w.heap.size + 1 + 1) (by omega) 1 (.int .i64 0)).other (B' := w.heap.size + 1 + 1) (by omega) 2 (.int .i64 0)).other (B' := w.heap.size + 1 + 1) (by omega) 3 (.slice none 0 0)).other (B' := w.heap.size + 1 + 1) (by omega) 4 (.int .i64 0)).other (B' := w.heap.size + 1 + 1) (by omega) 5 (.int .u64 0)).other (B' := w.heap.size + 1 + 1) (by omega) 6 (.int .u64 0)).other (B' := w.heap.size + 1 + 1) (by omega) 7 (.slice none 0 0)).other (B' := w.heap.size + 1 + 1) (by omega) 8 (.string ⟨#[]⟩))
   obtain ⟨k0, g0, k1, g1, k2, g2, k3, g3, k4, g4, k5, g5, k6, g6, k7, g7, bQ⟩ := hq3.store8 (.int .i64 0) (.int .i64 0) (.slice none 0 0) (.int .i64 0) (.int .u64 0) (.int .u64 0) (.slice none 0 0) (.string ⟨#[]⟩)
   have bR2 := ((((((((bR.other (B' := w.heap.size + 1 + 1 + 1) (by omega) 0 (.int .i64 0)).other (B' := w.heap.size + 1 + 1 + 1) (by omega) 1 (.int .i64 0)).other (B' := w.heap.size + 1 + 1 + 1) (by omega) 2 (.slice none 0 0)).other (B' := w.heap.size + 1 + 1 + 1) (by omega) 3 (.int .i64 0)).other (B' := w.heap.size + 1 + 1 + 1) (by omega) 4 (.int .u64 0)).other (B' := w.heap.size + 1 + 1 + 1) (by omega) 5 (.int .u64 0)).other (B' := w.heap.size + 1 + 1 + 1) (by omega) 6 (.slice none 0 0)).other (B' := w.heap.size + 1 + 1 + 1) (by omega) 7 (.string ⟨#[]⟩))
   have hBy := below_store9 hBn (B := w.heap.size + 1 + 1) (by omega) (.int .i64 0) (.int .i64 0) (.int .i64 0) (.slice none 0 0) (.int .i64 0) (.int .u64 0) (.int .u64 0) (.slice none 0 0) (.string ⟨#[]⟩)
   have hBz := below_store8 hBy (B := w.heap.size + 1 + 1 + 1) (by omega) (.int .i64 0) (.int .i64 0) (.slice none 0 0) (.int .i64 0) (.int .u64 0) (.int .u64 0) (.slice none 0 0) (.string ⟨#[]⟩)
   obtain ⟨q0, q1, q2, q3, q4, q5, q6, q7⟩ := bQ.eight
   obtain ⟨r0, r1, r2, r3, r4, r5, r6, r7, r8⟩ := bR2.nine
   clear hrn hqn bR hq3 bQ bR2 hBn hBy
   go_wp2
   refine bodyPost_ret (v := .tuple #[.agg #[.int .i64 0, .int .i64 0, .int .i64 0, .slice none 0 0, .int .i64 0, .int .u64 0, .int .u64 0, .slice none 0 0, .string ⟨#[]⟩], .agg #[.int .i64 0, .int .i64 0, .slice none 0 0, .int .i64 0, .int .u64 0, .int .u64 0, .slice none 0 0, .string ⟨#[]⟩], .bool false, .int .i64 (tpErr d)]) ?_ rfl ⟨none, none, none, none, 0, 0, 0, 0, by rw [HE.out]; rfl, by rw [HE.out]; exact cmAt0 _, by rw [HE.out]; exact cmAt0 _, hBz⟩
   rw [results_cctt rfl]
   simp [asAddr, Result.andThen, go_sem, q0, q1, q2, q3, q4, q5, q6, q7, r0, r1, r2, r3, r4, r5, r6, r7, r8]
end Go.Proofs.YtllgkohgcicbhaaGreatDoor
