/-
  The document's own Feed takes a frame that begins a command; nothing that was there is changed. Conditions: the values lie in old memory; bytes of fewer than 2^62.
-/
import Derived.Deep.DeepCutAuto
import Derived.Test.YtllgkohgcicbhaaGreatDoorWFeedC
import Derived.Test.YtllgkohgcicbhaaGreatDoorRFeedN
import Derived.Test.YtllgkohgcicbhaaGreatDoorRCRight
import Derived.Test.YtllgkohgcicbhaaGreatDoorRMTake
namespace Go.Proofs.YtllgkohgcicbhaaGreatDoor
open Go.RowKit

theorem Bx.three3 {W : World} {B : Nat} {t : TypeId} {a b c : Value} (x : Bx W B t [a, b, c]) : W.cell? ⟨B, 0, none⟩ = some a ∧ W.cell? ⟨B, 1, none⟩ = some b ∧ W.cell? ⟨B, 2, none⟩ = some c :=
 ⟨x.cell 0 (by simp), x.cell 1 (by simp), x.cell 2 (by simp)⟩
theorem Bx.four4 {W : World} {B : Nat} {t : TypeId} {a b c d : Value} (x : Bx W B t [a, b, c, d]) : W.cell? ⟨B, 0, none⟩ = some a ∧ W.cell? ⟨B, 1, none⟩ = some b ∧ W.cell? ⟨B, 2, none⟩ = some c ∧ W.cell? ⟨B, 3, none⟩ = some d :=
 ⟨x.cell 0 (by simp), x.cell 1 (by simp), x.cell 2 (by simp), x.cell 3 (by simp)⟩
set_option maxRecDepth 100000 in
set_option maxHeartbeats 4000000 in
theorem rfeed_at0 (c : Cm) (A B : Option Addr) (ca cb : Nat) (ch : Int) (d : ByteArray) (w : World) (hc : CmAt w c A B ca cb) (hd : d.size < 4611686018427387904) :
 Calls Tryz.prog 9 #[encAs ⟨0, c⟩ A B ca cb, encFr ⟨1, ch, d⟩] w (FdPost (feedM d) w) := by
 obtain ⟨W0, hW0⟩ : ∃ W0, W0 = (((w.alloc (.cells (cellsAs ⟨0, c⟩ A B ca cb).toArray 31)).alloc (.cells #[.int .i64 1, .int .i64 ch, .string d] 33)).alloc (.cells #[.int .i64 0, .int .i64 0, .int .i64 0, .slice none 0 0, .int .i64 0, .int .u64 0, .int .u64 0, .slice none 0 0, .string ⟨#[]⟩] 31)).alloc (.cells #[.int .i64 0, .int .i64 0, .slice none 0 0, .int .i64 0, .int .u64 0, .int .u64 0, .slice none 0 0, .string ⟨#[]⟩] 29) := ⟨_, rfl⟩
 have hb0 : Below w.heap.size w W0 := by rw [hW0]; exact ((((Below.refl _ w).alloc (Nat.le_refl _) _).alloc (by simp) _).alloc (by simp; omega) _).alloc (by simp; omega) _
 have hx : Bx W0 w.heap.size 31 (cellsAs ⟨0, c⟩ A B ca cb) := by rw [hW0]; exact (((Bx.new w 31 (cellsAs ⟨0, c⟩ A B ca cb)).alloc _).alloc _).alloc _
 have hf : Bx W0 (w.heap.size + 1) 33 [.int .i64 1, .int .i64 ch, .string d] := by
  have h := ((Bx.new (w.alloc (.cells (cellsAs ⟨0, c⟩ A B ca cb).toArray 31)) 33 [.int .i64 1, .int .i64 ch, .string d]).alloc (.cells #[.int .i64 0, .int .i64 0, .int .i64 0, .slice none 0 0, .int .i64 0, .int .u64 0, .int .u64 0, .slice none 0 0, .string ⟨#[]⟩] 31)).alloc (.cells #[.int .i64 0, .int .i64 0, .slice none 0 0, .int .i64 0, .int .u64 0, .int .u64 0, .slice none 0 0, .string ⟨#[]⟩] 29)
  rw [World.size_alloc] at h
  rw [hW0]; exact h
 have hr : Bx W0 (w.heap.size + 1 + 1) 31 [.int .i64 0, .int .i64 0, .int .i64 0, .slice none 0 0, .int .i64 0, .int .u64 0, .int .u64 0, .slice none 0 0, .string ⟨#[]⟩] := by
  have h := (Bx.new ((w.alloc (.cells (cellsAs ⟨0, c⟩ A B ca cb).toArray 31)).alloc (.cells #[.int .i64 1, .int .i64 ch, .string d] 33)) 31 [.int .i64 0, .int .i64 0, .int .i64 0, .slice none 0 0, .int .i64 0, .int .u64 0, .int .u64 0, .slice none 0 0, .string ⟨#[]⟩]).alloc (.cells #[.int .i64 0, .int .i64 0, .slice none 0 0, .int .i64 0, .int .u64 0, .int .u64 0, .slice none 0 0, .string ⟨#[]⟩] 29)
  rw [World.size_alloc, World.size_alloc] at h
  rw [hW0]; exact h
 have hq : Bx W0 (w.heap.size + 1 + 1 + 1) 29 [.int .i64 0, .int .i64 0, .slice none 0 0, .int .i64 0, .int .u64 0, .int .u64 0, .slice none 0 0, .string ⟨#[]⟩] := by
  have h := Bx.new (((w.alloc (.cells (cellsAs ⟨0, c⟩ A B ca cb).toArray 31)).alloc (.cells #[.int .i64 1, .int .i64 ch, .string d] 33)).alloc (.cells #[.int .i64 0, .int .i64 0, .int .i64 0, .slice none 0 0, .int .i64 0, .int .u64 0, .int .u64 0, .slice none 0 0, .string ⟨#[]⟩] 31)) 29 [.int .i64 0, .int .i64 0, .slice none 0 0, .int .i64 0, .int .u64 0, .int .u64 0, .slice none 0 0, .string ⟨#[]⟩]
  rw [World.size_alloc, World.size_alloc, World.size_alloc] at h
  rw [hW0]; exact h
 have hT := fun W => rTake6_any d W hd
 have HF : Hid (feedM d = match tm d with
  | none => fNo 7
  | some m => if fol m = true then fMore 1 (ofM m) else fWhole (ofM m)) := Lib.hid rfl
 unfold FdPost
 generalize feedM d = fd at HF ⊢
 have va := hc.va.below hb0
 have vb := hc.vb.below hb0
 have HNA := Lib.hid hc.na
 have HNB := Lib.hid hc.nb
 unfold encAs encFr
 unfold cellsAs at hx hW0
 clear hc hd
 obtain ⟨⟨mc, mi, ml⟩, ⟨hc', hz', hf', hl⟩, sb⟩ := c
 dsimp only at *
 go_enter Tryz.func9, Tryz.ntmps9
 go_upto_region 1 with fail
 rw [← hW0]
 clear hW0
 have hlt := hq.lt
 obtain ⟨x0, x1, x2, x3, x4, x5, x6, x7, x8⟩ := hx.nine
 have t0 := hf.cell 0 (by simp)
 have t2 := hf.cell 2 (by simp)
 dsimp only [List.getElem_cons_zero, List.getElem_cons_succ] at t0 t2
 obtain ⟨W1, hW1⟩ : ∃ W1, W1 = W0.alloc (.cells #[.int .i64 mc, .int .i64 mi, .slice A ml.length ca, .int .i64 hc', .int .u64 hz', .int .u64 hf', .slice B hl.length cb, .string sb] 29) := ⟨_, rfl⟩
 have hb1 : Below W0.heap.size W0 W1 := by rw [hW1]; exact (Below.refl _ W0).alloc (Nat.le_refl _) _
 have hB1 := hb0.trans (hb1.mono hb0.size)
 have hk1 : Bx W1 W0.heap.size 29 [.int .i64 mc, .int .i64 mi, .slice A ml.length ca, .int .i64 hc', .int .u64 hz', .int .u64 hf', .slice B hl.length cb, .string sb] := by rw [hW1]; exact Bx.new W0 _ _
 have hx1 := hx.kept hb1
 have hf1 := hf.kept hb1
 have hr1 := hr.kept hb1
 have hq1 := hq.kept hb1
 replace va := va.below hb1
 replace vb := vb.below hb1
 go_upto_region 6 with fail
 rw [← hW1]
 clear hW1 hx hf hr hq hb0 hb1 x0 x1 x2 x3 x4 x5 x6 x7 x8 t0 t2
 obtain ⟨x0, x1, x2, x3, x4, x5, x6, x7, x8⟩ := hx1.nine
 have t2 := hf1.cell 2 (by simp)
 dsimp only [List.getElem_cons_zero, List.getElem_cons_succ] at t2
 go_wp2_with fail
 with_reducible refine (hT W1).mono ?_
 rintro e w1 (⟨m, A1, c1, ht, rfl, hV, hN, hb⟩ | ⟨ht, rfl, hb⟩)
 · have hB2 := hB1.trans (hb.mono hB1.size)
   have hx2 := hx1.kept hb
   have hk2 := hk1.kept hb
   have hr2 := hr1.kept hb
   have hq2 := hq1.kept hb
   have HF2 : Hid (fd = if fol m = true then fMore 1 (ofM m) else fWhole (ofM m)) := Lib.hid (by rw [HF.out, ht])
   have HNM := Lib.hid hN
   clear HF ht hT hb hB1 hx1 hk1 hr1 hq1 hf1 va vb hN x0 x1 x2 x3 x4 x5 x6 x7 x8 t2
   obtain ⟨W2, hW2⟩ : ∃ W2, W2 = w1.alloc (.cells #[.int .i64 m.c, .int .i64 m.i, .slice A1 m.l.length c1] 24) := ⟨_, rfl⟩
   have hb2 : Below w1.heap.size w1 W2 := by rw [hW2]; exact (Below.refl _ w1).alloc (Nat.le_refl _) _
   have hB3 := hB2.trans (hb2.mono hB2.size)
   have hx3 := hx2.kept hb2
   have hk3 := hk2.kept hb2
   have hr3 := hr2.kept hb2
   have hq3' := hq2.kept hb2
   have hm3 : Bx W2 w1.heap.size 24 [.int .i64 m.c, .int .i64 m.i, .slice A1 m.l.length c1] := by rw [hW2]; exact Bx.new w1 _ _
   have hne : w1.heap.size ≠ W0.heap.size := by have := hk2.lt; omega
   have hV3 := hV.below hb2
   clear hB2 hx2 hk2 hr2 hq2 hV hb2
   unfold encM
   go_upto_region 11 with fail
   rw [← hW2]
   clear hW2
   obtain ⟨m0, m1, m2⟩ := hm3.three3
   obtain ⟨a0, f0, a1, f1, a2, f2, a3, f3, a4, f4, a5, f5, a6, f6, a7, f7, bK⟩ := hk3.store8 (.int .i64 m.c) (.int .i64 m.i) (.slice A1 m.l.length c1) (.int .i64 0) (.int .u64 0) (.int .u64 0) (.slice none 0 0) (.string ⟨#[]⟩)
   have hx4 := ((((((((hx3.other (B' := W0.heap.size) (by have := hx3.lt; omega) 0 (.int .i64 m.c)).other (B' := W0.heap.size) (by have := hx3.lt; omega) 1 (.int .i64 m.i)).other (B' := W0.heap.size) (by have := hx3.lt; omega) 2 (.slice A1 m.l.length c1)).other (B' := W0.heap.size) (by have := hx3.lt; omega) 3 (.int .i64 0)).other (B' := W0.heap.size) (by have := hx3.lt; omega) 4 (.int .u64 0)).other (B' := W0.heap.size) (by have := hx3.lt; omega) 5 (.int .u64 0)).other (B' := W0.heap.size) (by have := hx3.lt; omega) 6 (.slice none 0 0)).other (B' := W0.heap.size) (by have := hx3.lt; omega) 7 (.string ⟨#[]⟩))
   have hr4 := ((((((((hr3.other (B' := W0.heap.size) (by omega) 0 (.int .i64 m.c)).other (B' := W0.heap.size) (by omega) 1 (.int .i64 m.i)).other (B' := W0.heap.size) (by omega) 2 (.slice A1 m.l.length c1)).other (B' := W0.heap.size) (by omega) 3 (.int .i64 0)).other (B' := W0.heap.size) (by omega) 4 (.int .u64 0)).other (B' := W0.heap.size) (by omega) 5 (.int .u64 0)).other (B' := W0.heap.size) (by omega) 6 (.slice none 0 0)).other (B' := W0.heap.size) (by omega) 7 (.string ⟨#[]⟩))
   have hq4 := ((((((((hq3'.other (B' := W0.heap.size) (by omega) 0 (.int .i64 m.c)).other (B' := W0.heap.size) (by omega) 1 (.int .i64 m.i)).other (B' := W0.heap.size) (by omega) 2 (.slice A1 m.l.length c1)).other (B' := W0.heap.size) (by omega) 3 (.int .i64 0)).other (B' := W0.heap.size) (by omega) 4 (.int .u64 0)).other (B' := W0.heap.size) (by omega) 5 (.int .u64 0)).other (B' := W0.heap.size) (by omega) 6 (.slice none 0 0)).other (B' := W0.heap.size) (by omega) 7 (.string ⟨#[]⟩))
   have hm4 := ((((((((hm3.other (B' := W0.heap.size) (by omega) 0 (.int .i64 m.c)).other (B' := W0.heap.size) (by omega) 1 (.int .i64 m.i)).other (B' := W0.heap.size) (by omega) 2 (.slice A1 m.l.length c1)).other (B' := W0.heap.size) (by omega) 3 (.int .i64 0)).other (B' := W0.heap.size) (by omega) 4 (.int .u64 0)).other (B' := W0.heap.size) (by omega) 5 (.int .u64 0)).other (B' := W0.heap.size) (by omega) 6 (.slice none 0 0)).other (B' := W0.heap.size) (by omega) 7 (.string ⟨#[]⟩))
   have hB4 := below_store8 hB3 (B := W0.heap.size) (by omega) (.int .i64 m.c) (.int .i64 m.i) (.slice A1 m.l.length c1) (.int .i64 0) (.int .u64 0) (.int .u64 0) (.slice none 0 0) (.string ⟨#[]⟩)
   have hV4 := vals_store8 hk3 (noVal_cmd _ _ _ _ _ _ _ _ (fun r h => by cases h) (fun k n h => by cases h)) hV3 (.int .i64 m.c) (.int .i64 m.i) (.slice A1 m.l.length c1) (.int .i64 0) (.int .u64 0) (.int .u64 0) (.slice none 0 0) (.string ⟨#[]⟩)
   obtain ⟨W4, hW4⟩ : ∃ W4, W4 = ((((((((W2.setCell ⟨W0.heap.size, 0, none⟩ (.int .i64 m.c)).setCell ⟨W0.heap.size, 1, none⟩ (.int .i64 m.i)).setCell ⟨W0.heap.size, 2, none⟩ (.slice A1 m.l.length c1)).setCell ⟨W0.heap.size, 3, none⟩ (.int .i64 0)).setCell ⟨W0.heap.size, 4, none⟩ (.int .u64 0)).setCell ⟨W0.heap.size, 5, none⟩ (.int .u64 0)).setCell ⟨W0.heap.size, 6, none⟩ (.slice none 0 0)).setCell ⟨W0.heap.size, 7, none⟩ (.string ⟨#[]⟩)) := ⟨_, rfl⟩
   rw [← hW4] at bK hx4 hr4 hq4 hm4 hB4 hV4
   go_upto_region 12 with fail
   rw [← hW4]
   clear hW4 a0 f0 a1 f1 a2 f2 a3 f3 a4 f4 a5 f5 a6 f6 a7 f7 hx3 hk3 hr3 hq3' hm3 hB3 hV3 m0 m1 m2
   obtain ⟨m0, m1, m2⟩ := hm4.three3
   have hFl := rcont_any m A1 c1 W4
   unfold encM at hFl
   go_wp2_with fail
   with_reducible refine hFl.mono ?_
   rintro e w5 ⟨rfl, hb5⟩
   have hB5 := hB4.trans (hb5.mono hB4.size)
   have hx5 := hx4.kept hb5
   have hk5 := bK.kept hb5
   have hr5 := hr4.kept hb5
   have hq5 := hq4.kept hb5
   have hV5 := hV4.below hb5
   clear hFl hb5 hB4 hx4 bK hr4 hq4 hm4 hV4 m0 m1 m2 hne
   have x0 := hx5.nine.1
   clear hx5
   cases hfl : fol m
   · have HE : Hid (fd = fWhole (ofM m)) := Lib.hid (by rw [HF2.out, hfl]; rfl)
     clear HF2 hfl
     have hV0 := vals_none w5
     go_upto_region 25 with fail
     have bR := (hr5.store9 (.int .i64 0) (.int .i64 0) (.int .i64 0) (.slice none 0 0) (.int .i64 0) (.int .u64 0) (.int .u64 0) (.slice none 0 0) (.string ⟨#[]⟩)).2.2.2.2.2.2.2.2.2.2.2.2.2.2.2.2.2.2
     have hq3 := (((((((((hq5.other (B' := w.heap.size + 1 + 1) (by omega) 0 (.int .i64 0)).other (B' := w.heap.size + 1 + 1) (by omega) 1 (.int .i64 0)).other (B' := w.heap.size + 1 + 1) (by omega) 2 (.int .i64 0)).other (B' := w.heap.size + 1 + 1) (by omega) 3 (.slice none 0 0)).other (B' := w.heap.size + 1 + 1) (by omega) 4 (.int .i64 0)).other (B' := w.heap.size + 1 + 1) (by omega) 5 (.int .u64 0)).other (B' := w.heap.size + 1 + 1) (by omega) 6 (.int .u64 0)).other (B' := w.heap.size + 1 + 1) (by omega) 7 (.slice none 0 0)).other (B' := w.heap.size + 1 + 1) (by omega) 8 (.string ⟨#[]⟩))
     have bQ := (hq3.store8 (.int .i64 m.c) (.int .i64 m.i) (.slice A1 m.l.length c1) (.int .i64 0) (.int .u64 0) (.int .u64 0) (.slice none 0 0) (.string ⟨#[]⟩)).2.2.2.2.2.2.2.2.2.2.2.2.2.2.2.2
     have bR2 := ((((((((bR.other (B' := w.heap.size + 1 + 1 + 1) (by omega) 0 (.int .i64 m.c)).other (B' := w.heap.size + 1 + 1 + 1) (by omega) 1 (.int .i64 m.i)).other (B' := w.heap.size + 1 + 1 + 1) (by omega) 2 (.slice A1 m.l.length c1)).other (B' := w.heap.size + 1 + 1 + 1) (by omega) 3 (.int .i64 0)).other (B' := w.heap.size + 1 + 1 + 1) (by omega) 4 (.int .u64 0)).other (B' := w.heap.size + 1 + 1 + 1) (by omega) 5 (.int .u64 0)).other (B' := w.heap.size + 1 + 1 + 1) (by omega) 6 (.slice none 0 0)).other (B' := w.heap.size + 1 + 1 + 1) (by omega) 7 (.string ⟨#[]⟩))
     have hBz := below_store8 (below_store9 hB5 (B := w.heap.size + 1 + 1) (by omega) (.int .i64 0) (.int .i64 0) (.int .i64 0) (.slice none 0 0) (.int .i64 0) (.int .u64 0) (.int .u64 0) (.slice none 0 0) (.string ⟨#[]⟩)) (B := w.heap.size + 1 + 1 + 1) (by omega) (.int .i64 m.c) (.int .i64 m.i) (.slice A1 m.l.length c1) (.int .i64 0) (.int .u64 0) (.int .u64 0) (.slice none 0 0) (.string ⟨#[]⟩)
     have hva := vals_store8 hq3 noVal_zero8 (vals_store9 hr5 noVal_zero9 hV5 (.int .i64 0) (.int .i64 0) (.int .i64 0) (.slice none 0 0) (.int .i64 0) (.int .u64 0) (.int .u64 0) (.slice none 0 0) (.string ⟨#[]⟩)) (.int .i64 m.c) (.int .i64 m.i) (.slice A1 m.l.length c1) (.int .i64 0) (.int .u64 0) (.int .u64 0) (.slice none 0 0) (.string ⟨#[]⟩)
     have hvb := vals_store8 hq3 noVal_zero8 (vals_store9 hr5 noVal_zero9 hV0 (.int .i64 0) (.int .i64 0) (.int .i64 0) (.slice none 0 0) (.int .i64 0) (.int .u64 0) (.int .u64 0) (.slice none 0 0) (.string ⟨#[]⟩)) (.int .i64 m.c) (.int .i64 m.i) (.slice A1 m.l.length c1) (.int .i64 0) (.int .u64 0) (.int .u64 0) (.slice none 0 0) (.string ⟨#[]⟩)
     obtain ⟨W9, hW9⟩ : ∃ W9, W9 = (((((((((((((((((w5.setCell ⟨w.heap.size + 1 + 1, 0, none⟩ (.int .i64 0)).setCell ⟨w.heap.size + 1 + 1, 1, none⟩ (.int .i64 0)).setCell ⟨w.heap.size + 1 + 1, 2, none⟩ (.int .i64 0)).setCell ⟨w.heap.size + 1 + 1, 3, none⟩ (.slice none 0 0)).setCell ⟨w.heap.size + 1 + 1, 4, none⟩ (.int .i64 0)).setCell ⟨w.heap.size + 1 + 1, 5, none⟩ (.int .u64 0)).setCell ⟨w.heap.size + 1 + 1, 6, none⟩ (.int .u64 0)).setCell ⟨w.heap.size + 1 + 1, 7, none⟩ (.slice none 0 0)).setCell ⟨w.heap.size + 1 + 1, 8, none⟩ (.string ⟨#[]⟩)).setCell ⟨w.heap.size + 1 + 1 + 1, 0, none⟩ (.int .i64 m.c)).setCell ⟨w.heap.size + 1 + 1 + 1, 1, none⟩ (.int .i64 m.i)).setCell ⟨w.heap.size + 1 + 1 + 1, 2, none⟩ (.slice A1 m.l.length c1)).setCell ⟨w.heap.size + 1 + 1 + 1, 3, none⟩ (.int .i64 0)).setCell ⟨w.heap.size + 1 + 1 + 1, 4, none⟩ (.int .u64 0)).setCell ⟨w.heap.size + 1 + 1 + 1, 5, none⟩ (.int .u64 0)).setCell ⟨w.heap.size + 1 + 1 + 1, 6, none⟩ (.slice none 0 0)).setCell ⟨w.heap.size + 1 + 1 + 1, 7, none⟩ (.string ⟨#[]⟩)) := ⟨_, rfl⟩
     rw [← hW9] at bQ bR2 hBz hva hvb
     have HW9 := Lib.hid hW9
     have HQ : Hid (Bx W9.drew (w.heap.size + 1 + 1 + 1) 29 [.int .i64 m.c, .int .i64 m.i, .slice A1 m.l.length c1, .int .i64 0, .int .u64 0, .int .u64 0, .slice none 0 0, .string ⟨#[]⟩]) := Lib.hid bQ
     have HR : Hid (Bx W9.drew (w.heap.size + 1 + 1) 31 [.int .i64 0, .int .i64 0, .int .i64 0, .slice none 0 0, .int .i64 0, .int .u64 0, .int .u64 0, .slice none 0 0, .string ⟨#[]⟩]) := Lib.hid bR2
     have hBz := hBz.drew
     have hva := hva.below (Below.refl _ W9).drew
     have hvb := hvb.below (Below.refl _ W9).drew
     have HVA := Lib.hid hva
     have HVB := Lib.hid hvb
     obtain ⟨a0, a1, a2, a3, a4, a5, a6, a7, a8⟩ := hr5.nine
     obtain ⟨k0, k1, k2, k3, k4, k5, k6, k7⟩ := hq5.eight
     obtain ⟨m0, m1, m2, m3, m4, m5, m6, m7⟩ := hk5.eight
     have f0 := hr5.frozen 0
     have f1 := hr5.frozen 1
     have f2 := hr5.frozen 2
     have f3 := hr5.frozen 3
     have f4 := hr5.frozen 4
     have f5 := hr5.frozen 5
     have f6 := hr5.frozen 6
     have f7 := hr5.frozen 7
     have f8 := hr5.frozen 8
     have g0 := hq5.frozen 0
     have g1 := hq5.frozen 1
     have g2 := hq5.frozen 2
     have g3 := hq5.frozen 3
     have g4 := hq5.frozen 4
     have g5 := hq5.frozen 5
     have g6 := hq5.frozen 6
     have g7 := hq5.frozen 7
     have ne1 : ¬ (W0.heap.size = w.heap.size + 1 + 1) := by omega
     have ne2 : ¬ (w.heap.size + 1 + 1 = W0.heap.size) := by omega
     clear hr5 hq5 hk5 hq3 bR bQ bR2 hB5 hV5 hV0 hW9 hva hvb
     go_region
     rw [← HW9.out]
     clear a0 f0 a1 f1 a2 f2 a3 f3 a4 f4 a5 f5 a6 f6 a7 f7 a8 f8 k0 g0 m0 k1 g1 m1 k2 g2 m2 k3 g3 m3 k4 g4 m4 k5 g5 m5 k6 g6 m6 k7 g7 m7 ne1 ne2
     obtain ⟨q0, q1, q2, q3, q4, q5, q6, q7⟩ := HQ.out.eight
     obtain ⟨r0, r1, r2, r3, r4, r5, r6, r7, r8⟩ := HR.out.nine
     go_wp2
     refine bodyPost_ret (v := .tuple #[.agg #[.int .i64 0, .int .i64 0, .int .i64 0, .slice none 0 0, .int .i64 0, .int .u64 0, .int .u64 0, .slice none 0 0, .string ⟨#[]⟩], .agg #[.int .i64 m.c, .int .i64 m.i, .slice A1 m.l.length c1, .int .i64 0, .int .u64 0, .int .u64 0, .slice none 0 0, .string ⟨#[]⟩], .bool true, .int .i64 0]) ?_ rfl ⟨none, none, A1, none, 0, 0, c1, 0, by rw [HE.out]; rfl, by rw [HE.out]; exact cmAt0 _, by rw [HE.out]; exact ⟨HVA.out, HVB.out, HNM.out, fun _ => ⟨rfl, rfl⟩⟩, hBz⟩
     rw [results_cctt rfl]
     simp [asAddr, Result.andThen, go_sem, q0, q1, q2, q3, q4, q5, q6, q7, r0, r1, r2, r3, r4, r5, r6, r7, r8]
   · have HE : Hid (fd = fMore 1 (ofM m)) := Lib.hid (by rw [HF2.out, hfl]; rfl)
     clear HF2 hfl
     have hV0 := vals_none w5
     go_upto_region 29 with fail
     obtain ⟨a0, f0, a1, f1, a2, f2, a3, f3, a4, f4, a5, f5, a6, f6, a7, f7, a8, f8, bR⟩ := (hr5).store9 (.int .i64 1) (.int .i64 m.c) (.int .i64 m.i) (.slice A1 m.l.length c1) (.int .i64 0) (.int .u64 0) (.int .u64 0) (.slice none 0 0) (.string ⟨#[]⟩)
     have hq3 := (((((((((hq5.other (B' := w.heap.size + 1 + 1) (by omega) 0 (.int .i64 1)).other (B' := w.heap.size + 1 + 1) (by omega) 1 (.int .i64 m.c)).other (B' := w.heap.size + 1 + 1) (by omega) 2 (.int .i64 m.i)).other (B' := w.heap.size + 1 + 1) (by omega) 3 (.slice A1 m.l.length c1)).other (B' := w.heap.size + 1 + 1) (by omega) 4 (.int .i64 0)).other (B' := w.heap.size + 1 + 1) (by omega) 5 (.int .u64 0)).other (B' := w.heap.size + 1 + 1) (by omega) 6 (.int .u64 0)).other (B' := w.heap.size + 1 + 1) (by omega) 7 (.slice none 0 0)).other (B' := w.heap.size + 1 + 1) (by omega) 8 (.string ⟨#[]⟩))
     obtain ⟨k0, g0, k1, g1, k2, g2, k3, g3, k4, g4, k5, g5, k6, g6, k7, g7, bQ⟩ := hq3.store8 (.int .i64 0) (.int .i64 0) (.slice none 0 0) (.int .i64 0) (.int .u64 0) (.int .u64 0) (.slice none 0 0) (.string ⟨#[]⟩)
     have bR2 := ((((((((bR.other (B' := w.heap.size + 1 + 1 + 1) (by omega) 0 (.int .i64 0)).other (B' := w.heap.size + 1 + 1 + 1) (by omega) 1 (.int .i64 0)).other (B' := w.heap.size + 1 + 1 + 1) (by omega) 2 (.slice none 0 0)).other (B' := w.heap.size + 1 + 1 + 1) (by omega) 3 (.int .i64 0)).other (B' := w.heap.size + 1 + 1 + 1) (by omega) 4 (.int .u64 0)).other (B' := w.heap.size + 1 + 1 + 1) (by omega) 5 (.int .u64 0)).other (B' := w.heap.size + 1 + 1 + 1) (by omega) 6 (.slice none 0 0)).other (B' := w.heap.size + 1 + 1 + 1) (by omega) 7 (.string ⟨#[]⟩))
     have hBy := below_store9 hB5 (B := w.heap.size + 1 + 1) (by omega) (.int .i64 1) (.int .i64 m.c) (.int .i64 m.i) (.slice A1 m.l.length c1) (.int .i64 0) (.int .u64 0) (.int .u64 0) (.slice none 0 0) (.string ⟨#[]⟩)
     have hBz := below_store8 hBy (B := w.heap.size + 1 + 1 + 1) (by omega) (.int .i64 0) (.int .i64 0) (.slice none 0 0) (.int .i64 0) (.int .u64 0) (.int .u64 0) (.slice none 0 0) (.string ⟨#[]⟩)
     obtain ⟨q0, q1, q2, q3, q4, q5, q6, q7⟩ := bQ.eight
     obtain ⟨r0, r1, r2, r3, r4, r5, r6, r7, r8⟩ := bR2.nine
     have HVA := Lib.hid (vals_store8 hq3 noVal_zero8 (vals_store9 hr5 noVal_zero9 hV5 (.int .i64 1) (.int .i64 m.c) (.int .i64 m.i) (.slice A1 m.l.length c1) (.int .i64 0) (.int .u64 0) (.int .u64 0) (.slice none 0 0) (.string ⟨#[]⟩)) (.int .i64 0) (.int .i64 0) (.slice none 0 0) (.int .i64 0) (.int .u64 0) (.int .u64 0) (.slice none 0 0) (.string ⟨#[]⟩))
     have HVB := Lib.hid (vals_store8 hq3 noVal_zero8 (vals_store9 hr5 noVal_zero9 hV0 (.int .i64 1) (.int .i64 m.c) (.int .i64 m.i) (.slice A1 m.l.length c1) (.int .i64 0) (.int .u64 0) (.int .u64 0) (.slice none 0 0) (.string ⟨#[]⟩)) (.int .i64 0) (.int .i64 0) (.slice none 0 0) (.int .i64 0) (.int .u64 0) (.int .u64 0) (.slice none 0 0) (.string ⟨#[]⟩))
     obtain ⟨m0, m1, m2, m3, m4, m5, m6, m7⟩ := hk5.eight
     clear hr5 hq5 hk5 hq3 bR bQ bR2 hBy hB5
     go_wp2
     refine bodyPost_ret (v := .tuple #[.agg #[.int .i64 1, .int .i64 m.c, .int .i64 m.i, .slice A1 m.l.length c1, .int .i64 0, .int .u64 0, .int .u64 0, .slice none 0 0, .string ⟨#[]⟩], .agg #[.int .i64 0, .int .i64 0, .slice none 0 0, .int .i64 0, .int .u64 0, .int .u64 0, .slice none 0 0, .string ⟨#[]⟩], .bool false, .int .i64 0]) ?_ rfl ⟨A1, none, none, none, c1, 0, 0, 0, by rw [HE.out]; rfl, by rw [HE.out]; exact ⟨HVA.out, HVB.out, HNM.out, fun _ => ⟨rfl, rfl⟩⟩, by rw [HE.out]; exact cmAt0 _, hBz⟩
     rw [results_cctt rfl]
     simp [asAddr, Result.andThen, go_sem, q0, q1, q2, q3, q4, q5, q6, q7, r0, r1, r2, r3, r4, r5, r6, r7, r8]
 · have hB2 := hB1.trans (hb.mono hB1.size)
   have hx2 := hx1.kept hb
   have hk2 := hk1.kept hb
   have hr2 := hr1.kept hb
   have hq2 := hq1.kept hb
   have HE : Hid (fd = fNo 7) := Lib.hid (by rw [HF.out, ht])
   clear HF ht hT hb hB1 hx1 hk1 hr1 hq1 hf1 va vb x0 x1 x2 x3 x4 x5 x6 x7 x8 t2
   obtain ⟨W2, hW2⟩ : ∃ W2, W2 = w1.alloc (.cells #[.int .i64 0, .int .i64 0, .slice none 0 0] 24) := ⟨_, rfl⟩
   have hb2 : Below w1.heap.size w1 W2 := by rw [hW2]; exact (Below.refl _ w1).alloc (Nat.le_refl _) _
   have hB3 := hB2.trans (hb2.mono hB2.size)
   have hx3 := hx2.kept hb2
   have hk3 := hk2.kept hb2
   have hr3 := hr2.kept hb2
   have hq3' := hq2.kept hb2
   have hm3 : Bx W2 w1.heap.size 24 [.int .i64 0, .int .i64 0, .slice none 0 0] := by rw [hW2]; exact Bx.new w1 _ _
   have hne : w1.heap.size ≠ W0.heap.size := by have := hk2.lt; omega
   clear hB2 hx2 hk2 hr2 hq2 hb2 hm3 hne hx3 hk3
   unfold noneM
   go_upto_region 10 with fail
   rw [← hW2]
   clear hW2
   go_wp2_with fail
   with_reducible refine (rno_any 7 W2).mono ?_
   rintro e w5 ⟨rfl, hbn⟩
   have hBn := hB3.trans (hbn.mono hB3.size)
   have hrn := hr3.kept hbn
   have hqn := hq3'.kept hbn
   clear hbn hB3 hr3 hq3' 
   obtain ⟨a0, f0, a1, f1, a2, f2, a3, f3, a4, f4, a5, f5, a6, f6, a7, f7, a8, f8, bR⟩ := (hrn).store9 (.int .i64 0) (.int .i64 0) (.int .i64 0) (.slice none 0 0) (.int .i64 0) (.int .u64 0) (.int .u64 0) (.slice none 0 0) (.string ⟨#[]⟩)
   have hq3 := (((((((((hqn.other (B' := w.heap.size + 1 + 1) (by omega) 0 (.int .i64 0)).other (B' := w.heap.size + 1 + 1) (by omega) 1 (.int .i64 0)).other (B' := w.heap.size + 1 + 1) (by omega) 2 (.int .i64 0)).other (B' := w.heap.size + 1 + 1) (by omega) 3 (.slice none 0 0)).other (B' := w.heap.size + 1 + 1) (by omega) 4 (.int .i64 0)).other (B' := w.heap.size + 1 + 1) (by omega) 5 (.int .u64 0)).other (B' := w.heap.size + 1 + 1) (by omega) 6 (.int .u64 0)).other (B' := w.heap.size + 1 + 1) (by omega) 7 (.slice none 0 0)).other (B' := w.heap.size + 1 + 1) (by omega) 8 (.string ⟨#[]⟩))
   obtain ⟨k0, g0, k1, g1, k2, g2, k3, g3, k4, g4, k5, g5, k6, g6, k7, g7, bQ⟩ := hq3.store8 (.int .i64 0) (.int .i64 0) (.slice none 0 0) (.int .i64 0) (.int .u64 0) (.int .u64 0) (.slice none 0 0) (.string ⟨#[]⟩)
   have bR2 := ((((((((bR.other (B' := w.heap.size + 1 + 1 + 1) (by omega) 0 (.int .i64 0)).other (B' := w.heap.size + 1 + 1 + 1) (by omega) 1 (.int .i64 0)).other (B' := w.heap.size + 1 + 1 + 1) (by omega) 2 (.slice none 0 0)).other (B' := w.heap.size + 1 + 1 + 1) (by omega) 3 (.int .i64 0)).other (B' := w.heap.size + 1 + 1 + 1) (by omega) 4 (.int .u64 0)).other (B' := w.heap.size + 1 + 1 + 1) (by omega) 5 (.int .u64 0)).other (B' := w.heap.size + 1 + 1 + 1) (by omega) 6 (.slice none 0 0)).other (B' := w.heap.size + 1 + 1 + 1) (by omega) 7 (.string ⟨#[]⟩))
   have hBy := below_store9 hBn (B := w.heap.size + 1 + 1) (by omega) (.int .i64 0) (.int .i64 0) (.int .i64 0) (.slice none 0 0) (.int .i64 0) (.int .u64 0) (.int .u64 0) (.slice none 0 0) (.string ⟨#[]⟩)
   have hBz := below_store8 hBy (B := w.heap.size + 1 + 1 + 1) (by omega) (.int .i64 0) (.int .i64 0) (.slice none 0 0) (.int .i64 0) (.int .u64 0) (.int .u64 0) (.slice none 0 0) (.string ⟨#[]⟩)
   obtain ⟨q0, q1, q2, q3, q4, q5, q6, q7⟩ := bQ.eight
   obtain ⟨r0, r1, r2, r3, r4, r5, r6, r7, r8⟩ := bR2.nine
   clear hrn hqn bR hq3 bQ bR2 hBn hBy
   go_wp2
   refine bodyPost_ret (v := .tuple #[.agg #[.int .i64 0, .int .i64 0, .int .i64 0, .slice none 0 0, .int .i64 0, .int .u64 0, .int .u64 0, .slice none 0 0, .string ⟨#[]⟩], .agg #[.int .i64 0, .int .i64 0, .slice none 0 0, .int .i64 0, .int .u64 0, .int .u64 0, .slice none 0 0, .string ⟨#[]⟩], .bool false, .int .i64 7]) ?_ rfl ⟨none, none, none, none, 0, 0, 0, 0, by rw [HE.out]; rfl, by rw [HE.out]; exact cmAt0 _, by rw [HE.out]; exact cmAt0 _, hBz⟩
   rw [results_cctt rfl]
   simp [asAddr, Result.andThen, go_sem, q0, q1, q2, q3, q4, q5, q6, q7, r0, r1, r2, r3, r4, r5, r6, r7, r8]
end Go.Proofs.YtllgkohgcicbhaaGreatDoor
