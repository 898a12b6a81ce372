/-
  content.begun's withMethod answers the command that a method's frame begins; nothing that was there is changed. Conditions: the tables of widths and of contents are as their texts lay them; bytes of fewer than 2^62.
-/
import Derived.Laws.ResultCell
import Derived.Deep.DeepCutAuto
import Derived.Test.YtllgkohgcicbhaaGreatDoorZI
import Derived.Test.YtllgkohgcicbhaaGreatDoorJC2
import Derived.Test.YtllgkohgcicbhaaGreatDoorWOwn
namespace Go.Proofs.YtllgkohgcicbhaaGreatDoor
open Go.RowKit

/-- the command that a state's taking answers, and what is waited for then -/
def bgC (f : Fd) : Cm := if f.b = true then f.c else f.a.c
def BgPost (f : Fd) (w : World) (e : Ending) (w' : World) : Prop := ∃ A B ca cb, e = .returned (.tuple #[encC (bgC f) A B ca cb, .int .i64 f.a.st, .int .i64 f.e]) ∧ CmAt w' (bgC f) A B ca cb ∧ Below w.heap.size w w'
theorem vals_none (W : World) : ValsAt W none (rowV []) := fun h => by simp [rowV] at h

set_option maxRecDepth 100000 in
set_option maxHeartbeats 4000000 in
theorem withMethod_any (c : Cm) (A B : Option Addr) (ca cb : Nat) (d : ByteArray) (w : World) (hw : Wid w) (hk : Con w) (hd : d.size < 4611686018427387904) :
    Calls Tryz.prog 38 #[encC c A B ca cb, .string d] w (BgPost (feedM d) w) := by
  obtain ⟨W0, hW0⟩ : ∃ W0, W0 = (w.alloc (.cells (cellsC c A B ca cb).toArray 66)).alloc (.cells #[.int .i64 0, .int .i64 0, .slice none 0 0, .int .i64 0, .int .u64 0, .int .u64 0, .slice none 0 0, .string ⟨#[]⟩] 29) := ⟨_, rfl⟩
  have hb0 : Below w.heap.size w W0 := by rw [hW0]; exact ((Below.refl _ w).alloc (Nat.le_refl _) _).alloc (by simp) _
  have hr : Bx W0 (w.heap.size + 1) 29 [.int .i64 0, .int .i64 0, .slice none 0 0, .int .i64 0, .int .u64 0, .int .u64 0, .slice none 0 0, .string ⟨#[]⟩] := by
    have h := Bx.new (w.alloc (.cells (cellsC c A B ca cb).toArray 66)) 29 [.int .i64 0, .int .i64 0, .slice none 0 0, .int .i64 0, .int .u64 0, .int .u64 0, .slice none 0 0, .string ⟨#[]⟩]
    rw [World.size_alloc] at h
    rw [hW0]; exact h
  have hT := mTake_any d W0 (hw.below hb0) hd
  have hF := fun m A cap W hW => follows_any m A cap W hW
  have HF : Hid (feedM d = match tm d with
    | none => fNo 7
    | some m => if fol m = true then fMore 1 (ofM m) else fWhole (ofM m)) := Lib.hid rfl
  unfold BgPost
  generalize feedM d = fd at HF ⊢
  unfold cellsC at hW0
  unfold encC
  obtain ⟨⟨mc, mi, ml⟩, ⟨hc', hz', hf, hl⟩, sb⟩ := c
  dsimp only at *
  have HK : Hid (∀ W, Below w.heap.size w W → Con W) := Lib.hid (fun W h => hk.below h)
  clear hw hk hd
  go_enter Tryz.func38, Tryz.ntmps38
  go_wp2_with fail
  rw [← hW0]
  clear hW0
  with_reducible refine hT.mono ?_
  rintro e w1 (⟨m, A1, c1, ht, rfl, hV, hN, hb1⟩ | ⟨ht, rfl, hb1⟩)
  · have hr1 := hr.kept hb1
    have hB1 := hb0.trans (hb1.mono hb0.size)
    have HF2 : Hid (fd = if fol m = true then fMore 1 (ofM m) else fWhole (ofM m)) := Lib.hid (by rw [HF.out, ht])
    obtain ⟨W2, hW2⟩ : ∃ W2, W2 = w1.alloc (.cells #[.int .i64 m.c, .int .i64 m.i, .slice A1 m.l.length c1] 24) := ⟨_, rfl⟩
    have hb2 : Below w1.heap.size w1 W2 := by rw [hW2]; exact (Below.refl _ w1).alloc (Nat.le_refl _) _
    have hB2 := hB1.trans (hb2.mono hB1.size)
    have hp : Bx W2 w1.heap.size 24 [.int .i64 m.c, .int .i64 m.i, .slice A1 m.l.length c1] := by rw [hW2]; exact Bx.new w1 _ _
    have hr2 := hr1.kept hb2
    have hV2 := hV.below hb2
    have x0 := hp.cell 0 (by simp)
    have x1 := hp.cell 1 (by simp)
    have x2 := hp.cell 2 (by simp)
    dsimp only [List.getElem_cons_zero, List.getElem_cons_succ] at x0 x1 x2
    rw [hW2] at x0 x1 x2
    have hF2 := hF m A1 c1 W2 (HK.out W2 hB2)
    have HNN := Lib.hid hN
    clear HF hT ht hb0 hb1 hb2 hr hr1 hB1 hV hF hN
    unfold encM at hF2
    unfold encM
    go_wp2_with fail
    rw [← hW2]
    clear hW2 x0 x1 x2
    with_reducible refine hF2.mono ?_
    rintro e w3 ⟨rfl, hb3⟩
    have hB3 := hB2.trans (hb3.mono hB2.size)
    have hr3 := hr2.kept hb3
    have hp3 := hp.kept hb3
    have hV3 := hV2.below hb3
    have x0 := hp3.cell 0 (by simp)
    have x1 := hp3.cell 1 (by simp)
    have x2 := hp3.cell 2 (by simp)
    dsimp only [List.getElem_cons_zero, List.getElem_cons_succ] at x0 x1 x2
    clear hF2 hb3 hr2 hp hV2 hB2
    cases hfl : fol m
    · have HG : Hid (fd = fWhole (ofM m)) := Lib.hid (by rw [HF2.out, hfl]; rfl)
      clear HF2 hfl
      obtain ⟨a0, f0, a1, f1, a2, f2, a3, f3, a4, f4, a5, f5, a6, f6, a7, f7, bR⟩ := (hr3).store8 (.int .i64 m.c) (.int .i64 m.i) (.slice A1 m.l.length c1) (.int .i64 0) (.int .u64 0) (.int .u64 0) (.slice none 0 0) (.string ⟨#[]⟩)
      have hBz := below_store8 hB3 (B := w.heap.size + 1) (by omega) (.int .i64 m.c) (.int .i64 m.i) (.slice A1 m.l.length c1) (.int .i64 0) (.int .u64 0) (.int .u64 0) (.slice none 0 0) (.string ⟨#[]⟩)
      have HVA : Hid (ValsAt ((((((((w3.setCell ⟨w.heap.size + 1, 0, none⟩ (.int .i64 m.c)).setCell ⟨w.heap.size + 1, 1, none⟩ (.int .i64 m.i)).setCell ⟨w.heap.size + 1, 2, none⟩ (.slice A1 m.l.length c1)).setCell ⟨w.heap.size + 1, 3, none⟩ (.int .i64 0)).setCell ⟨w.heap.size + 1, 4, none⟩ (.int .u64 0)).setCell ⟨w.heap.size + 1, 5, none⟩ (.int .u64 0)).setCell ⟨w.heap.size + 1, 6, none⟩ (.slice none 0 0)).setCell ⟨w.heap.size + 1, 7, none⟩ (.string ⟨#[]⟩)) A1 _) := Lib.hid (vals_store8 (hr3) noVal_zero8 (hV3) (.int .i64 m.c) (.int .i64 m.i) (.slice A1 m.l.length c1) (.int .i64 0) (.int .u64 0) (.int .u64 0) (.slice none 0 0) (.string ⟨#[]⟩))
      have HVB : Hid (ValsAt ((((((((w3.setCell ⟨w.heap.size + 1, 0, none⟩ (.int .i64 m.c)).setCell ⟨w.heap.size + 1, 1, none⟩ (.int .i64 m.i)).setCell ⟨w.heap.size + 1, 2, none⟩ (.slice A1 m.l.length c1)).setCell ⟨w.heap.size + 1, 3, none⟩ (.int .i64 0)).setCell ⟨w.heap.size + 1, 4, none⟩ (.int .u64 0)).setCell ⟨w.heap.size + 1, 5, none⟩ (.int .u64 0)).setCell ⟨w.heap.size + 1, 6, none⟩ (.slice none 0 0)).setCell ⟨w.heap.size + 1, 7, none⟩ (.string ⟨#[]⟩)) none _) := Lib.hid (vals_store8 (hr3) noVal_zero8 (vals_none _) (.int .i64 m.c) (.int .i64 m.i) (.slice A1 m.l.length c1) (.int .i64 0) (.int .u64 0) (.int .u64 0) (.slice none 0 0) (.string ⟨#[]⟩))
      obtain ⟨y0, y1, y2, y3, y4, y5, y6, y7⟩ := bR.eight
      clear bR hr3 hB3 hV3 hp3
      go_wp2
      refine bodyPost_ret (v := .tuple #[.agg #[.int .i64 m.c, .int .i64 m.i, .slice A1 m.l.length c1, .int .i64 0, .int .u64 0, .int .u64 0, .slice none 0 0, .string ⟨#[]⟩], .int .i64 0, .int .i64 0]) ?_ rfl ⟨A1, none, c1, 0, by rw [HG.out]; rfl, by rw [HG.out]; exact ⟨HVA.out, HVB.out, HNN.out, fun _ => ⟨rfl, rfl⟩⟩, hBz⟩
      rw [results_ctt rfl]
      simp [asAddr, Result.andThen, go_sem, y0, y1, y2, y3, y4, y5, y6, y7]
    · have HG : Hid (fd = fMore 1 (ofM m)) := Lib.hid (by rw [HF2.out, hfl]; rfl)
      clear HF2 hfl
      obtain ⟨a0, f0, a1, f1, a2, f2, a3, f3, a4, f4, a5, f5, a6, f6, a7, f7, bR⟩ := (hr3).store8 (.int .i64 m.c) (.int .i64 m.i) (.slice A1 m.l.length c1) (.int .i64 0) (.int .u64 0) (.int .u64 0) (.slice none 0 0) (.string ⟨#[]⟩)
      have hBz := below_store8 hB3 (B := w.heap.size + 1) (by omega) (.int .i64 m.c) (.int .i64 m.i) (.slice A1 m.l.length c1) (.int .i64 0) (.int .u64 0) (.int .u64 0) (.slice none 0 0) (.string ⟨#[]⟩)
      have HVA : Hid (ValsAt ((((((((w3.setCell ⟨w.heap.size + 1, 0, none⟩ (.int .i64 m.c)).setCell ⟨w.heap.size + 1, 1, none⟩ (.int .i64 m.i)).setCell ⟨w.heap.size + 1, 2, none⟩ (.slice A1 m.l.length c1)).setCell ⟨w.heap.size + 1, 3, none⟩ (.int .i64 0)).setCell ⟨w.heap.size + 1, 4, none⟩ (.int .u64 0)).setCell ⟨w.heap.size + 1, 5, none⟩ (.int .u64 0)).setCell ⟨w.heap.size + 1, 6, none⟩ (.slice none 0 0)).setCell ⟨w.heap.size + 1, 7, none⟩ (.string ⟨#[]⟩)) A1 _) := Lib.hid (vals_store8 (hr3) noVal_zero8 (hV3) (.int .i64 m.c) (.int .i64 m.i) (.slice A1 m.l.length c1) (.int .i64 0) (.int .u64 0) (.int .u64 0) (.slice none 0 0) (.string ⟨#[]⟩))
      have HVB : Hid (ValsAt ((((((((w3.setCell ⟨w.heap.size + 1, 0, none⟩ (.int .i64 m.c)).setCell ⟨w.heap.size + 1, 1, none⟩ (.int .i64 m.i)).setCell ⟨w.heap.size + 1, 2, none⟩ (.slice A1 m.l.length c1)).setCell ⟨w.heap.size + 1, 3, none⟩ (.int .i64 0)).setCell ⟨w.heap.size + 1, 4, none⟩ (.int .u64 0)).setCell ⟨w.heap.size + 1, 5, none⟩ (.int .u64 0)).setCell ⟨w.heap.size + 1, 6, none⟩ (.slice none 0 0)).setCell ⟨w.heap.size + 1, 7, none⟩ (.string ⟨#[]⟩)) none _) := Lib.hid (vals_store8 (hr3) noVal_zero8 (vals_none _) (.int .i64 m.c) (.int .i64 m.i) (.slice A1 m.l.length c1) (.int .i64 0) (.int .u64 0) (.int .u64 0) (.slice none 0 0) (.string ⟨#[]⟩))
      obtain ⟨y0, y1, y2, y3, y4, y5, y6, y7⟩ := bR.eight
      clear bR hr3 hB3 hV3 hp3
      go_wp2
      refine bodyPost_ret (v := .tuple #[.agg #[.int .i64 m.c, .int .i64 m.i, .slice A1 m.l.length c1, .int .i64 0, .int .u64 0, .int .u64 0, .slice none 0 0, .string ⟨#[]⟩], .int .i64 1, .int .i64 0]) ?_ rfl ⟨A1, none, c1, 0, by rw [HG.out]; rfl, by rw [HG.out]; exact ⟨HVA.out, HVB.out, HNN.out, fun _ => ⟨rfl, rfl⟩⟩, hBz⟩
      rw [results_ctt rfl]
      simp [asAddr, Result.andThen, go_sem, y0, y1, y2, y3, y4, y5, y6, y7]
  · have hr1 := hr.kept hb1
    have hB1 := hb0.trans (hb1.mono hb0.size)
    have HG : Hid (fd = fNo 7) := Lib.hid (by rw [HF.out, ht])
    obtain ⟨W2, hW2⟩ : ∃ W2, W2 = w1.alloc (.cells #[.int .i64 0, .int .i64 0, .slice none 0 0] 24) := ⟨_, rfl⟩
    have hb2 : Below w1.heap.size w1 W2 := by rw [hW2]; exact (Below.refl _ w1).alloc (Nat.le_refl _) _
    have hB2 := hB1.trans (hb2.mono hB1.size)
    have hr2 := hr1.kept hb2
    clear HF hT ht hb0 hb1 hr hF hb2 hB1 hr1
    unfold noneM
    go_upto_if 14 with fail
    rw [← hW2]
    clear hW2
    obtain ⟨a0, f0, a1, f1, a2, f2, a3, f3, a4, f4, a5, f5, a6, f6, a7, f7, bR⟩ := (hr2).store8 (.int .i64 0) (.int .i64 0) (.slice none 0 0) (.int .i64 0) (.int .u64 0) (.int .u64 0) (.slice none 0 0) (.string ⟨#[]⟩)
    have hBz := below_store8 hB2 (B := w.heap.size + 1) (by omega) (.int .i64 0) (.int .i64 0) (.slice none 0 0) (.int .i64 0) (.int .u64 0) (.int .u64 0) (.slice none 0 0) (.string ⟨#[]⟩)
    have HVA : Hid (ValsAt ((((((((W2.setCell ⟨w.heap.size + 1, 0, none⟩ (.int .i64 0)).setCell ⟨w.heap.size + 1, 1, none⟩ (.int .i64 0)).setCell ⟨w.heap.size + 1, 2, none⟩ (.slice none 0 0)).setCell ⟨w.heap.size + 1, 3, none⟩ (.int .i64 0)).setCell ⟨w.heap.size + 1, 4, none⟩ (.int .u64 0)).setCell ⟨w.heap.size + 1, 5, none⟩ (.int .u64 0)).setCell ⟨w.heap.size + 1, 6, none⟩ (.slice none 0 0)).setCell ⟨w.heap.size + 1, 7, none⟩ (.string ⟨#[]⟩)) none _) := Lib.hid (vals_store8 (hr2) noVal_zero8 (vals_none _) (.int .i64 0) (.int .i64 0) (.slice none 0 0) (.int .i64 0) (.int .u64 0) (.int .u64 0) (.slice none 0 0) (.string ⟨#[]⟩))
    have HVB : Hid (ValsAt ((((((((W2.setCell ⟨w.heap.size + 1, 0, none⟩ (.int .i64 0)).setCell ⟨w.heap.size + 1, 1, none⟩ (.int .i64 0)).setCell ⟨w.heap.size + 1, 2, none⟩ (.slice none 0 0)).setCell ⟨w.heap.size + 1, 3, none⟩ (.int .i64 0)).setCell ⟨w.heap.size + 1, 4, none⟩ (.int .u64 0)).setCell ⟨w.heap.size + 1, 5, none⟩ (.int .u64 0)).setCell ⟨w.heap.size + 1, 6, none⟩ (.slice none 0 0)).setCell ⟨w.heap.size + 1, 7, none⟩ (.string ⟨#[]⟩)) none _) := Lib.hid (vals_store8 (hr2) noVal_zero8 (vals_none _) (.int .i64 0) (.int .i64 0) (.slice none 0 0) (.int .i64 0) (.int .u64 0) (.int .u64 0) (.slice none 0 0) (.string ⟨#[]⟩))
    obtain ⟨y0, y1, y2, y3, y4, y5, y6, y7⟩ := bR.eight
    clear bR hr2 hB2
    go_wp2
    refine bodyPost_ret (v := .tuple #[.agg #[.int .i64 0, .int .i64 0, .slice none 0 0, .int .i64 0, .int .u64 0, .int .u64 0, .slice none 0 0, .string ⟨#[]⟩], .int .i64 0, .int .i64 7]) ?_ rfl ⟨none, none, 0, 0, by rw [HG.out]; rfl, by rw [HG.out]; exact ⟨HVA.out, HVB.out, fun _ => ⟨rfl, rfl⟩, fun _ => ⟨rfl, rfl⟩⟩, hBz⟩
    rw [results_ctt rfl]
    simp [asAddr, Result.andThen, go_sem, y0, y1, y2, y3, y4, y5, y6, y7]
end Go.Proofs.YtllgkohgcicbhaaGreatDoor
