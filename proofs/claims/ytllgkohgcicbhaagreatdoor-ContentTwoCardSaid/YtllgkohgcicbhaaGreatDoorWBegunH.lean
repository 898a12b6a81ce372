/-
  content.begun's withHead answers the command with the head that a frame holds; nothing that was there is changed. Conditions: the table of widths is as its text lays it; the values lie in old memory, of at most 2^47 bytes; bytes of fewer than 2^62.
-/
import Derived.Laws.ResultCell
import Derived.Deep.DeepCutAuto
import Derived.Deep.RegionHeld3
import Derived.Test.YtllgkohgcicbhaaGreatDoorWBegunM
namespace Go.Proofs.YtllgkohgcicbhaaGreatDoor
open Go.RowKit

theorem le_alloc8 (w : World) (o : Obj) : w.heap.size ≤ (w.alloc o).heap.size := by simp
set_option maxRecDepth 100000 in
set_option maxHeartbeats 4000000 in
theorem withHead_any (c : Cm) (A B : Option Addr) (ca cb : Nat) (d : ByteArray) (w : World) (hw : Wid w) (hc : CmAt w c A B ca cb) (hl : c.m.l.length * 24 ≤ 140737488355328) (hd : d.size < 4611686018427387904) :
    Calls Tryz.prog 39 #[encC c A B ca cb, .string d] w (BgPost (feedH c d) w) := by
  obtain ⟨W0, hW0⟩ : ∃ W0, W0 = (w.alloc (.cells (cellsC c A B ca cb).toArray 66)).alloc (.cells #[.int .i64 0, .int .i64 0, .slice none 0 0, .int .i64 0, .int .u64 0, .int .u64 0, .slice none 0 0, .string ⟨#[]⟩] 29) := ⟨_, rfl⟩
  have hb0 : Below w.heap.size w W0 := by rw [hW0]; exact ((Below.refl _ w).alloc (Nat.le_refl _) _).alloc (by simp) _
  have hx : Bx W0 w.heap.size 66 (cellsC c A B ca cb) := by rw [hW0]; exact (Bx.new w 66 (cellsC c A B ca cb)).alloc _
  have hr : Bx W0 (w.heap.size + 1) 29 [.int .i64 0, .int .i64 0, .slice none 0 0, .int .i64 0, .int .u64 0, .int .u64 0, .slice none 0 0, .string ⟨#[]⟩] := by
    have h := Bx.new (w.alloc (.cells (cellsC c A B ca cb).toArray 66)) 29 [.int .i64 0, .int .i64 0, .slice none 0 0, .int .i64 0, .int .u64 0, .int .u64 0, .slice none 0 0, .string ⟨#[]⟩]
    rw [World.size_alloc] at h
    rw [hW0]; exact h
  have hT := pTake_any d W0 (hw.below hb0) hd
  have hO := fun W (h : Below w.heap.size w W) => ownMethod_any c A B ca cb W (hc.below h) hl
  have HF : Hid (feedH c d = if tpErr d = 0 then (if 0 < (tpH d).z then fMore 2 ⟨c.m, tpH d, ⟨#[]⟩⟩ else fWhole ⟨c.m, tpH d, ⟨#[]⟩⟩) else fNo (tpErr d)) := Lib.hid rfl
  unfold BgPost
  generalize feedH c d = fd at HF ⊢
  unfold cellsC at hW0 hx
  unfold encC at hO ⊢
  unfold encM at hO
  obtain ⟨⟨mc, mi, ml⟩, ⟨hc', hz', hf, hl'⟩, sb⟩ := c
  dsimp only at *
  clear hw hc hl hd
  go_enter Tryz.func39, Tryz.ntmps39
  go_wp2_with fail
  rw [← hW0]
  clear hW0
  unfold TpPost at hT
  with_reducible refine hT.mono ?_
  rintro e w1 (⟨ht, A2, c2, rfl, hV, hN, hb1⟩ | ⟨ht, rfl, hb1⟩)
  · have HF2 : Hid (fd = if 0 < (tpH d).z then fMore 2 ⟨⟨mc, mi, ml⟩, tpH d, ⟨#[]⟩⟩ else fWhole ⟨⟨mc, mi, ml⟩, tpH d, ⟨#[]⟩⟩) := Lib.hid (by rw [HF.out, if_pos ht])
    clear HF hT ht
    generalize tpH d = h at HF2 hV hN ⊢
    have hB1 := hb0.trans (hb1.mono hb0.size)
    obtain ⟨W2, hW2⟩ : ∃ W2, W2 = w1.alloc (.cells #[.int .i64 h.c, .int .u64 h.z, .int .u64 h.f, .slice A2 h.l.length c2] 27) := ⟨_, rfl⟩
    have hb2 : Below w1.heap.size w1 W2 := by rw [hW2]; exact (Below.refl _ w1).alloc (Nat.le_refl _) _
    have hB2 := hB1.trans (hb2.mono hB1.size)
    have hr2 := (hr.kept hb1).kept hb2
    have hx2 := (hx.kept hb1).kept hb2
    have hp2 : Bx W2 w1.heap.size 27 [.int .i64 h.c, .int .u64 h.z, .int .u64 h.f, .slice A2 h.l.length c2] := by rw [hW2]; exact Bx.new w1 _ _
    have hV2 := hV.below hb2
    have HN2 := Lib.hid hN
    clear hb0 hb1 hb2 hr hB1 hV hN hx
    unfold encH
    have hbs := hB2.size
    have hpp : ∀ w', Below W2.heap.size W2 w' → w'.cell? ⟨w1.heap.size, 0, none⟩ = some (.int .i64 h.c) ∧ w'.cell? ⟨w1.heap.size, 1, none⟩ = some (.int .u64 h.z) ∧ w'.cell? ⟨w1.heap.size, 2, none⟩ = some (.int .u64 h.f) ∧ w'.cell? ⟨w1.heap.size, 3, none⟩ = some (.slice A2 h.l.length c2) := fun w' h' => ⟨(hp2.kept h').cell 0 (by simp), (hp2.kept h').cell 1 (by simp), (hp2.kept h').cell 2 (by simp), (hp2.kept h').cell 3 (by simp)⟩
    have keep : ∀ w', Below W2.heap.size W2 w' → w'.cell? ⟨w.heap.size, 0, none⟩ = some (.int .i64 mc) ∧ w'.cell? ⟨w.heap.size, 1, none⟩ = some (.int .i64 mi) ∧ w'.cell? ⟨w.heap.size, 2, none⟩ = some (.slice A ml.length ca) ∧ w'.cell? ⟨w.heap.size, 3, none⟩ = some (.int .i64 hc') ∧ w'.cell? ⟨w.heap.size, 4, none⟩ = some (.int .u64 hz') ∧ w'.cell? ⟨w.heap.size, 5, none⟩ = some (.int .u64 hf) ∧ w'.cell? ⟨w.heap.size, 6, none⟩ = some (.slice B hl'.length cb) ∧ w'.cell? ⟨w.heap.size, 7, none⟩ = some (.string sb) ∧ w'.cell? ⟨w1.heap.size, 0, none⟩ = some (.int .i64 h.c) ∧ w'.cell? ⟨w1.heap.size, 1, none⟩ = some (.int .u64 h.z) ∧ w'.cell? ⟨w1.heap.size, 2, none⟩ = some (.int .u64 h.f) ∧ w'.cell? ⟨w1.heap.size, 3, none⟩ = some (.slice A2 h.l.length c2) := fun w' h' => by
      obtain ⟨e0, e1, e2, e3, e4, e5, e6, e7⟩ := (hx2.kept h').eight
      obtain ⟨g0, g1, g2, g3⟩ := hpp w' h'
      exact ⟨e0, e1, e2, e3, e4, e5, e6, e7, g0, g1, g2, g3⟩
    obtain ⟨x0, x1, x2, x3, x4, x5, x6, x7, p0, p1, p2, p3⟩ := keep W2 (Below.refl _ _)
    have hD2 : Below W2.heap.size W2 (W2.alloc (.cells #[.int .i64 0, .int .i64 0, .slice none 0 0, .int .i64 0, .int .u64 0, .int .u64 0, .slice none 0 0, .string ⟨#[]⟩] 29)).drew := ((Below.refl _ W2).alloc (Nat.le_refl _) _).drew
    have hO1 := hO W2.drew (hB2.trans ((Below.refl _ W2).drew.mono hbs))
    have hO2 := hO (W2.alloc (.cells #[.int .i64 0, .int .i64 0, .slice none 0 0, .int .i64 0, .int .u64 0, .int .u64 0, .slice none 0 0, .string ⟨#[]⟩] 29)).drew (hB2.trans (hD2.mono hbs))
    have hzN : Bx (W2.alloc (.cells #[.int .i64 0, .int .i64 0, .slice none 0 0, .int .i64 0, .int .u64 0, .int .u64 0, .slice none 0 0, .string ⟨#[]⟩] 29)).drew W2.heap.size 29 [.int .i64 0, .int .i64 0, .slice none 0 0, .int .i64 0, .int .u64 0, .int .u64 0, .slice none 0 0, .string ⟨#[]⟩] := Bx.new W2 29 [.int .i64 0, .int .i64 0, .slice none 0 0, .int .i64 0, .int .u64 0, .int .u64 0, .slice none 0 0, .string ⟨#[]⟩]
    clear hO
    go_upto_region 4 with fail
    rw [← hW2]
    clear hW2
    go_cut [9] (fun p wx => ∃ nb A1 c1, p = .pointer (some ⟨nb, 0, none⟩) ∧ Bx wx nb 29 [.int .i64 mc, .int .i64 mi, .slice A1 ml.length c1, .int .i64 h.c, .int .u64 h.z, .int .u64 h.f, .slice A2 h.l.length c2, .string ⟨#[]⟩] ∧ ValsAt wx A1 (rowV ml) ∧ Hid (A1 = none → ml.length = 0 ∧ c1 = 0) ∧ Below W2.heap.size W2 wx)
    case first =>
      go_region_held3 (fun w' => w'.cell? ⟨w.heap.size, 0, none⟩ = some (.int .i64 mc) ∧ w'.cell? ⟨w.heap.size, 1, none⟩ = some (.int .i64 mi) ∧ w'.cell? ⟨w.heap.size, 2, none⟩ = some (.slice A ml.length ca) ∧ w'.cell? ⟨w.heap.size, 3, none⟩ = some (.int .i64 hc') ∧ w'.cell? ⟨w.heap.size, 4, none⟩ = some (.int .u64 hz') ∧ w'.cell? ⟨w.heap.size, 5, none⟩ = some (.int .u64 hf) ∧ w'.cell? ⟨w.heap.size, 6, none⟩ = some (.slice B hl'.length cb) ∧ w'.cell? ⟨w.heap.size, 7, none⟩ = some (.string sb) ∧ w'.cell? ⟨w1.heap.size, 0, none⟩ = some (.int .i64 h.c) ∧ w'.cell? ⟨w1.heap.size, 1, none⟩ = some (.int .u64 h.z) ∧ w'.cell? ⟨w1.heap.size, 2, none⟩ = some (.int .u64 h.f) ∧ w'.cell? ⟨w1.heap.size, 3, none⟩ = some (.slice A2 h.l.length c2)) (first | (with_reducible exact keep _ hS) | (with_reducible exact keep _ (hf1.alloc hf1.size _)) | (with_reducible exact keep _ hf1) | (with_reducible exact keep _ hD2) | (with_reducible exact keep _ (Below.refl _ W2).drew) | (with_reducible exact keep _ ((Below.refl _ W2).drew.alloc (Nat.le_refl _) _))) (first | (go_at_call 65; (with_reducible refine hO1.mono ?_); rintro e w4 ⟨A1, c1, rfl, hV1, hN1, hr⟩; have hf1 : Below W2.heap.size W2 w4 := ⟨hr.os, hr.tape, hr.output, hr.size, hr.block⟩) | (go_at_call 65; (with_reducible refine hO2.mono ?_); rintro e w4 ⟨A1, c1, rfl, hV1, hN1, hr⟩; have hf1 : Below W2.heap.size W2 w4 := hD2.trans (hr.mono (le_alloc8 W2 _)); have hzb := hzN.kept hr; obtain ⟨a0, f0, a1, f1, a2, f2, a3, f3, a4, f4, a5, f5, a6, f6, a7, f7, bR⟩ := hzb.store8 (.int .i64 mc) (.int .i64 mi) (.slice A1 ml.length c1) (.int .i64 h.c) (.int .u64 h.z) (.int .u64 h.f) (.slice A2 h.l.length c2) (.string ⟨#[]⟩); have hS := below_store8 hf1 (B := W2.heap.size) (Nat.le_refl _) (.int .i64 mc) (.int .i64 mi) (.slice A1 ml.length c1) (.int .i64 h.c) (.int .u64 h.z) (.int .u64 h.f) (.slice A2 h.l.length c2) (.string ⟨#[]⟩)))
      · have hB6 := hf1.alloc hf1.size (.cells #[.int .i64 mc, .int .i64 mi, .slice A1 ml.length c1, .int .i64 h.c, .int .u64 h.z, .int .u64 h.f, .slice A2 h.l.length c2, .string ⟨#[]⟩] 29)
        have hN := Bx.new w4 29 [.int .i64 mc, .int .i64 mi, .slice A1 ml.length c1, .int .i64 h.c, .int .u64 h.z, .int .u64 h.f, .slice A2 h.l.length c2, .string ⟨#[]⟩]
        have hV6 := hV1.below ((Below.refl _ w4).alloc (Nat.le_refl _) (.cells #[.int .i64 mc, .int .i64 mi, .slice A1 ml.length c1, .int .i64 h.c, .int .u64 h.z, .int .u64 h.f, .slice A2 h.l.length c2, .string ⟨#[]⟩] 29))
        have HN1 := Lib.hid hN1
        go_wp2_with fail
        go_meet
        case rel => exact ⟨_, A1, c1, rfl, hN, hV6, HN1, hB6⟩
      · have hV6 := vals_store8 hzb noVal_zero8 hV1 (.int .i64 mc) (.int .i64 mi) (.slice A1 ml.length c1) (.int .i64 h.c) (.int .u64 h.z) (.int .u64 h.f) (.slice A2 h.l.length c2) (.string ⟨#[]⟩)
        have HN1 := Lib.hid hN1
        go_wp2_with fail
        go_meet
        case rel => exact ⟨_, A1, c1, rfl, bR, hV6, HN1, hS⟩
    case rest =>
      obtain ⟨nb, A1, c1, rfl, hnb, hV1, HN1, hbc⟩ := hcut
      have hBx := hB2.trans (hbc.mono hbs)
      have hrx := hr2.kept hbc
      have hh := hp2.kept hbc
      have hV2 := hV2.below hbc
      obtain ⟨n0, n1, n2, n3, n4, n5, n6, n7⟩ := hnb.eight
      have h1 := hh.cell 1 (by simp)
      dsimp only [List.getElem_cons_zero, List.getElem_cons_succ] at h1
      clear keep hpp x0 x1 x2 x3 x4 x5 x6 x7 p0 p1 p2 p3 hr2 hp2 hx2 hB2 hbc hbs hO1 hO2 hD2 hzN
      by_cases hz : 0 < h.z
      · have HG : Hid (fd = fMore 2 ⟨⟨mc, mi, ml⟩, h, ⟨#[]⟩⟩) := Lib.hid (by rw [HF2.out, if_pos hz])
        have t : decide (0 < h.z) = true := decide_eq_true hz
        clear HF2
        obtain ⟨a0, f0, a1, f1, a2, f2, a3, f3, a4, f4, a5, f5, a6, f6, a7, f7, bR⟩ := (hrx).store8 (.int .i64 mc) (.int .i64 mi) (.slice A1 ml.length c1) (.int .i64 h.c) (.int .u64 h.z) (.int .u64 h.f) (.slice A2 h.l.length c2) (.string ⟨#[]⟩)
        have hBz := below_store8 hBx (B := w.heap.size + 1) (by omega) (.int .i64 mc) (.int .i64 mi) (.slice A1 ml.length c1) (.int .i64 h.c) (.int .u64 h.z) (.int .u64 h.f) (.slice A2 h.l.length c2) (.string ⟨#[]⟩)
        have HVA : Hid (ValsAt ((((((((wc.setCell ⟨w.heap.size + 1, 0, none⟩ (.int .i64 mc)).setCell ⟨w.heap.size + 1, 1, none⟩ (.int .i64 mi)).setCell ⟨w.heap.size + 1, 2, none⟩ (.slice A1 ml.length c1)).setCell ⟨w.heap.size + 1, 3, none⟩ (.int .i64 h.c)).setCell ⟨w.heap.size + 1, 4, none⟩ (.int .u64 h.z)).setCell ⟨w.heap.size + 1, 5, none⟩ (.int .u64 h.f)).setCell ⟨w.heap.size + 1, 6, none⟩ (.slice A2 h.l.length c2)).setCell ⟨w.heap.size + 1, 7, none⟩ (.string ⟨#[]⟩)) A1 _) := Lib.hid (vals_store8 (hrx) noVal_zero8 (hV1) (.int .i64 mc) (.int .i64 mi) (.slice A1 ml.length c1) (.int .i64 h.c) (.int .u64 h.z) (.int .u64 h.f) (.slice A2 h.l.length c2) (.string ⟨#[]⟩))
        have HVB : Hid (ValsAt ((((((((wc.setCell ⟨w.heap.size + 1, 0, none⟩ (.int .i64 mc)).setCell ⟨w.heap.size + 1, 1, none⟩ (.int .i64 mi)).setCell ⟨w.heap.size + 1, 2, none⟩ (.slice A1 ml.length c1)).setCell ⟨w.heap.size + 1, 3, none⟩ (.int .i64 h.c)).setCell ⟨w.heap.size + 1, 4, none⟩ (.int .u64 h.z)).setCell ⟨w.heap.size + 1, 5, none⟩ (.int .u64 h.f)).setCell ⟨w.heap.size + 1, 6, none⟩ (.slice A2 h.l.length c2)).setCell ⟨w.heap.size + 1, 7, none⟩ (.string ⟨#[]⟩)) A2 _) := Lib.hid (vals_store8 (hrx) noVal_zero8 (hV2) (.int .i64 mc) (.int .i64 mi) (.slice A1 ml.length c1) (.int .i64 h.c) (.int .u64 h.z) (.int .u64 h.f) (.slice A2 h.l.length c2) (.string ⟨#[]⟩))
        obtain ⟨y0, y1, y2, y3, y4, y5, y6, y7⟩ := bR.eight
        clear bR hrx hBx hV1 hV2 hnb hh
        go_wp2
        refine bodyPost_ret (v := .tuple #[.agg #[.int .i64 mc, .int .i64 mi, .slice A1 ml.length c1, .int .i64 h.c, .int .u64 h.z, .int .u64 h.f, .slice A2 h.l.length c2, .string ⟨#[]⟩], .int .i64 2, .int .i64 0]) ?_ rfl ⟨A1, A2, c1, c2, by rw [HG.out]; rfl, by rw [HG.out]; exact ⟨HVA.out, HVB.out, HN1.out, HN2.out⟩, hBz⟩
        rw [results_ctt rfl]
        simp [asAddr, Result.andThen, go_sem, y0, y1, y2, y3, y4, y5, y6, y7]
      · have HG : Hid (fd = fWhole ⟨⟨mc, mi, ml⟩, h, ⟨#[]⟩⟩) := Lib.hid (by rw [HF2.out, if_neg hz])
        have t : decide (0 < h.z) = false := decide_eq_false hz
        clear HF2
        obtain ⟨a0, f0, a1, f1, a2, f2, a3, f3, a4, f4, a5, f5, a6, f6, a7, f7, bR⟩ := (hrx).store8 (.int .i64 mc) (.int .i64 mi) (.slice A1 ml.length c1) (.int .i64 h.c) (.int .u64 h.z) (.int .u64 h.f) (.slice A2 h.l.length c2) (.string ⟨#[]⟩)
        have hBz := below_store8 hBx (B := w.heap.size + 1) (by omega) (.int .i64 mc) (.int .i64 mi) (.slice A1 ml.length c1) (.int .i64 h.c) (.int .u64 h.z) (.int .u64 h.f) (.slice A2 h.l.length c2) (.string ⟨#[]⟩)
        have HVA : Hid (ValsAt ((((((((wc.setCell ⟨w.heap.size + 1, 0, none⟩ (.int .i64 mc)).setCell ⟨w.heap.size + 1, 1, none⟩ (.int .i64 mi)).setCell ⟨w.heap.size + 1, 2, none⟩ (.slice A1 ml.length c1)).setCell ⟨w.heap.size + 1, 3, none⟩ (.int .i64 h.c)).setCell ⟨w.heap.size + 1, 4, none⟩ (.int .u64 h.z)).setCell ⟨w.heap.size + 1, 5, none⟩ (.int .u64 h.f)).setCell ⟨w.heap.size + 1, 6, none⟩ (.slice A2 h.l.length c2)).setCell ⟨w.heap.size + 1, 7, none⟩ (.string ⟨#[]⟩)) A1 _) := Lib.hid (vals_store8 (hrx) noVal_zero8 (hV1) (.int .i64 mc) (.int .i64 mi) (.slice A1 ml.length c1) (.int .i64 h.c) (.int .u64 h.z) (.int .u64 h.f) (.slice A2 h.l.length c2) (.string ⟨#[]⟩))
        have HVB : Hid (ValsAt ((((((((wc.setCell ⟨w.heap.size + 1, 0, none⟩ (.int .i64 mc)).setCell ⟨w.heap.size + 1, 1, none⟩ (.int .i64 mi)).setCell ⟨w.heap.size + 1, 2, none⟩ (.slice A1 ml.length c1)).setCell ⟨w.heap.size + 1, 3, none⟩ (.int .i64 h.c)).setCell ⟨w.heap.size + 1, 4, none⟩ (.int .u64 h.z)).setCell ⟨w.heap.size + 1, 5, none⟩ (.int .u64 h.f)).setCell ⟨w.heap.size + 1, 6, none⟩ (.slice A2 h.l.length c2)).setCell ⟨w.heap.size + 1, 7, none⟩ (.string ⟨#[]⟩)) A2 _) := Lib.hid (vals_store8 (hrx) noVal_zero8 (hV2) (.int .i64 mc) (.int .i64 mi) (.slice A1 ml.length c1) (.int .i64 h.c) (.int .u64 h.z) (.int .u64 h.f) (.slice A2 h.l.length c2) (.string ⟨#[]⟩))
        obtain ⟨y0, y1, y2, y3, y4, y5, y6, y7⟩ := bR.eight
        clear bR hrx hBx hV1 hV2 hnb hh
        go_wp2
        refine bodyPost_ret (v := .tuple #[.agg #[.int .i64 mc, .int .i64 mi, .slice A1 ml.length c1, .int .i64 h.c, .int .u64 h.z, .int .u64 h.f, .slice A2 h.l.length c2, .string ⟨#[]⟩], .int .i64 0, .int .i64 0]) ?_ rfl ⟨A1, A2, c1, c2, by rw [HG.out]; rfl, by rw [HG.out]; exact ⟨HVA.out, HVB.out, HN1.out, HN2.out⟩, hBz⟩
        rw [results_ctt rfl]
        simp [asAddr, Result.andThen, go_sem, y0, y1, y2, y3, y4, y5, y6, y7]
  · have hB1 := hb0.trans (hb1.mono hb0.size)
    have HG : Hid (fd = fNo (tpErr d)) := Lib.hid (by rw [HF.out, if_neg ht])
    have t : (tpErr d != 0) = true := by simpa using ht
    obtain ⟨W2, hW2⟩ : ∃ W2, W2 = w1.alloc (.cells #[.int .i64 0, .int .u64 0, .int .u64 0, .slice none 0 0] 27) := ⟨_, rfl⟩
    have hb2 : Below w1.heap.size w1 W2 := by rw [hW2]; exact (Below.refl _ w1).alloc (Nat.le_refl _) _
    have hB2 := hB1.trans (hb2.mono hB1.size)
    have hr2 := (hr.kept hb1).kept hb2
    clear HF hT ht hb0 hb1 hr hb2 hB1 hx hO
    unfold noneH
    go_upto_region 2 with fail
    rw [← hW2]
    clear hW2
    obtain ⟨a0, f0, a1, f1, a2, f2, a3, f3, a4, f4, a5, f5, a6, f6, a7, f7, bR⟩ := (hr2).store8 (.int .i64 0) (.int .i64 0) (.slice none 0 0) (.int .i64 0) (.int .u64 0) (.int .u64 0) (.slice none 0 0) (.string ⟨#[]⟩)
    have hBz := below_store8 hB2 (B := w.heap.size + 1) (by omega) (.int .i64 0) (.int .i64 0) (.slice none 0 0) (.int .i64 0) (.int .u64 0) (.int .u64 0) (.slice none 0 0) (.string ⟨#[]⟩)
    have HVA : Hid (ValsAt ((((((((W2.setCell ⟨w.heap.size + 1, 0, none⟩ (.int .i64 0)).setCell ⟨w.heap.size + 1, 1, none⟩ (.int .i64 0)).setCell ⟨w.heap.size + 1, 2, none⟩ (.slice none 0 0)).setCell ⟨w.heap.size + 1, 3, none⟩ (.int .i64 0)).setCell ⟨w.heap.size + 1, 4, none⟩ (.int .u64 0)).setCell ⟨w.heap.size + 1, 5, none⟩ (.int .u64 0)).setCell ⟨w.heap.size + 1, 6, none⟩ (.slice none 0 0)).setCell ⟨w.heap.size + 1, 7, none⟩ (.string ⟨#[]⟩)) none _) := Lib.hid (vals_store8 (hr2) noVal_zero8 (vals_none _) (.int .i64 0) (.int .i64 0) (.slice none 0 0) (.int .i64 0) (.int .u64 0) (.int .u64 0) (.slice none 0 0) (.string ⟨#[]⟩))
    have HVB : Hid (ValsAt ((((((((W2.setCell ⟨w.heap.size + 1, 0, none⟩ (.int .i64 0)).setCell ⟨w.heap.size + 1, 1, none⟩ (.int .i64 0)).setCell ⟨w.heap.size + 1, 2, none⟩ (.slice none 0 0)).setCell ⟨w.heap.size + 1, 3, none⟩ (.int .i64 0)).setCell ⟨w.heap.size + 1, 4, none⟩ (.int .u64 0)).setCell ⟨w.heap.size + 1, 5, none⟩ (.int .u64 0)).setCell ⟨w.heap.size + 1, 6, none⟩ (.slice none 0 0)).setCell ⟨w.heap.size + 1, 7, none⟩ (.string ⟨#[]⟩)) none _) := Lib.hid (vals_store8 (hr2) noVal_zero8 (vals_none _) (.int .i64 0) (.int .i64 0) (.slice none 0 0) (.int .i64 0) (.int .u64 0) (.int .u64 0) (.slice none 0 0) (.string ⟨#[]⟩))
    obtain ⟨y0, y1, y2, y3, y4, y5, y6, y7⟩ := bR.eight
    clear bR hr2 hB2
    go_wp2
    refine bodyPost_ret (v := .tuple #[.agg #[.int .i64 0, .int .i64 0, .slice none 0 0, .int .i64 0, .int .u64 0, .int .u64 0, .slice none 0 0, .string ⟨#[]⟩], .int .i64 0, .int .i64 (tpErr d)]) ?_ rfl ⟨none, none, 0, 0, by rw [HG.out]; rfl, by rw [HG.out]; exact ⟨HVA.out, HVB.out, fun _ => ⟨rfl, rfl⟩, fun _ => ⟨rfl, rfl⟩⟩, hBz⟩
    rw [results_ctt rfl]
    simp [asAddr, Result.andThen, go_sem, y0, y1, y2, y3, y4, y5, y6, y7]
end Go.Proofs.YtllgkohgcicbhaaGreatDoor
