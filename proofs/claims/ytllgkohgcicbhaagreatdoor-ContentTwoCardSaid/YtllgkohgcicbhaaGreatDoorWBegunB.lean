/-
  content.begun's withBody answers the command with the piece that a frame holds; nothing that was there is changed. Conditions: the values lie in old memory, of at most 2^47 bytes; the body is shorter than 2^62 bytes.
-/
import Derived.Laws.ResultCell
import Derived.Deep.DeepCutAuto
import Derived.Deep.RegionHeld3
import Derived.Test.YtllgkohgcicbhaaGreatDoorWBegunM
namespace Go.Proofs.YtllgkohgcicbhaaGreatDoor
open Go.RowKit

theorem le_allocb (w : World) (o : Obj) : w.heap.size ≤ (w.alloc o).heap.size := by simp
theorem u64_nat {n : Nat} (h : n < 4611686018427387904) : IntKind.u64.wrap (n : Int) = (n : Int) := by simp [IntKind.wrap, IntKind.signed, IntKind.bits]; omega
set_option maxRecDepth 100000 in
set_option maxHeartbeats 4000000 in
theorem withBody_any (c : Cm) (A B : Option Addr) (ca cb : Nat) (d : ByteArray) (w : World) (hc : CmAt w c A B ca cb) (hl : c.m.l.length * 24 ≤ 140737488355328) (hl2 : c.h.l.length * 24 ≤ 140737488355328) (hd : c.b.size + d.size < 4611686018427387904) :
    Calls Tryz.prog 40 #[encC c A B ca cb, .string d] w (BgPost (feedB c d) w) := by
  obtain ⟨W0, hW0⟩ : ∃ W0, W0 = (w.alloc (.cells (cellsC c A B ca cb).toArray 66)).alloc (.cells #[.int .i64 0, .int .i64 0, .slice none 0 0, .int .i64 0, .int .u64 0, .int .u64 0, .slice none 0 0, .string ⟨#[]⟩] 29) := ⟨_, rfl⟩
  have hb0 : Below w.heap.size w W0 := by rw [hW0]; exact ((Below.refl _ w).alloc (Nat.le_refl _) _).alloc (by simp) _
  have hx : Bx W0 w.heap.size 66 (cellsC c A B ca cb) := by rw [hW0]; exact (Bx.new w 66 (cellsC c A B ca cb)).alloc _
  have hr : Bx W0 (w.heap.size + 1) 29 [.int .i64 0, .int .i64 0, .slice none 0 0, .int .i64 0, .int .u64 0, .int .u64 0, .slice none 0 0, .string ⟨#[]⟩] := by
    have h := Bx.new (w.alloc (.cells (cellsC c A B ca cb).toArray 66)) 29 [.int .i64 0, .int .i64 0, .slice none 0 0, .int .i64 0, .int .u64 0, .int .u64 0, .slice none 0 0, .string ⟨#[]⟩]
    rw [World.size_alloc] at h
    rw [hW0]; exact h
  have hO := fun W (h : Below w.heap.size w W) => ownMethod_any c A B ca cb W (hc.below h) hl
  have hP := fun W (h : Below w.heap.size w W) => ownHead_any c A B ca cb W (hc.below h) hl2
  have HF : Hid (feedB c d = if c.h.z < (c.b ++ d).size then fNo 6 else if (c.b ++ d).size < c.h.z then fMore 2 ⟨c.m, c.h, c.b ++ d⟩ else fWhole ⟨c.m, c.h, c.b ++ d⟩) := Lib.hid rfl
  obtain ⟨S2, hS2⟩ : ∃ S2, c.b ++ d = S2 := ⟨_, rfl⟩
  have hsz2 : S2.size < 4611686018427387904 := by rw [← hS2, ByteArray.size_append]; omega
  have hadd : ∀ w', (Op.stringOp .add c.b d).run Tryz.prog w' = .ok (.string S2) w' := fun w' => by rw [← hS2]; exact run_string_add_sum w' c.b d (by omega)
  have e0 : IntKind.u64.wrap (S2.size : Int) = (S2.size : Int) := u64_nat hsz2
  rw [hS2] at HF
  unfold BgPost
  generalize feedB c d = fd at HF ⊢
  unfold cellsC at hW0 hx
  unfold encC at hO hP ⊢
  unfold encM at hO
  unfold encH at hP
  obtain ⟨⟨mc, mi, ml⟩, ⟨hc', hz', hf, hl'⟩, sb⟩ := c
  dsimp only at *
  clear hc hl hl2 hd hS2
  have hbs := hb0.size
  have keep : ∀ w', Below W0.heap.size W0 w' → w'.cell? ⟨w.heap.size, 0, none⟩ = some (.int .i64 mc) ∧ w'.cell? ⟨w.heap.size, 1, none⟩ = some (.int .i64 mi) ∧ w'.cell? ⟨w.heap.size, 2, none⟩ = some (.slice A ml.length ca) ∧ w'.cell? ⟨w.heap.size, 3, none⟩ = some (.int .i64 hc') ∧ w'.cell? ⟨w.heap.size, 4, none⟩ = some (.int .u64 hz') ∧ w'.cell? ⟨w.heap.size, 5, none⟩ = some (.int .u64 hf) ∧ w'.cell? ⟨w.heap.size, 6, none⟩ = some (.slice B hl'.length cb) ∧ w'.cell? ⟨w.heap.size, 7, none⟩ = some (.string sb) := fun w' h' => (hx.kept h').eight
  obtain ⟨x0, x1, x2, x3, x4, x5, x6, x7⟩ := keep W0 (Below.refl _ _)
  have hD2 : Below W0.heap.size W0 (W0.alloc (.cells #[.int .i64 0, .int .i64 0, .slice none 0 0, .int .i64 0, .int .u64 0, .int .u64 0, .slice none 0 0, .string ⟨#[]⟩] 29)).drew := ((Below.refl _ W0).alloc (Nat.le_refl _) _).drew
  have hO1 := hO W0.drew (hb0.trans ((Below.refl _ W0).drew.mono hbs))
  have hO2 := hO (W0.alloc (.cells #[.int .i64 0, .int .i64 0, .slice none 0 0, .int .i64 0, .int .u64 0, .int .u64 0, .slice none 0 0, .string ⟨#[]⟩] 29)).drew (hb0.trans (hD2.mono hbs))
  have hzN : Bx (W0.alloc (.cells #[.int .i64 0, .int .i64 0, .slice none 0 0, .int .i64 0, .int .u64 0, .int .u64 0, .slice none 0 0, .string ⟨#[]⟩] 29)).drew W0.heap.size 29 [.int .i64 0, .int .i64 0, .slice none 0 0, .int .i64 0, .int .u64 0, .int .u64 0, .slice none 0 0, .string ⟨#[]⟩] := Bx.new W0 29 [.int .i64 0, .int .i64 0, .slice none 0 0, .int .i64 0, .int .u64 0, .int .u64 0, .slice none 0 0, .string ⟨#[]⟩]
  clear hO
  go_enter Tryz.func40, Tryz.ntmps40
  go_upto_region 1 with fail
  rw [← hW0]
  clear hW0
  go_cut [7] (fun p wx => ∃ nb A1 c1 A2 c2, p = .pointer (some ⟨nb, 0, none⟩) ∧ Bx wx nb 29 [.int .i64 mc, .int .i64 mi, .slice A1 ml.length c1, .int .i64 hc', .int .u64 hz', .int .u64 hf, .slice A2 hl'.length c2, .string S2] ∧ ValsAt wx A1 (rowV ml) ∧ ValsAt wx A2 (rowV hl') ∧ Hid (A1 = none → ml.length = 0 ∧ c1 = 0) ∧ Hid (A2 = none → hl'.length = 0 ∧ c2 = 0) ∧ Below W0.heap.size W0 wx)
  case first =>
    go_region_held3 (fun w' => w'.cell? ⟨w.heap.size, 0, none⟩ = some (.int .i64 mc) ∧ w'.cell? ⟨w.heap.size, 1, none⟩ = some (.int .i64 mi) ∧ w'.cell? ⟨w.heap.size, 2, none⟩ = some (.slice A ml.length ca) ∧ w'.cell? ⟨w.heap.size, 3, none⟩ = some (.int .i64 hc') ∧ w'.cell? ⟨w.heap.size, 4, none⟩ = some (.int .u64 hz') ∧ w'.cell? ⟨w.heap.size, 5, none⟩ = some (.int .u64 hf) ∧ w'.cell? ⟨w.heap.size, 6, none⟩ = some (.slice B hl'.length cb) ∧ w'.cell? ⟨w.heap.size, 7, none⟩ = some (.string sb)) (first | (with_reducible exact keep _ hS) | (with_reducible exact keep _ (hf2.alloc hf2.size _)) | (with_reducible exact keep _ hf2) | (with_reducible exact keep _ (hf1.alloc hf1.size _)) | (with_reducible exact keep _ hf1) | (with_reducible exact keep _ hD2) | (with_reducible exact keep _ (Below.refl _ W0).drew)) (first | (go_at_call 65; (with_reducible refine hO1.mono ?_); rintro e w4 ⟨A1, c1, rfl, hV1, hN1, hr1⟩; have hf1 : Below W0.heap.size W0 w4 := ⟨hr1.os, hr1.tape, hr1.output, hr1.size, hr1.block⟩) | (go_at_call 65; (with_reducible refine hO2.mono ?_); rintro e w4 ⟨A1, c1, rfl, hV1, hN1, hr1⟩; have hf1 : Below W0.heap.size W0 w4 := hD2.trans (hr1.mono (le_allocb W0 _)); have hzb := hzN.kept hr1) | (go_at_call 66; have hzb2 := hzb; (with_reducible refine (hP w4 (hb0.trans (hf1.mono hbs))).mono ?_); rintro e w5 ⟨A2, c2, rfl, hV2, hN2, hr2⟩; have hf2 : Below W0.heap.size W0 w5 := hf1.trans (hr2.mono hf1.size); have hzb2 := hzb.kept hr2; obtain ⟨a0, f0, a1, f1, a2, f2, a3, f3, a4, f4, a5, f5, a6, f6, a7, f7, bR⟩ := hzb2.store8 (.int .i64 mc) (.int .i64 mi) (.slice A1 ml.length c1) (.int .i64 hc') (.int .u64 hz') (.int .u64 hf) (.slice A2 hl'.length c2) (.string S2); have hS := below_store8 hf2 (B := W0.heap.size) (Nat.le_refl _) (.int .i64 mc) (.int .i64 mi) (.slice A1 ml.length c1) (.int .i64 hc') (.int .u64 hz') (.int .u64 hf) (.slice A2 hl'.length c2) (.string S2)) | (go_at_call 66; (with_reducible refine (hP (w4.alloc (.cells #[.int .i64 0, .int .i64 0, .slice none 0 0, .int .i64 0, .int .u64 0, .int .u64 0, .slice none 0 0, .string ⟨#[]⟩] 29)) (hb0.trans ((hf1.alloc hf1.size _).mono hbs))).mono ?_); rintro e w5 ⟨A2, c2, rfl, hV2, hN2, hr2⟩; have hf2 : Below W0.heap.size W0 w5 := (hf1.alloc hf1.size _).trans (hr2.mono (hf1.alloc hf1.size _).size); have hzb2 := (Bx.new w4 29 [.int .i64 0, .int .i64 0, .slice none 0 0, .int .i64 0, .int .u64 0, .int .u64 0, .slice none 0 0, .string ⟨#[]⟩]).kept hr2; obtain ⟨a0, f0, a1, f1, a2, f2, a3, f3, a4, f4, a5, f5, a6, f6, a7, f7, bR⟩ := hzb2.store8 (.int .i64 mc) (.int .i64 mi) (.slice A1 ml.length c1) (.int .i64 hc') (.int .u64 hz') (.int .u64 hf) (.slice A2 hl'.length c2) (.string S2); have hS := below_store8 hf2 (B := w4.heap.size) hf1.size (.int .i64 mc) (.int .i64 mi) (.slice A1 ml.length c1) (.int .i64 hc') (.int .u64 hz') (.int .u64 hf) (.slice A2 hl'.length c2) (.string S2)) | (go_at_call 66; (with_reducible refine (hP w4 (hb0.trans (hf1.mono hbs))).mono ?_); rintro e w5 ⟨A2, c2, rfl, hV2, hN2, hr2⟩; have hf2 : Below W0.heap.size W0 w5 := hf1.trans (hr2.mono hf1.size)))
    · have hVz := (hV1.below hr2).below ((Below.refl _ w5).alloc (Nat.le_refl _) (.cells #[.int .i64 mc, .int .i64 mi, .slice A1 ml.length c1, .int .i64 hc', .int .u64 hz', .int .u64 hf, .slice A2 hl'.length c2, .string S2] 29))
      have hVy := hV2.below ((Below.refl _ w5).alloc (Nat.le_refl _) (.cells #[.int .i64 mc, .int .i64 mi, .slice A1 ml.length c1, .int .i64 hc', .int .u64 hz', .int .u64 hf, .slice A2 hl'.length c2, .string S2] 29))
      have hN := Bx.new w5 29 [.int .i64 mc, .int .i64 mi, .slice A1 ml.length c1, .int .i64 hc', .int .u64 hz', .int .u64 hf, .slice A2 hl'.length c2, .string S2]
      have hBe := hf2.alloc hf2.size (.cells #[.int .i64 mc, .int .i64 mi, .slice A1 ml.length c1, .int .i64 hc', .int .u64 hz', .int .u64 hf, .slice A2 hl'.length c2, .string S2] 29)
      have HN1 := Lib.hid hN1
      have HN2 := Lib.hid hN2
      go_wp2_with fail
      go_meet
      case rel => exact ⟨_, A1, c1, A2, c2, rfl, hN, hVz, hVy, HN1, HN2, hBe⟩
    · have hVz := vals_store8 hzb2 noVal_zero8 ((hV1.below ((Below.refl _ w4).alloc (Nat.le_refl _) (.cells #[.int .i64 0, .int .i64 0, .slice none 0 0, .int .i64 0, .int .u64 0, .int .u64 0, .slice none 0 0, .string ⟨#[]⟩] 29))).below hr2) (.int .i64 mc) (.int .i64 mi) (.slice A1 ml.length c1) (.int .i64 hc') (.int .u64 hz') (.int .u64 hf) (.slice A2 hl'.length c2) (.string S2)
      have hVy := vals_store8 hzb2 noVal_zero8 hV2 (.int .i64 mc) (.int .i64 mi) (.slice A1 ml.length c1) (.int .i64 hc') (.int .u64 hz') (.int .u64 hf) (.slice A2 hl'.length c2) (.string S2)
      have HN1 := Lib.hid hN1
      have HN2 := Lib.hid hN2
      go_wp2_with fail
      go_meet
      case rel => exact ⟨_, A1, c1, A2, c2, rfl, bR, hVz, hVy, HN1, HN2, hS⟩
    · have hVz := vals_store8 hzb2 noVal_zero8 (hV1.below hr2) (.int .i64 mc) (.int .i64 mi) (.slice A1 ml.length c1) (.int .i64 hc') (.int .u64 hz') (.int .u64 hf) (.slice A2 hl'.length c2) (.string S2)
      have hVy := vals_store8 hzb2 noVal_zero8 hV2 (.int .i64 mc) (.int .i64 mi) (.slice A1 ml.length c1) (.int .i64 hc') (.int .u64 hz') (.int .u64 hf) (.slice A2 hl'.length c2) (.string S2)
      have HN1 := Lib.hid hN1
      have HN2 := Lib.hid hN2
      go_wp2_with fail
      go_meet
      case rel => exact ⟨_, A1, c1, A2, c2, rfl, bR, hVz, hVy, HN1, HN2, hS⟩
  case rest =>
    obtain ⟨nb, A1, c1, A2, c2, rfl, hnb, hV1, hV2, HN1, HN2, hbc⟩ := hcut
    have hBx := hb0.trans (hbc.mono hbs)
    have hrx := hr.kept hbc
    obtain ⟨n0, n1, n2, n3, n4, n5, n6, n7⟩ := hnb.eight
    clear keep x0 x1 x2 x3 x4 x5 x6 x7 hr hx hb0 hbc hbs hO1 hO2 hD2 hzN hP hadd
    by_cases hz : hz' < (S2.size : Int)
    · have HG : Hid (fd = fNo 6) := Lib.hid (by rw [HF.out, if_pos hz])
      have t : decide (hz' < (S2.size : Int)) = true := decide_eq_true hz
      clear HF
      obtain ⟨a0, f0, a1, f1, a2, f2, a3, f3, a4, f4, a5, f5, a6, f6, a7, f7, bR⟩ := (hrx).store8 (.int .i64 0) (.int .i64 0) (.slice none 0 0) (.int .i64 0) (.int .u64 0) (.int .u64 0) (.slice none 0 0) (.string ⟨#[]⟩)
      have hBz := below_store8 hBx (B := w.heap.size + 1) (by omega) (.int .i64 0) (.int .i64 0) (.slice none 0 0) (.int .i64 0) (.int .u64 0) (.int .u64 0) (.slice none 0 0) (.string ⟨#[]⟩)
      have HVA : Hid (ValsAt ((((((((wc.setCell ⟨w.heap.size + 1, 0, none⟩ (.int .i64 0)).setCell ⟨w.heap.size + 1, 1, none⟩ (.int .i64 0)).setCell ⟨w.heap.size + 1, 2, none⟩ (.slice none 0 0)).setCell ⟨w.heap.size + 1, 3, none⟩ (.int .i64 0)).setCell ⟨w.heap.size + 1, 4, none⟩ (.int .u64 0)).setCell ⟨w.heap.size + 1, 5, none⟩ (.int .u64 0)).setCell ⟨w.heap.size + 1, 6, none⟩ (.slice none 0 0)).setCell ⟨w.heap.size + 1, 7, none⟩ (.string ⟨#[]⟩)) none _) := Lib.hid (vals_store8 (hrx) noVal_zero8 (vals_none _) (.int .i64 0) (.int .i64 0) (.slice none 0 0) (.int .i64 0) (.int .u64 0) (.int .u64 0) (.slice none 0 0) (.string ⟨#[]⟩))
      have HVB : Hid (ValsAt ((((((((wc.setCell ⟨w.heap.size + 1, 0, none⟩ (.int .i64 0)).setCell ⟨w.heap.size + 1, 1, none⟩ (.int .i64 0)).setCell ⟨w.heap.size + 1, 2, none⟩ (.slice none 0 0)).setCell ⟨w.heap.size + 1, 3, none⟩ (.int .i64 0)).setCell ⟨w.heap.size + 1, 4, none⟩ (.int .u64 0)).setCell ⟨w.heap.size + 1, 5, none⟩ (.int .u64 0)).setCell ⟨w.heap.size + 1, 6, none⟩ (.slice none 0 0)).setCell ⟨w.heap.size + 1, 7, none⟩ (.string ⟨#[]⟩)) none _) := Lib.hid (vals_store8 (hrx) noVal_zero8 (vals_none _) (.int .i64 0) (.int .i64 0) (.slice none 0 0) (.int .i64 0) (.int .u64 0) (.int .u64 0) (.slice none 0 0) (.string ⟨#[]⟩))
      obtain ⟨y0, y1, y2, y3, y4, y5, y6, y7⟩ := bR.eight
      clear bR hrx hBx hV1 hV2 hnb
      go_wp2
      refine bodyPost_ret (v := .tuple #[.agg #[.int .i64 0, .int .i64 0, .slice none 0 0, .int .i64 0, .int .u64 0, .int .u64 0, .slice none 0 0, .string ⟨#[]⟩], .int .i64 0, .int .i64 6]) ?_ rfl ⟨none, none, 0, 0, by rw [HG.out]; rfl, by rw [HG.out]; exact ⟨HVA.out, HVB.out, fun _ => ⟨rfl, rfl⟩, fun _ => ⟨rfl, rfl⟩⟩, hBz⟩
      rw [results_ctt rfl]
      simp [asAddr, Result.andThen, go_sem, y0, y1, y2, y3, y4, y5, y6, y7]
    · have t : decide (hz' < (S2.size : Int)) = false := decide_eq_false hz
      by_cases hz2 : (S2.size : Int) < hz'
      · have HG : Hid (fd = fMore 2 ⟨⟨mc, mi, ml⟩, ⟨hc', hz', hf, hl'⟩, S2⟩) := Lib.hid (by rw [HF.out, if_neg hz, if_pos hz2])
        have t2 : decide ((S2.size : Int) < hz') = true := decide_eq_true hz2
        clear HF
        obtain ⟨a0, f0, a1, f1, a2, f2, a3, f3, a4, f4, a5, f5, a6, f6, a7, f7, bR⟩ := (hrx).store8 (.int .i64 mc) (.int .i64 mi) (.slice A1 ml.length c1) (.int .i64 hc') (.int .u64 hz') (.int .u64 hf) (.slice A2 hl'.length c2) (.string S2)
        have hBz := below_store8 hBx (B := w.heap.size + 1) (by omega) (.int .i64 mc) (.int .i64 mi) (.slice A1 ml.length c1) (.int .i64 hc') (.int .u64 hz') (.int .u64 hf) (.slice A2 hl'.length c2) (.string S2)
        have HVA : Hid (ValsAt ((((((((wc.setCell ⟨w.heap.size + 1, 0, none⟩ (.int .i64 mc)).setCell ⟨w.heap.size + 1, 1, none⟩ (.int .i64 mi)).setCell ⟨w.heap.size + 1, 2, none⟩ (.slice A1 ml.length c1)).setCell ⟨w.heap.size + 1, 3, none⟩ (.int .i64 hc')).setCell ⟨w.heap.size + 1, 4, none⟩ (.int .u64 hz')).setCell ⟨w.heap.size + 1, 5, none⟩ (.int .u64 hf)).setCell ⟨w.heap.size + 1, 6, none⟩ (.slice A2 hl'.length c2)).setCell ⟨w.heap.size + 1, 7, none⟩ (.string S2)) A1 _) := Lib.hid (vals_store8 (hrx) noVal_zero8 (hV1) (.int .i64 mc) (.int .i64 mi) (.slice A1 ml.length c1) (.int .i64 hc') (.int .u64 hz') (.int .u64 hf) (.slice A2 hl'.length c2) (.string S2))
        have HVB : Hid (ValsAt ((((((((wc.setCell ⟨w.heap.size + 1, 0, none⟩ (.int .i64 mc)).setCell ⟨w.heap.size + 1, 1, none⟩ (.int .i64 mi)).setCell ⟨w.heap.size + 1, 2, none⟩ (.slice A1 ml.length c1)).setCell ⟨w.heap.size + 1, 3, none⟩ (.int .i64 hc')).setCell ⟨w.heap.size + 1, 4, none⟩ (.int .u64 hz')).setCell ⟨w.heap.size + 1, 5, none⟩ (.int .u64 hf)).setCell ⟨w.heap.size + 1, 6, none⟩ (.slice A2 hl'.length c2)).setCell ⟨w.heap.size + 1, 7, none⟩ (.string S2)) A2 _) := Lib.hid (vals_store8 (hrx) noVal_zero8 (hV2) (.int .i64 mc) (.int .i64 mi) (.slice A1 ml.length c1) (.int .i64 hc') (.int .u64 hz') (.int .u64 hf) (.slice A2 hl'.length c2) (.string S2))
        obtain ⟨y0, y1, y2, y3, y4, y5, y6, y7⟩ := bR.eight
        clear bR hrx hBx hV1 hV2 hnb
        go_wp2
        refine bodyPost_ret (v := .tuple #[.agg #[.int .i64 mc, .int .i64 mi, .slice A1 ml.length c1, .int .i64 hc', .int .u64 hz', .int .u64 hf, .slice A2 hl'.length c2, .string S2], .int .i64 2, .int .i64 0]) ?_ rfl ⟨A1, A2, c1, c2, by rw [HG.out]; rfl, by rw [HG.out]; exact ⟨HVA.out, HVB.out, HN1.out, HN2.out⟩, hBz⟩
        rw [results_ctt rfl]
        simp [asAddr, Result.andThen, go_sem, y0, y1, y2, y3, y4, y5, y6, y7]
      · have HG : Hid (fd = fWhole ⟨⟨mc, mi, ml⟩, ⟨hc', hz', hf, hl'⟩, S2⟩) := Lib.hid (by rw [HF.out, if_neg hz, if_neg hz2])
        have t2 : decide ((S2.size : Int) < hz') = false := decide_eq_false hz2
        clear HF
        obtain ⟨a0, f0, a1, f1, a2, f2, a3, f3, a4, f4, a5, f5, a6, f6, a7, f7, bR⟩ := (hrx).store8 (.int .i64 mc) (.int .i64 mi) (.slice A1 ml.length c1) (.int .i64 hc') (.int .u64 hz') (.int .u64 hf) (.slice A2 hl'.length c2) (.string S2)
        have hBz := below_store8 hBx (B := w.heap.size + 1) (by omega) (.int .i64 mc) (.int .i64 mi) (.slice A1 ml.length c1) (.int .i64 hc') (.int .u64 hz') (.int .u64 hf) (.slice A2 hl'.length c2) (.string S2)
        have HVA : Hid (ValsAt ((((((((wc.setCell ⟨w.heap.size + 1, 0, none⟩ (.int .i64 mc)).setCell ⟨w.heap.size + 1, 1, none⟩ (.int .i64 mi)).setCell ⟨w.heap.size + 1, 2, none⟩ (.slice A1 ml.length c1)).setCell ⟨w.heap.size + 1, 3, none⟩ (.int .i64 hc')).setCell ⟨w.heap.size + 1, 4, none⟩ (.int .u64 hz')).setCell ⟨w.heap.size + 1, 5, none⟩ (.int .u64 hf)).setCell ⟨w.heap.size + 1, 6, none⟩ (.slice A2 hl'.length c2)).setCell ⟨w.heap.size + 1, 7, none⟩ (.string S2)) A1 _) := Lib.hid (vals_store8 (hrx) noVal_zero8 (hV1) (.int .i64 mc) (.int .i64 mi) (.slice A1 ml.length c1) (.int .i64 hc') (.int .u64 hz') (.int .u64 hf) (.slice A2 hl'.length c2) (.string S2))
        have HVB : Hid (ValsAt ((((((((wc.setCell ⟨w.heap.size + 1, 0, none⟩ (.int .i64 mc)).setCell ⟨w.heap.size + 1, 1, none⟩ (.int .i64 mi)).setCell ⟨w.heap.size + 1, 2, none⟩ (.slice A1 ml.length c1)).setCell ⟨w.heap.size + 1, 3, none⟩ (.int .i64 hc')).setCell ⟨w.heap.size + 1, 4, none⟩ (.int .u64 hz')).setCell ⟨w.heap.size + 1, 5, none⟩ (.int .u64 hf)).setCell ⟨w.heap.size + 1, 6, none⟩ (.slice A2 hl'.length c2)).setCell ⟨w.heap.size + 1, 7, none⟩ (.string S2)) A2 _) := Lib.hid (vals_store8 (hrx) noVal_zero8 (hV2) (.int .i64 mc) (.int .i64 mi) (.slice A1 ml.length c1) (.int .i64 hc') (.int .u64 hz') (.int .u64 hf) (.slice A2 hl'.length c2) (.string S2))
        obtain ⟨y0, y1, y2, y3, y4, y5, y6, y7⟩ := bR.eight
        clear bR hrx hBx hV1 hV2 hnb
        go_wp2
        refine bodyPost_ret (v := .tuple #[.agg #[.int .i64 mc, .int .i64 mi, .slice A1 ml.length c1, .int .i64 hc', .int .u64 hz', .int .u64 hf, .slice A2 hl'.length c2, .string S2], .int .i64 0, .int .i64 0]) ?_ rfl ⟨A1, A2, c1, c2, by rw [HG.out]; rfl, by rw [HG.out]; exact ⟨HVA.out, HVB.out, HN1.out, HN2.out⟩, hBz⟩
        rw [results_ctt rfl]
        simp [asAddr, Result.andThen, go_sem, y0, y1, y2, y3, y4, y5, y6, y7]
end Go.Proofs.YtllgkohgcicbhaaGreatDoor
