/-
  Several texts joined in one file: each says at its own head, below, what it proves, and its conditions.
-/
import Derived.Laws.ResultCell
import Derived.Test.YtllgkohgcicbhaaGreatDoorZA
import Derived.Test.YtllgkohgcicbhaaGreatDoorZJ
import Derived.Test.YtllgkohgcicbhaaGreatDoorZB
import Derived.Test.YtllgkohgcicbhaaGreatDoorZE
import Derived.WalkMore
import Derived.Deep.RegionLaw
import Derived.Deep.AppendLies
import Derived.Deep.MidRow
/-
  method.ofNumber, ofText, takeLong and takeOne answer as the plain functions say; nothing that was there is changed. Conditions: the package num's table of widths holds 1, 2, 4, 8; texts of fewer than 2^62 bytes; the letter is one, and no bit.
-/
namespace Go.Proofs.YtllgkohgcicbhaaGreatDoor
open Go.RowKit


theorem ofNumber_any (n : Int) (r : ByteArray) (x : Int) (w : World) :
    Calls Tryz.prog 129 #[.int .u64 n, .string r, .int .i64 x] w fun e w' => e = .returned (.tuple #[.agg #[.int .u64 n, .string ⟨#[]⟩], .string r, .int .i64 x]) ∧ Below w.heap.size w w' := by
  go_enter Tryz.func129, Tryz.ntmps129
  go_wp2
  refine bodyPost_ret (v := .tuple #[.agg #[.int .u64 n, .string ⟨#[]⟩], .string r, .int .i64 x]) ?_ rfl ⟨rfl, (Below.refl _ w).alloc (Nat.le_refl _) _⟩
  rw [results_ctt rfl]
  simp [asAddr, Result.andThen, go_sem]
theorem ofText_any (t r : ByteArray) (x : Int) (w : World) :
    Calls Tryz.prog 130 #[.string t, .string r, .int .i64 x] w fun e w' => e = .returned (.tuple #[.agg #[.int .u64 0, .string t], .string r, .int .i64 x]) ∧ Below w.heap.size w w' := by
  go_enter Tryz.func130, Tryz.ntmps130
  go_wp2
  refine bodyPost_ret (v := .tuple #[.agg #[.int .u64 0, .string t], .string r, .int .i64 x]) ?_ rfl ⟨rfl, (Below.refl _ w).alloc (Nat.le_refl _) _⟩
  rw [results_ctt rfl]
  simp [asAddr, Result.andThen, go_sem]

set_option maxHeartbeats 1000000 in
theorem mtakeLong_any (s : ByteArray) (w : World) (hw : Wid w) (hs : s.size < 4611686018427387904) :
    Calls Tryz.prog 132 #[.string s] w fun e w' => e = .returned (.tuple #[.string (oV 76 s).s, .string (oR 76 s), .int .i64 (oE 76 s)]) ∧ Below w.heap.size w w' := by
  have hT := takeLong_any s w hw hs
  have hA := ttA_le 4 s
  have HE : Hid (oE 76 s = if ttE 4 s = 0 then (if 131072 < (ttA 4 s).size then 4 else 0) else ttE 4 s) := Lib.hid rfl
  have HV : Hid ((oV 76 s).s = (if oE 76 s = 0 then ttA 4 s else ⟨#[]⟩)) := Lib.hid rfl
  have HR : Hid (oR 76 s = (if oE 76 s = 0 then ttR 4 s else ⟨#[]⟩)) := Lib.hid rfl
  generalize (oV 76 s).s = v at HV ⊢
  generalize oR 76 s = r at HR ⊢
  generalize oE 76 s = x at HE HV HR ⊢
  generalize ttA 4 s = a at hT HE HV hA
  generalize ttR 4 s = b at hT HR
  generalize ttE 4 s = y at hT HE
  go_enter Tryz.func132, Tryz.ntmps132
  go_wp2_with fail
  refine hT.mono ?_
  rintro e w1 ⟨rfl, hb⟩
  clear hT
  by_cases hy : y = 0
  · subst hy
    by_cases ha : 131072 < a.size
    · have HF : Hid (v = ⟨#[]⟩ ∧ r = ⟨#[]⟩ ∧ x = 4) := Lib.hid (by
        have e : x = 4 := by rw [HE.out, if_pos rfl, if_pos ha]
        exact ⟨by rw [HV.out, e]; rfl, by rw [HR.out, e]; rfl, e⟩)
      have hd : decide ((131072 : Int) < (a.size : Int)) = true := by simp; omega
      clear HE HV HR
      go_wp2
      go_ret3
      exact ⟨by rw [HF.out.1, HF.out.2.1, HF.out.2.2]; rfl, hb⟩
    · have HF : Hid (v = a ∧ r = b ∧ x = 0) := Lib.hid (by
        have e : x = 0 := by rw [HE.out, if_pos rfl, if_neg ha]
        exact ⟨by rw [HV.out, if_pos e], by rw [HR.out, if_pos e], e⟩)
      have hd : decide ((131072 : Int) < (a.size : Int)) = false := by simp; omega
      clear HE HV HR
      go_wp2
      go_ret3
      exact ⟨by rw [HF.out.1, HF.out.2.1, HF.out.2.2]; rfl, hb⟩
  · have HF : Hid (v = ⟨#[]⟩ ∧ r = ⟨#[]⟩ ∧ x = y) := Lib.hid (by
      have e : x = y := by rw [HE.out, if_neg hy]
      exact ⟨by rw [HV.out, e, if_neg hy], by rw [HR.out, e, if_neg hy], e⟩)
    have ty : (y != 0) = true := by simpa using hy
    clear HE HV HR hy
    go_wp2
    go_ret3
    exact ⟨by rw [HF.out.1, HF.out.2.1, HF.out.2.2]; rfl, hb⟩

set_option maxRecDepth 100000 in
set_option maxHeartbeats 1000000 in
theorem takeOne_111 (s : ByteArray) (w : World) (hw : Wid w) :
    Calls Tryz.prog 105 #[.int .u8 111, .string s] w fun e w' => e = .returned (.tuple #[encV (oV 111 s), .string (oR 111 s), .int .i64 (oE 111 s)]) ∧ Below w.heap.size w w' := by
  have hb0 : Below w.heap.size w (w.alloc (.cells #[.int .u64 0, .string ⟨#[]⟩] 58)) := (Below.refl _ w).alloc (Nat.le_refl _) _
  have hx := Bx.new w 58 [.int .u64 0, .string ⟨#[]⟩]
  have hT := take_any s 1 _ (hw.below hb0)
  have HF : Hid (oV 111 s = ⟨takeV s 1, ⟨#[]⟩⟩) := Lib.hid rfl
  have H2 : oR 111 s = takeR s 1 := rfl
  have H3 : oE 111 s = takeE s 1 := rfl
  rw [H2, H3]
  clear H2 H3
  generalize takeV s 1 = tv at hT HF
  generalize takeR s 1 = R at hT ⊢
  generalize takeE s 1 = E at hT ⊢
  generalize oV 111 s = V at HF ⊢
  go_enter Tryz.func105, Tryz.ntmps105
  go_wp2_with fail
  refine hT.mono ?_
  rintro e w1 ⟨rfl, hb1⟩
  have hx1 := hx.kept hb1
  have hB1 := hb0.trans (hb1.mono hb0.size)
  clear hT hx hb1 hb0
  go_wp2_with fail
  refine (ofNumber_any _ _ _ w1).mono ?_
  rintro e w2 ⟨rfl, hb2⟩
  have hx2 := hx1.kept hb2
  have hB2 := hB1.trans (hb2.mono hB1.size)
  obtain ⟨a0, f0, a1, f1, bR⟩ := hx2.store2 (.int .u64 tv) (.string ⟨#[]⟩)
  have hB3 := below_store2 hB2 (B := w.heap.size) (Nat.le_refl _) (.int .u64 tv) (.string ⟨#[]⟩)
  clear hx1 hb2 hB1 hx2 hB2
  go_wp2
  have y0 := bR.cell 0 (by simp)
  have y1 := bR.cell 1 (by simp)
  dsimp only [List.getElem_cons_zero, List.getElem_cons_succ] at y0 y1
  refine bodyPost_ret (v := .tuple #[encV V, .string R, .int .i64 E]) ?_ rfl ⟨rfl, hB3⟩
  rw [results_ctt rfl, HF.out]
  simp [asAddr, Result.andThen, go_sem, y0, y1, encV]

set_option maxRecDepth 100000 in
set_option maxHeartbeats 1000000 in
theorem takeOne_115 (s : ByteArray) (w : World) (hw : Wid w) :
    Calls Tryz.prog 105 #[.int .u8 115, .string s] w fun e w' => e = .returned (.tuple #[encV (oV 115 s), .string (oR 115 s), .int .i64 (oE 115 s)]) ∧ Below w.heap.size w w' := by
  have hb0 : Below w.heap.size w (w.alloc (.cells #[.int .u64 0, .string ⟨#[]⟩] 58)) := (Below.refl _ w).alloc (Nat.le_refl _) _
  have hx := Bx.new w 58 [.int .u64 0, .string ⟨#[]⟩]
  have hT := take_any s 2 _ (hw.below hb0)
  have HF : Hid (oV 115 s = ⟨takeV s 2, ⟨#[]⟩⟩) := Lib.hid rfl
  have H2 : oR 115 s = takeR s 2 := rfl
  have H3 : oE 115 s = takeE s 2 := rfl
  rw [H2, H3]
  clear H2 H3
  generalize takeV s 2 = tv at hT HF
  generalize takeR s 2 = R at hT ⊢
  generalize takeE s 2 = E at hT ⊢
  generalize oV 115 s = V at HF ⊢
  go_enter Tryz.func105, Tryz.ntmps105
  go_wp2_with fail
  refine hT.mono ?_
  rintro e w1 ⟨rfl, hb1⟩
  have hx1 := hx.kept hb1
  have hB1 := hb0.trans (hb1.mono hb0.size)
  clear hT hx hb1 hb0
  go_wp2_with fail
  refine (ofNumber_any _ _ _ w1).mono ?_
  rintro e w2 ⟨rfl, hb2⟩
  have hx2 := hx1.kept hb2
  have hB2 := hB1.trans (hb2.mono hB1.size)
  obtain ⟨a0, f0, a1, f1, bR⟩ := hx2.store2 (.int .u64 tv) (.string ⟨#[]⟩)
  have hB3 := below_store2 hB2 (B := w.heap.size) (Nat.le_refl _) (.int .u64 tv) (.string ⟨#[]⟩)
  clear hx1 hb2 hB1 hx2 hB2
  go_wp2
  have y0 := bR.cell 0 (by simp)
  have y1 := bR.cell 1 (by simp)
  dsimp only [List.getElem_cons_zero, List.getElem_cons_succ] at y0 y1
  refine bodyPost_ret (v := .tuple #[encV V, .string R, .int .i64 E]) ?_ rfl ⟨rfl, hB3⟩
  rw [results_ctt rfl, HF.out]
  simp [asAddr, Result.andThen, go_sem, y0, y1, encV]

set_option maxRecDepth 100000 in
set_option maxHeartbeats 1000000 in
theorem takeOne_108 (s : ByteArray) (w : World) (hw : Wid w) :
    Calls Tryz.prog 105 #[.int .u8 108, .string s] w fun e w' => e = .returned (.tuple #[encV (oV 108 s), .string (oR 108 s), .int .i64 (oE 108 s)]) ∧ Below w.heap.size w w' := by
  have hb0 : Below w.heap.size w (w.alloc (.cells #[.int .u64 0, .string ⟨#[]⟩] 58)) := (Below.refl _ w).alloc (Nat.le_refl _) _
  have hx := Bx.new w 58 [.int .u64 0, .string ⟨#[]⟩]
  have hT := take_any s 4 _ (hw.below hb0)
  have HF : Hid (oV 108 s = ⟨takeV s 4, ⟨#[]⟩⟩) := Lib.hid rfl
  have H2 : oR 108 s = takeR s 4 := rfl
  have H3 : oE 108 s = takeE s 4 := rfl
  rw [H2, H3]
  clear H2 H3
  generalize takeV s 4 = tv at hT HF
  generalize takeR s 4 = R at hT ⊢
  generalize takeE s 4 = E at hT ⊢
  generalize oV 108 s = V at HF ⊢
  go_enter Tryz.func105, Tryz.ntmps105
  go_wp2_with fail
  refine hT.mono ?_
  rintro e w1 ⟨rfl, hb1⟩
  have hx1 := hx.kept hb1
  have hB1 := hb0.trans (hb1.mono hb0.size)
  clear hT hx hb1 hb0
  go_wp2_with fail
  refine (ofNumber_any _ _ _ w1).mono ?_
  rintro e w2 ⟨rfl, hb2⟩
  have hx2 := hx1.kept hb2
  have hB2 := hB1.trans (hb2.mono hB1.size)
  obtain ⟨a0, f0, a1, f1, bR⟩ := hx2.store2 (.int .u64 tv) (.string ⟨#[]⟩)
  have hB3 := below_store2 hB2 (B := w.heap.size) (Nat.le_refl _) (.int .u64 tv) (.string ⟨#[]⟩)
  clear hx1 hb2 hB1 hx2 hB2
  go_wp2
  have y0 := bR.cell 0 (by simp)
  have y1 := bR.cell 1 (by simp)
  dsimp only [List.getElem_cons_zero, List.getElem_cons_succ] at y0 y1
  refine bodyPost_ret (v := .tuple #[encV V, .string R, .int .i64 E]) ?_ rfl ⟨rfl, hB3⟩
  rw [results_ctt rfl, HF.out]
  simp [asAddr, Result.andThen, go_sem, y0, y1, encV]

set_option maxRecDepth 100000 in
set_option maxHeartbeats 1000000 in
theorem takeOne_113 (s : ByteArray) (w : World) (hw : Wid w) :
    Calls Tryz.prog 105 #[.int .u8 113, .string s] w fun e w' => e = .returned (.tuple #[encV (oV 113 s), .string (oR 113 s), .int .i64 (oE 113 s)]) ∧ Below w.heap.size w w' := by
  have hb0 : Below w.heap.size w (w.alloc (.cells #[.int .u64 0, .string ⟨#[]⟩] 58)) := (Below.refl _ w).alloc (Nat.le_refl _) _
  have hx := Bx.new w 58 [.int .u64 0, .string ⟨#[]⟩]
  have hT := take_any s 8 _ (hw.below hb0)
  have HF : Hid (oV 113 s = ⟨takeV s 8, ⟨#[]⟩⟩) := Lib.hid rfl
  have H2 : oR 113 s = takeR s 8 := rfl
  have H3 : oE 113 s = takeE s 8 := rfl
  rw [H2, H3]
  clear H2 H3
  generalize takeV s 8 = tv at hT HF
  generalize takeR s 8 = R at hT ⊢
  generalize takeE s 8 = E at hT ⊢
  generalize oV 113 s = V at HF ⊢
  go_enter Tryz.func105, Tryz.ntmps105
  go_wp2_with fail
  refine hT.mono ?_
  rintro e w1 ⟨rfl, hb1⟩
  have hx1 := hx.kept hb1
  have hB1 := hb0.trans (hb1.mono hb0.size)
  clear hT hx hb1 hb0
  go_wp2_with fail
  refine (ofNumber_any _ _ _ w1).mono ?_
  rintro e w2 ⟨rfl, hb2⟩
  have hx2 := hx1.kept hb2
  have hB2 := hB1.trans (hb2.mono hB1.size)
  obtain ⟨a0, f0, a1, f1, bR⟩ := hx2.store2 (.int .u64 tv) (.string ⟨#[]⟩)
  have hB3 := below_store2 hB2 (B := w.heap.size) (Nat.le_refl _) (.int .u64 tv) (.string ⟨#[]⟩)
  clear hx1 hb2 hB1 hx2 hB2
  go_wp2
  have y0 := bR.cell 0 (by simp)
  have y1 := bR.cell 1 (by simp)
  dsimp only [List.getElem_cons_zero, List.getElem_cons_succ] at y0 y1
  refine bodyPost_ret (v := .tuple #[encV V, .string R, .int .i64 E]) ?_ rfl ⟨rfl, hB3⟩
  rw [results_ctt rfl, HF.out]
  simp [asAddr, Result.andThen, go_sem, y0, y1, encV]

set_option maxRecDepth 100000 in
set_option maxHeartbeats 1000000 in
theorem takeOne_83 (s : ByteArray) (w : World) (hw : Wid w) (hs : s.size < 4611686018427387904) :
    Calls Tryz.prog 105 #[.int .u8 83, .string s] w fun e w' => e = .returned (.tuple #[encV (oV 83 s), .string (oR 83 s), .int .i64 (oE 83 s)]) ∧ Below w.heap.size w w' := by
  have hb0 : Below w.heap.size w (w.alloc (.cells #[.int .u64 0, .string ⟨#[]⟩] 58)) := (Below.refl _ w).alloc (Nat.le_refl _) _
  have hx := Bx.new w 58 [.int .u64 0, .string ⟨#[]⟩]
  have hT := takeShort_any s _ (hw.below hb0) hs
  have HF : Hid (oV 83 s = ⟨0, ttA 1 s⟩) := Lib.hid rfl
  have H2 : oR 83 s = ttR 1 s := rfl
  have H3 : oE 83 s = ttE 1 s := rfl
  rw [H2, H3]
  clear H2 H3
  generalize ttA 1 s = tv at hT HF
  generalize ttR 1 s = R at hT ⊢
  generalize ttE 1 s = E at hT ⊢
  generalize oV 83 s = V at HF ⊢
  go_enter Tryz.func105, Tryz.ntmps105
  go_wp2_with fail
  refine hT.mono ?_
  rintro e w1 ⟨rfl, hb1⟩
  have hx1 := hx.kept hb1
  have hB1 := hb0.trans (hb1.mono hb0.size)
  clear hT hx hb1 hb0
  go_wp2_with fail
  refine (ofText_any _ _ _ w1).mono ?_
  rintro e w2 ⟨rfl, hb2⟩
  have hx2 := hx1.kept hb2
  have hB2 := hB1.trans (hb2.mono hB1.size)
  obtain ⟨a0, f0, a1, f1, bR⟩ := hx2.store2 (.int .u64 0) (.string tv)
  have hB3 := below_store2 hB2 (B := w.heap.size) (Nat.le_refl _) (.int .u64 0) (.string tv)
  clear hx1 hb2 hB1 hx2 hB2
  go_wp2
  have y0 := bR.cell 0 (by simp)
  have y1 := bR.cell 1 (by simp)
  dsimp only [List.getElem_cons_zero, List.getElem_cons_succ] at y0 y1
  refine bodyPost_ret (v := .tuple #[encV V, .string R, .int .i64 E]) ?_ rfl ⟨rfl, hB3⟩
  rw [results_ctt rfl, HF.out]
  simp [asAddr, Result.andThen, go_sem, y0, y1, encV]

set_option maxRecDepth 100000 in
set_option maxHeartbeats 1000000 in
theorem takeOne_76 (s : ByteArray) (w : World) (hw : Wid w) (hs : s.size < 4611686018427387904) :
    Calls Tryz.prog 105 #[.int .u8 76, .string s] w fun e w' => e = .returned (.tuple #[encV (oV 76 s), .string (oR 76 s), .int .i64 (oE 76 s)]) ∧ Below w.heap.size w w' := by
  have hb0 : Below w.heap.size w (w.alloc (.cells #[.int .u64 0, .string ⟨#[]⟩] 58)) := (Below.refl _ w).alloc (Nat.le_refl _) _
  have hx := Bx.new w 58 [.int .u64 0, .string ⟨#[]⟩]
  have hT := mtakeLong_any s _ (hw.below hb0) hs
  have HF : Hid (oV 76 s = ⟨0, (oV 76 s).s⟩) := Lib.hid rfl
  generalize (oV 76 s).s = tv at hT HF
  generalize oR 76 s = R at hT ⊢
  generalize oE 76 s = E at hT ⊢
  generalize oV 76 s = V at HF ⊢
  go_enter Tryz.func105, Tryz.ntmps105
  go_wp2_with fail
  refine hT.mono ?_
  rintro e w1 ⟨rfl, hb1⟩
  have hx1 := hx.kept hb1
  have hB1 := hb0.trans (hb1.mono hb0.size)
  clear hT hx hb1 hb0
  go_wp2_with fail
  refine (ofText_any _ _ _ w1).mono ?_
  rintro e w2 ⟨rfl, hb2⟩
  have hx2 := hx1.kept hb2
  have hB2 := hB1.trans (hb2.mono hB1.size)
  obtain ⟨a0, f0, a1, f1, bR⟩ := hx2.store2 (.int .u64 0) (.string tv)
  have hB3 := below_store2 hB2 (B := w.heap.size) (Nat.le_refl _) (.int .u64 0) (.string tv)
  clear hx1 hb2 hB1 hx2 hB2
  go_wp2
  have y0 := bR.cell 0 (by simp)
  have y1 := bR.cell 1 (by simp)
  dsimp only [List.getElem_cons_zero, List.getElem_cons_succ] at y0 y1
  refine bodyPost_ret (v := .tuple #[encV V, .string R, .int .i64 E]) ?_ rfl ⟨rfl, hB3⟩
  rw [results_ctt rfl, HF.out]
  simp [asAddr, Result.andThen, go_sem, y0, y1, encV]

set_option maxRecDepth 100000 in
set_option maxHeartbeats 1000000 in
theorem takeOne_84 (s : ByteArray) (w : World) (hw : Wid w) (hs : s.size < 4611686018427387904) :
    Calls Tryz.prog 105 #[.int .u8 84, .string s] w fun e w' => e = .returned (.tuple #[encV (oV 84 s), .string (oR 84 s), .int .i64 (oE 84 s)]) ∧ Below w.heap.size w w' := by
  have hb0 : Below w.heap.size w (w.alloc (.cells #[.int .u64 0, .string ⟨#[]⟩] 58)) := (Below.refl _ w).alloc (Nat.le_refl _) _
  have hx := Bx.new w 58 [.int .u64 0, .string ⟨#[]⟩]
  have hT := tabTake_any s _ (hw.below hb0) hs
  have HF : Hid (oV 84 s = ⟨0, takenA s (nest true s 32)⟩) := Lib.hid rfl
  have H2 : oR 84 s = takenB (nest true s 32) := rfl
  have H3 : oE 84 s = (nest true s 32).err := rfl
  rw [H2, H3]
  clear H2 H3
  generalize takenA s (nest true s 32) = tv at hT HF
  generalize takenB (nest true s 32) = R at hT ⊢
  generalize (nest true s 32).err = E at hT ⊢
  generalize oV 84 s = V at HF ⊢
  go_enter Tryz.func105, Tryz.ntmps105
  go_wp2_with fail
  refine hT.mono ?_
  rintro e w1 ⟨rfl, hb1⟩
  have hx1 := hx.kept hb1
  have hB1 := hb0.trans (hb1.mono hb0.size)
  clear hT hx hb1 hb0
  go_wp2_with fail
  refine (ofText_any _ _ _ w1).mono ?_
  rintro e w2 ⟨rfl, hb2⟩
  have hx2 := hx1.kept hb2
  have hB2 := hB1.trans (hb2.mono hB1.size)
  obtain ⟨a0, f0, a1, f1, bR⟩ := hx2.store2 (.int .u64 0) (.string tv)
  have hB3 := below_store2 hB2 (B := w.heap.size) (Nat.le_refl _) (.int .u64 0) (.string tv)
  clear hx1 hb2 hB1 hx2 hB2
  go_wp2
  have y0 := bR.cell 0 (by simp)
  have y1 := bR.cell 1 (by simp)
  dsimp only [List.getElem_cons_zero, List.getElem_cons_succ] at y0 y1
  refine bodyPost_ret (v := .tuple #[encV V, .string R, .int .i64 E]) ?_ rfl ⟨rfl, hB3⟩
  rw [results_ctt rfl, HF.out]
  simp [asAddr, Result.andThen, go_sem, y0, y1, encV]

theorem takeOne_any (c : UInt8) (hc : isLet c = true) (h98 : ¬ c = 98) (s : ByteArray) (w : World) (hw : Wid w) (hs : s.size < 4611686018427387904) :
    Calls Tryz.prog 105 #[.int .u8 (c.toNat : Nat), .string s] w fun e w' => e = .returned (.tuple #[encV (oV c s), .string (oR c s), .int .i64 (oE c s)]) ∧ Below w.heap.size w w' := by
  rcases let_cases hc with rfl | rfl | rfl | rfl | rfl | rfl | rfl | rfl
  · exact absurd rfl h98
  · exact takeOne_76 s w hw hs
  · exact takeOne_83 s w hw hs
  · exact takeOne_84 s w hw hs
  · exact takeOne_108 s w hw
  · exact takeOne_111 s w hw
  · exact takeOne_113 s w hw
  · exact takeOne_115 s w hw
end Go.Proofs.YtllgkohgcicbhaaGreatDoor

/-
  strings.TrimLeft of one letter, method.bitsAhead and takeBits answer as the plain functions say; nothing that was there is changed. Conditions: a text's length is an int; at most 64 bits.
-/
namespace Go.Proofs.YtllgkohgcicbhaaGreatDoor
open Go.RowKit

theorem extract_drop (L : ByteArray) (k : Nat) : (L.extract k L.size).data.toList = L.data.toList.drop k := by
  rw [Lib.extract_data, List.take_of_length_le (by rw [List.length_drop, ba_len]; exact Nat.le_refl _)]
theorem nb_drop : ∀ (ls : List UInt8) (k : Nat), k ≤ nb ls → nb (ls.drop k) + k = nb ls
  | _, 0, _ => by simp
  | [], k + 1, h => by simp [nb] at h
  | c :: ls, k + 1, h => by
    by_cases hc : c = 98
    · have e : nb (c :: ls) = nb ls + 1 := by rw [nb, if_pos hc]
      rw [e] at h ⊢
      have := nb_drop ls k (by omega)
      rw [List.drop_succ_cons]
      omega
    · have e : nb (c :: ls) = 0 := by rw [nb, if_neg hc]
      rw [e] at h
      omega
theorem nb_zero {ls : List UInt8} (h : nb ls = 0) : ls = [] ∨ ∃ c t, ls = c :: t ∧ ¬ c = 98 := by
  cases ls with
  | nil => exact .inl rfl
  | cons c t =>
    refine .inr ⟨c, t, rfl, fun hc => ?_⟩
    rw [nb, if_pos hc] at h
    omega
theorem nb_succ {ls : List UInt8} {n : Nat} (h : nb ls = n + 1) : ∃ t, ls = 98 :: t ∧ nb t = n := by
  cases ls with
  | nil => simp [nb] at h
  | cons c t =>
    rw [nb] at h
    by_cases hc : c = 98
    · rw [if_pos hc] at h; exact ⟨t, by rw [hc], by omega⟩
    · rw [if_neg hc] at h; omega

set_option maxHeartbeats 1000000 in
theorem trimLeftByte_any (L : ByteArray) (w : World) :
    Calls Tryz.prog 142 #[.string L, .int .u8 98] w fun e w' => e = .returned (.string (L.extract (nb L.data.toList) L.size)) ∧ Below w.heap.size w w' := by
  obtain ⟨N, hN⟩ : ∃ N, nb L.data.toList = N := ⟨_, rfl⟩
  have hNL : N ≤ L.size := by rw [← hN, ← ba_len]; exact nb_le _
  rw [hN]
  have HN := Lib.hid hN
  clear hN
  go_enter Tryz.func142, Tryz.ntmps142
  go_wp2
  go_loop [0] (fun x => ∃ k : Nat, k ≤ N ∧ x = .string (L.extract k L.size)) (fun x => match x with | .string s => s.size | _ => 0)
  case atStart => exact ⟨0, Nat.zero_le _, by simp⟩
  case round =>
    obtain ⟨k, hk, rfl⟩ := hrel
    have hsz : (L.extract k L.size).size = L.size - k := by rw [ByteArray.size_extract]; omega
    have hx := extract_drop L k
    have hnb := nb_drop L.data.toList k (by rw [HN.out]; exact hk)
    rw [← hx, HN.out] at hnb
    have hex : (L.extract k L.size).extract 1 (L.extract k L.size).size = L.extract (k + 1) L.size := by
      apply ba_ext
      rw [extract_drop, extract_drop, extract_drop, List.drop_drop]
    clear hx
    obtain ⟨T, hT⟩ : ∃ T, L.extract k L.size = T := ⟨_, rfl⟩
    rw [hT] at hsz hnb hex ⊢
    have HT := Lib.hid hT
    clear hT
    have HX := Lib.hid hex
    have HZ := Lib.hid hsz
    by_cases hlt : k < N
    · obtain ⟨t, ht, -⟩ := nb_succ (n := N - k - 1) (ls := T.data.toList) (by omega)
      have h0 : 0 < T.size := by omega
      have hT0 : ((T[0]'h0).toNat : Int) = 98 := by
        have e : T[0]'h0 = T.data.toList[0]'(by rw [ba_len]; exact h0) := rfl
        rw [e]
        simp only [ht]
        rfl
      clear hex hsz ht hnb
      have HS : Hid (T.size = L.size - k) := HZ
      go_wp2
      refine ⟨⟨k + 1, hlt, by rw [HX.out]⟩, ?_⟩
      rw [HX.out]
      simp only [ByteArray.size_extract]
      have := HS.out
      omega
    · obtain rfl : k = N := by omega
      rcases nb_zero (ls := T.data.toList) (by omega) with h | ⟨c, t, ht, hc⟩
      · have hT : T = ⟨#[]⟩ := ba_ext h
        subst hT
        clear hex hsz hnb h
        go_wp2
        go_ret
        exact ⟨by rw [HT.out]; rfl, Below.refl _ _⟩
      · have h0 : 0 < T.size := by rw [← ba_len, ht]; simp
        have hT0 : (((T[0]'h0).toNat : Int) == 98) = false := by
          have e : T[0]'h0 = T.data.toList[0]'(by rw [ba_len]; exact h0) := rfl
          have e2 : T[0]'h0 = c := by rw [e]; simp only [ht]; rfl
          rw [e2]
          have : c.toNat ≠ 98 := fun h => hc (UInt8.toNat_inj.1 (by rw [h]; rfl))
          simp
          omega
        clear hex hsz hnb ht
        go_wp2
        go_ret
        exact ⟨by rw [HT.out]; rfl, Below.refl _ _⟩

set_option maxRecDepth 100000 in
set_option maxHeartbeats 1000000 in
theorem trimLeft_any (L : ByteArray) (w : World) :
    Calls Tryz.prog 127 #[.string L, .string ⟨#[98]⟩] w fun e w' => e = .returned (.string (L.extract (nb L.data.toList) L.size)) ∧ Below w.heap.size w w' := by
  have hT := trimLeftByte_any L w
  rcases str_cases L with ⟨rfl, -⟩ | ⟨ts, -⟩
  · clear hT
    have e0 : (⟨#[]⟩ : ByteArray).extract (nb (⟨#[]⟩ : ByteArray).data.toList) (⟨#[]⟩ : ByteArray).size = ⟨#[]⟩ := rfl
    rw [e0]
    clear e0
    go_enter Tryz.func127, Tryz.ntmps127
    go_wp2
    go_ret
    exact ⟨rfl, Below.refl _ _⟩
  · generalize L.extract (nb L.data.toList) L.size = r at hT
    go_enter Tryz.func127, Tryz.ntmps127
    go_wp2_with fail
    refine hT.mono ?_
    rintro e w1 ⟨rfl, hb⟩
    clear hT
    go_wp2
    go_ret
    exact ⟨rfl, hb⟩
theorem bitsAhead_any (L : ByteArray) (w : World) (hs : L.size < 4611686018427387904) :
    Calls Tryz.prog 103 #[.string L] w fun e w' => e = .returned (.int .i64 (nb L.data.toList : Nat)) ∧ Below w.heap.size w w' := by
  have hT := trimLeft_any L w
  have hNL : nb L.data.toList ≤ L.size := by rw [← ba_len]; exact nb_le _
  have hsz : (L.extract (nb L.data.toList) L.size).size = L.size - nb L.data.toList := by rw [ByteArray.size_extract]; omega
  generalize L.extract (nb L.data.toList) L.size = r at hT hsz
  generalize nb L.data.toList = N at hNL hsz
  have e1 : IntKind.i64.wrap ((L.size : Int) - (r.size : Int)) = (N : Int) := by simp only [IntKind.wrap_i64]; omega
  have HZ := Lib.hid hsz
  clear hsz
  go_enter Tryz.func103, Tryz.ntmps103
  go_wp2_with fail
  refine hT.mono ?_
  rintro e w1 ⟨rfl, hb⟩
  clear hT
  go_wp2
  go_ret
  exact ⟨rfl, hb⟩

/-- bit i, of those ahead of k; the cells of values out of bits, after k of n -/
def bvI (bs : List Bool) (k i : Nat) : Int := if decide (i < k) && bs.getD i false then 1 else 0
def bvCells (bs : List Bool) (k n : Nat) : Array Value := ((List.range n).flatMap fun i => [Value.int .u64 (bvI bs k i), Value.string ⟨#[]⟩]).toArray
theorem bvList_at (f : Nat → Value) (z : Value) : ∀ (n i : Nat), i < n → (((List.range n).flatMap fun i => [f i, z]))[i * 2]? = some (f i) ∧ (((List.range n).flatMap fun i => [f i, z]))[i * 2 + 1]? = some z := by
  intro n
  induction n with
  | zero => intro i h; omega
  | succ n ih =>
    intro i h
    have hl : ((List.range n).flatMap fun i => [f i, z]).length = n * 2 := by
      clear ih h
      induction n with
      | zero => rfl
      | succ n ih2 => rw [List.range_succ, List.flatMap_append, List.length_append, ih2]; simp; omega
    rw [List.range_succ, List.flatMap_append]
    by_cases hi : i < n
    · obtain ⟨h1, h2⟩ := ih i hi
      rw [List.getElem?_append_left (by rw [hl]; omega), List.getElem?_append_left (by rw [hl]; omega)]
      exact ⟨h1, h2⟩
    · obtain rfl : i = n := by omega
      rw [List.getElem?_append_right (by rw [hl]; omega), List.getElem?_append_right (by rw [hl]; omega), hl]
      refine ⟨?_, ?_⟩
      · rw [show i * 2 - i * 2 = 0 by omega]; simp
      · rw [show i * 2 + 1 - i * 2 = 1 by omega]; simp
theorem bvCells_size (bs : List Bool) (k n : Nat) : (bvCells bs k n).size = n * 2 := by
  unfold bvCells
  rw [List.size_toArray]
  induction n with
  | zero => rfl
  | succ n ih => rw [List.range_succ, List.flatMap_append, List.length_append, ih]; simp; omega
theorem bvCells_at (bs : List Bool) (k n i : Nat) (h : i < n) : (bvCells bs k n)[i * 2]? = some (.int .u64 (bvI bs k i)) ∧ (bvCells bs k n)[i * 2 + 1]? = some (.string ⟨#[]⟩) := by
  unfold bvCells
  rw [List.getElem?_toArray, List.getElem?_toArray]
  exact bvList_at (fun i => Value.int .u64 (bvI bs k i)) (Value.string ⟨#[]⟩) n i h
theorem bvCells_ext {a b : Array Value} {n : Nat} (h1 : a.size = n * 2) (h2 : b.size = n * 2) (h : ∀ i, i < n → a[i * 2]? = b[i * 2]? ∧ a[i * 2 + 1]? = b[i * 2 + 1]?) : a = b := by
  apply Array.ext_getElem?
  intro j
  by_cases hj : j < n * 2
  · obtain ⟨g1, g2⟩ := h (j / 2) (by omega)
    have hm : j % 2 = 0 ∨ j % 2 = 1 := by omega
    rcases hm with hm | hm
    · rw [show j / 2 * 2 = j by omega] at g1; exact g1
    · rw [show j / 2 * 2 + 1 = j by omega] at g2; exact g2
  · rw [Array.getElem?_eq_none (by omega), Array.getElem?_eq_none (by omega)]
theorem bvI_far (bs : List Bool) (k i : Nat) (e : ¬ i = k) : bvI bs (k + 1) i = bvI bs k i := by
  have : decide (i < k + 1) = decide (i < k) := by simp; omega
  rw [bvI, bvI, this]
theorem bvI_at (bs : List Bool) (k : Nat) : bvI bs (k + 1) k = if bs.getD k false = true then 1 else 0 := by
  have : decide (k < k + 1) = true := by simp
  rw [bvI, this, Bool.true_and]
theorem bvI_not (bs : List Bool) (k : Nat) : bvI bs k k = 0 := by
  have : decide (k < k) = false := by simp
  rw [bvI, this, Bool.false_and]
  rfl
theorem bvCells_off (bs : List Bool) (k n : Nat) (h : bs.getD k false = false) : bvCells bs (k + 1) n = bvCells bs k n := by
  refine bvCells_ext (bvCells_size _ _ _) (bvCells_size _ _ _) fun i hi => ?_
  obtain ⟨a1, a2⟩ := bvCells_at bs (k + 1) n i hi
  obtain ⟨b1, b2⟩ := bvCells_at bs k n i hi
  rw [a1, a2, b1, b2]
  refine ⟨?_, rfl⟩
  by_cases e : i = k
  · subst e; rw [bvI_at, bvI_not, h]; rfl
  · rw [bvI_far _ _ _ e]
theorem bvCells_on (bs : List Bool) (k n : Nat) (hk : k < n) (h : bs.getD k false = true) : (bvCells bs k n).setIfInBounds (k * 2) (.int .u64 1) = bvCells bs (k + 1) n := by
  refine bvCells_ext (by rw [Array.size_setIfInBounds, bvCells_size]) (bvCells_size _ _ _) fun i hi => ?_
  obtain ⟨a1, a2⟩ := bvCells_at bs (k + 1) n i hi
  obtain ⟨b1, b2⟩ := bvCells_at bs k n i hi
  rw [a1, a2, Array.getElem?_setIfInBounds, Array.getElem?_setIfInBounds, if_neg (show ¬ k * 2 = i * 2 + 1 by omega), b2]
  refine ⟨?_, rfl⟩
  by_cases e : i = k
  · subst e
    rw [if_pos rfl, if_pos (by rw [bvCells_size]; omega), bvI_at, if_pos h]
  · rw [if_neg (by omega), b1, bvI_far _ _ _ e]
theorem made_at (n i : Nat) (hi : i < n) (a b : Value) : (madeCells #[a, b] (n * 2))[i * 2]? = some a ∧ (madeCells #[a, b] (n * 2))[i * 2 + 1]? = some b := by
  have hs : (madeCells #[a, b] (n * 2)).size = n * 2 := by rw [size_madeCells]
  rw [Array.getElem?_eq_getElem (by rw [hs]; omega), Array.getElem?_eq_getElem (by rw [hs]; omega)]
  simp [madeCells]
theorem bvCells_zero (bs : List Bool) (n : Nat) : madeCells #[.int .u64 0, .string ⟨#[]⟩] (n * 2) = bvCells bs 0 n := by
  refine bvCells_ext (by rw [size_madeCells]) (bvCells_size _ _ _) fun i hi => ?_
  obtain ⟨a1, a2⟩ := bvCells_at bs 0 n i hi
  obtain ⟨b1, b2⟩ := made_at n i hi (.int .u64 0) (.string ⟨#[]⟩)
  rw [a1, a2, b1, b2]
  simp [bvI]
theorem bvCells_vals {w : World} {g n : Nat} {bs : List Bool} (hn : bs.length = n) (hx : Box w g 58 (bvCells bs n n)) : ValsAt w (some ⟨g, 0, none⟩) (rowV (bs.map bitV)) := fun _ => by
  refine ⟨g, 0, rfl, hx.lt, fun i hi => ?_⟩
  rw [Nat.zero_add, hx.cell i]
  have hl := rowV_length (bs.map bitV)
  rw [List.length_map, hn] at hl
  have hk : i / 2 < n := by omega
  have hkl : i / 2 < (bs.map bitV).length := by rw [List.length_map, hn]; exact hk
  obtain ⟨a1, a2⟩ := bvCells_at bs n n (i / 2) hk
  obtain ⟨r1, r2⟩ := v_cells (bs.map bitV) (i / 2) hkl
  have hv := List.getElem?_eq_getElem hi
  have hb : bs.getD (i / 2) false = bs[i / 2]'(by omega) := by simp [List.getD, show i / 2 < bs.length by omega]
  have hm : i % 2 = 0 ∨ i % 2 = 1 := by omega
  rcases hm with hm | hm
  · rw [show i / 2 * 2 = i by omega] at a1 r1
    rw [a1, ← hv, r1, List.getElem_map, bvI, hb]
    simp [bitV, hk]
  · rw [show i / 2 * 2 + 1 = i by omega] at a2 r2
    rw [a2, ← hv, r2, List.getElem_map]
    rfl
end Go.Proofs.YtllgkohgcicbhaaGreatDoor

/-
  method.takeBits and take answer as the plain functions say; nothing that was there is changed. Conditions: the package num's table of widths holds 1, 2, 4, 8; texts of fewer than 2^62 bytes; at most 16 letters, each a letter of values.
-/
namespace Go.Proofs.YtllgkohgcicbhaaGreatDoor
open Go.RowKit


set_option maxRecDepth 100000 in
set_option maxHeartbeats 1000000 in
theorem mtakeBits_ok (s : ByteArray) (n : Nat) (w : World) (hn : n ≤ 64) (hE : tbE s n = 0) :
    Calls Tryz.prog 104 #[.string s, .int .i64 (n : Int)] w fun e w' => ∃ g, e = .returned (.tuple #[.slice (some ⟨g, 0, none⟩) n n, .string (tbR s n), .int .i64 0]) ∧ ValsAt w' (some ⟨g, 0, none⟩) (rowV ((bitsOf s n).map bitV)) ∧ Below w.heap.size w w' := by
  have hT := takeBits_any s n w
  have hL : tbL s n = bitsOf s n := by rw [tbL, if_pos hE, Int.toNat_natCast]
  unfold TB at hT
  rw [hE, hL] at hT
  have hbl := bitsOf_length s n
  generalize tbR s n = R at hT
  generalize bitsOf s n = bs at hT hbl
  clear hL hE
  obtain ⟨i0, hi, hz0, hz1, hz2⟩ := info_partsV infoVal
  have hmk : ∀ u : World, (Instr.makeSlice 22 (.int .i64 (n : Int)) (.int .i64 (n : Int))).run Tryz.prog u =
      .ok (.slice (some ⟨u.heap.size, 0, none⟩) n n) (u.alloc (.cells (bvCells bs 0 n) 58)) := fun u => by
    have h := run_make (P := Tryz.prog) u 22 58 i0 (.agg #[.int .u64 0, .string ⟨#[]⟩]) Tryz.underlying22 hi hz0 .i64 .i64 n n (by omega) (Int.le_refl _) (by rw [hz2]; omega) (by omega)
    rw [Int.toNat_natCast, hz1] at h
    rw [← bvCells_zero]
    exact h
  go_enter Tryz.func104, Tryz.ntmps104
  go_wp2_with fail
  refine hT.mono ?_
  rintro e w1 ⟨A, c, rfl, hB, hb1⟩
  clear hT
  rw [hbl]
  go_wp2_with fail
  go_loopw [27] (fun v wr => ∃ j : Nat, j ≤ n ∧ v = .int .i64 j ∧ Below w1.heap.size w1 wr ∧ Box wr w1.heap.size 58 (bvCells bs j n)) (fun v _ => n - (intOf v).toNat)
  case atStart => exact ⟨0, Nat.zero_le _, rfl, (Below.refl _ _).alloc (Nat.le_refl _) _, Box.new w1 _ _⟩
  case round =>
    obtain ⟨j, hj, rfl, hb, hx⟩ := hrel
    clear hmk
    by_cases hlt : j < n
    · obtain ⟨b0, off, rfl, hb0, hc⟩ := hB (by omega)
      have hck := (hb.cell (p := ⟨b0, off + j, none⟩) hb0).trans (hc j (by omega))
      have hgd : bs.getD j false = bs[j] := by simp [List.getD, show j < bs.length by omega]
      rw [← hgd] at hck
      have hcj := (hx.cell (j * 2)).trans (bvCells_at bs j n j hlt).1
      have hfj := hx.free (j * 2)
      have e1 : IntKind.i64.wrap ((j : Int) + 1) = ((j + 1 : Nat) : Int) := by simp only [IntKind.wrap_i64]; omega
      have Hx := Lib.hid hx
      clear hx hc hB hgd hbl
      cases hv : bs.getD j false
      · rw [hv] at hck
        have HO : Hid (bs.getD j false = false) := Lib.hid hv
        clear hv hcj hfj
        go_wp2
        go_roundw
        case rel => exact ⟨j + 1, hlt, rfl, hb, by rw [bvCells_off bs j n HO.out]; exact Hx.out⟩
        case measure => simp only [intOf]; omega
      · rw [hv] at hck
        have HO : Hid (bs.getD j false = true) := Lib.hid hv
        clear hv
        go_wp2
        go_roundw
        case rel => exact ⟨j + 1, hlt, rfl, hb.setCell (p := ⟨w1.heap.size, j * 2, none⟩) (Nat.le_refl _) _, by rw [← bvCells_on bs j n hlt HO.out]; exact Hx.out.set (j * 2) _⟩
        case measure => simp only [intOf]; omega
    · obtain rfl : j = n := by omega
      have Hx := Lib.hid hx
      have Hbl := Lib.hid hbl
      clear hx hB hbl
      go_wp2
      go_ret3
      exact ⟨w1.heap.size, rfl, bvCells_vals Hbl.out Hx.out, hb1.trans (hb.mono hb1.size)⟩

set_option maxHeartbeats 1000000 in
theorem mtakeBits_not (s : ByteArray) (n : Nat) (w : World) (hE : tbE s n ≠ 0) :
    Calls Tryz.prog 104 #[.string s, .int .i64 (n : Int)] w fun e w' => e = .returned (.tuple #[.slice none 0 0, .string ⟨#[]⟩, .int .i64 (tbE s n)]) ∧ Below w.heap.size w w' := by
  have hT := takeBits_any s n w
  unfold TB at hT
  generalize tbR s n = R at hT
  generalize tbL s n = bs at hT
  have tE : (tbE s n != 0) = true := by simpa using hE
  generalize tbE s n = E at hT tE
  clear hE
  go_enter Tryz.func104, Tryz.ntmps104
  go_wp2_with fail
  refine hT.mono ?_
  rintro e w1 ⟨A, c, rfl, hB, hb1⟩
  clear hT hB
  go_wp2
  go_ret3
  exact ⟨rfl, hb1⟩
end Go.Proofs.YtllgkohgcicbhaaGreatDoor

/-
  method.take answers the values that bytes begin with, by their letters, in a row of its own, or that there are none; nothing that was there is changed. Conditions: the package num's table of widths holds 1, 2, 4, 8; texts of fewer than 2^62 bytes; at most 16 letters, each a letter of values.
-/
namespace Go.Proofs.YtllgkohgcicbhaaGreatDoor
open Go.RowKit

def strLen : Value → Nat
  | .string s => s.size
  | _ => 0
structure TkI (w : World) (L s T S : ByteArray) (acc : List MV) (v : Value) (wr : World) : Prop where
  row : wr.ownsRow w.heap.size 58 2 v acc.length (rowV acc)
  bel : Below w.heap.size w wr
  tl : acc.length + T.size = L.size
  sl : S.size ≤ s.size
  lets : ∀ c ∈ T.data.toList, isLet c = true
  eq : tk L.data.toList s = (tk T.data.toList S).map fun x => (acc ++ x.1, x.2)
theorem tbR_le (s : ByteArray) (n : Int) : (tbR s n).size ≤ s.size := by
  unfold tbR
  split
  · rw [ByteArray.size_extract]; omega
  · exact Nat.zero_le _
theorem oR_le {c : UInt8} {s : ByteArray} (hc : ¬ c = 98) (h : oE c s = 0) : (oR c s).size ≤ s.size := by
  obtain ⟨-, e, -⟩ := one_forth hc h
  have := congrArg ByteArray.size e
  rw [ByteArray.size_append] at this
  omega
theorem map_acc {x : Option (List MV × ByteArray)} (acc m : List MV) : (x.map fun y => (m ++ y.1, y.2)).map (fun y => (acc ++ y.1, y.2)) = x.map fun y => ((acc ++ m) ++ y.1, y.2) := by
  cases x with
  | none => rfl
  | some y => simp
theorem cell_pair_new (w : World) (x y : Value) (t : TypeId) : ∀ j u, [x, y][j]? = some u → (w.alloc (.cells #[x, y] t)).cell? ((⟨w.heap.size, 0, none⟩ : Addr).add j) = some u := by
  intro j u hj
  match j, hj with
  | 0, hj => simp at hj; subst hj; simp [Addr.add]
  | 1, hj => simp at hj; subst hj; simp [Addr.add]

theorem rowBelow0 {w wr w1 : World} {base : Nat} {e : TypeId} {size : Nat} {v : Value} {n : Nat} {xs : List Value} (hn : base ≤ w.heap.size) (hrow : wr.ownsRow base e size v n xs) (hb : Below base w wr) (hg : wr.grownBy w1 v.ownBlock) : Below base w w1 :=
  hb.grown hg (Nat.le_trans hn hb.size) (fun j ej => by
    rcases hrow.2 with ⟨rfl, _⟩ | ⟨g, cap, cur, rfl, hbg, _, _⟩
    · simp [Value.ownBlock] at ej
    · obtain rfl : g = j := by simpa [Value.ownBlock] using ej
      exact hbg)
theorem rowBelow1 {w wr w1 : World} {base : Nat} {e : TypeId} {size : Nat} {v : Value} {n : Nat} {xs : List Value} (hn : base ≤ w.heap.size) (hrow : wr.ownsRow base e size v n xs) (hb : Below base w wr) (hg : wr.drew.grownBy w1 v.ownBlock) : Below base w w1 :=
  rowBelow0 (wr := wr.drew) hn hrow hb.drew hg

def TkPost (L s : ByteArray) (w : World) (e : Ending) (w' : World) : Prop :=
  (∃ l r v, tk L.data.toList s = some (l, r) ∧ e = .returned (.tuple #[v, .string r, .int .i64 0]) ∧ w'.ownsRow w.heap.size 58 2 v l.length (rowV l) ∧ l.length = L.size ∧ Below w.heap.size w w') ∨
  (∃ x, tk L.data.toList s = none ∧ e = .returned (.tuple #[.slice none 0 0, .string ⟨#[]⟩, .int .i64 x]) ∧ x ≠ 0 ∧ Below w.heap.size w w')

set_option maxRecDepth 100000 in
set_option maxHeartbeats 4000000 in
theorem mtake_any (L s : ByteArray) (w : World) (hw : Wid w) (h16 : L.size ≤ 16) (hls : ∀ c ∈ L.data.toList, isLet c = true) (hs : s.size < 4611686018427387904) :
    Calls Tryz.prog 84 #[.string L, .string s] w (TkPost L s w) := by
  obtain ⟨i0, hi, hz0, hz1, hz2⟩ := info_partsV infoVal
  have hI : TkI w L s L s [] (.slice none 0 0) w := ⟨World.ownsRow_nil _ _ _ _, Below.refl _ _, by simp, Nat.le_refl _, hls, by cases tk L.data.toList s <;> simp⟩
  clear hls
  go_enter Tryz.func84, Tryz.ntmps84
  go_wp2_with fail
  go_step3
  go_wp2
  go_step3
  go_wp2
  go_loopw [0, 1, 7] (fun a b v wr => ∃ T S acc, a = .string T ∧ b = .string S ∧ TkI w L s T S acc v wr) (fun a _ _ _ => strLen a)
  case atStart => exact ⟨L, s, [], rfl, rfl, hI⟩
  case round =>
    obtain ⟨T, S, acc, rfl, rfl, HI⟩ := hrel
    clear hI
    rcases str_cases T with ⟨rfl, -⟩ | ⟨tT, hT⟩
    · have HF : Hid (tk L.data.toList s = some (acc, S)) := Lib.hid (by rw [HI.eq, show (⟨#[]⟩ : ByteArray).data.toList = [] from rfl, tk_nil]; simp)
      have hrow := HI.row
      have hbel := HI.bel
      have Htl := Lib.hid HI.tl
      clear HI
      go_wp2
      rw [Exit.noGoto_ret]
      go_ret3
      exact .inl ⟨acc, S, _, HF.out, rfl, hrow, Htl.out, hbel⟩
    · have hTL := HI.tl
      have hSl := HI.sl
      have hBA := bitsAhead_any T wr (by omega)
      have hNb : nb T.data.toList ≤ T.size := by rw [← ba_len]; exact nb_le _
      obtain ⟨N, hN⟩ : ∃ N, nb T.data.toList = N := ⟨_, rfl⟩
      rw [hN] at hBA hNb
      have HN := Lib.hid hN
      clear hN
      have hxd := Lib.hid (extract_drop T)
      go_wp2_with fail
      refine hBA.mono ?_
      rintro e w1 ⟨rfl, hb1⟩
      have hrow1 := rowKept HI.row hb1
      have hbel1 := HI.bel.trans (hb1.mono HI.bel.size)
      have Heq := Lib.hid HI.eq
      have Hlet := Lib.hid HI.lets
      clear hBA hb1 HI
      by_cases hpos : 0 < N
      · have HT : Hid (∃ t, T.data.toList = 98 :: t ∧ nb t + 1 = N) := Lib.hid (by
          obtain ⟨M, rfl⟩ : ∃ M, N = M + 1 := ⟨N - 1, by omega⟩
          obtain ⟨t, ht, hM⟩ := nb_succ HN.out
          exact ⟨t, ht, by omega⟩)
        have tN : decide ((0 : Int) < (N : Int)) = true := by simpa using hpos
        by_cases hE : tbE S (N : Int) = 0
        · have hTB := mtakeBits_ok S N w1 (by omega) hE
          have HQ : Hid (tk L.data.toList s = (tk (T.extract N T.size).data.toList (tbR S (N : Int))).map fun x => ((acc ++ (bitsOf S N).map bitV) ++ x.1, x.2)) := Lib.hid (by
            obtain ⟨t, ht, hM⟩ := HT.out
            subst hM
            rw [Heq.out, ht, tk_bits, if_pos hE, map_acc, hxd.out, ht, List.drop_succ_cons])
          have HLt : Hid (∀ c ∈ (T.extract N T.size).data.toList, isLet c = true) := Lib.hid (fun c hc => by
            rw [hxd.out] at hc
            exact Hlet.out c (List.mem_of_mem_drop hc))
          have hRl := tbR_le S (N : Int)
          have hbl := bitsOf_length S N
          have HX : Hid ((T.extract N T.size).size = T.size - N) := Lib.hid (by rw [ByteArray.size_extract]; omega)
          generalize tbR S (N : Int) = R at hTB HQ hRl
          have hnl : (rowV ((bitsOf S N).map bitV)).length = N * 2 := by rw [rowV_length, List.length_map, hbl]
          have h1c := Lib.hid (rowV_one ((bitsOf S N).map bitV))
          have Hml : Hid (((bitsOf S N).map bitV).length = N) := Lib.hid (by rw [List.length_map, hbl])
          generalize (bitsOf S N).map bitV = ms at hTB HQ hnl h1c Hml
          have Hnl := Lib.hid hnl
          clear hE hbl HT HN Heq Hlet hxd hnl
          go_wp2_with fail
          refine hTB.mono ?_
          rintro e w2 ⟨g, rfl, hV2, hb2⟩
          have hrow2 := rowKept hrow1 hb2
          have hbel2 := hbel1.trans (hb2.mono hbel1.size)
          have hs2 := hbel2.size
          obtain ⟨b9, off9, e9, -, hc9⟩ := hV2 (by rw [Hnl.out]; omega)
          have hcells : Hid (∀ j u, (rowV ms)[j]? = some u → w2.cell? ((⟨g, 0, none⟩ : Addr).add j) = some u) := Lib.hid (fun j u hj => by
            obtain ⟨hlt, he⟩ := List.getElem?_eq_some_iff.1 hj
            cases e9
            have := hc9 j hlt
            rw [he] at this
            rw [Addr.add_mid]
            exact this)
          clear hTB hrow1 hb2 hbel1 hV2 hc9 e9
          go_wp2
          have hs2' : w.heap.size ≤ w2.drew.heap.size := hs2
          go_region_law (refine step_append_lies _ rfl (.tmp 31) (.tmp 32) 22 rfl w.heap.size 58 i0 (.agg #[.int .u64 0, .string ⟨#[]⟩]) 2 24 Tryz.underlying22 hi hz0 hz1 hz2 rfl (by decide) _ _ _ rfl hrow2 ⟨g, 0, none⟩ N N (rowV ms) rfl Hnl.out hcells.out h1c.out hpos (by unfold maxLen; omega) (by omega) hs2' _ rfl ?_; intro g3 cap3 w3 hown3 hgrow3 hat3 hlt3)
          have hB3 := rowBelow1 (Nat.le_refl _) hrow2 hbel2 hgrow3
          have HI4 : TkI w L s (T.extract N T.size) R (acc ++ ms) (.slice (some ⟨g3, 0, none⟩) (acc.length + N) cap3) w3 := ⟨by rw [List.length_append, Hml.out, rowV_append]; exact hown3, hB3, by rw [List.length_append, Hml.out, HX.out]; omega, Nat.le_trans hRl hSl, HLt.out, HQ.out⟩
          have HM : Hid ((T.extract N T.size).size < T.size) := Lib.hid (by rw [HX.out]; omega)
          clear hown3 hgrow3 hat3 hlt3 hB3 hrow2 hbel2 hcells hs2' HQ HLt HX Hml Hnl h1c hs2 hRl
          generalize T.extract N T.size = X at HI4 HM
          simp only [Act.put, List.getElem_toArray, List.getElem_cons_succ, List.getElem_cons_zero, List.setIfInBounds_toArray, List.set_cons_zero, List.set_cons_succ]
          go_wp2
          go_roundw
          case rel => exact ⟨X, R, _, rfl, rfl, HI4⟩
          case measure => simp only [strLen]; exact HM.out
        · have hTB := mtakeBits_not S N w1 hE
          have tE : (tbE S (N : Int) != 0) = true := by simpa using hE
          have HQ : Hid (tk L.data.toList s = none) := Lib.hid (by
            obtain ⟨t, ht, hM⟩ := HT.out
            subst hM
            rw [Heq.out, ht, tk_bits, if_neg hE]
            rfl)
          have HE := Lib.hid hE
          generalize tbE S (N : Int) = E at hTB tE HE
          clear hE HT HN Heq Hlet hxd
          go_wp2_with fail
          refine hTB.mono ?_
          rintro e w2 ⟨rfl, hb2⟩
          have hbel2 := hbel1.trans (hb2.mono hbel1.size)
          clear hTB hrow1 hb2 hbel1
          go_wp2
          rw [Exit.noGoto_ret]
          go_ret3
          exact .inr ⟨E, HQ.out, rfl, HE.out, hbel2⟩
      · obtain rfl : N = 0 := by omega
        have h0 : 0 < T.size := by omega
        have h1T : (1 : Int) ≤ (T.size : Int) := by omega
        obtain ⟨c, t, ht, hc⟩ : ∃ c t, T.data.toList = c :: t ∧ ¬ c = 98 := by
          rcases nb_zero HN.out with h | h
          · have := ba_len T; rw [h] at this; simp at this; omega
          · exact h
        have hT0 : ((T[0]'h0).toNat : Int) = (c.toNat : Nat) := by
          have e : T[0]'h0 = T.data.toList[0]'(by rw [ba_len]; exact h0) := rfl
          rw [e]
          simp only [ht]
          rfl
        have hOne := takeOne_any c (Hlet.out c (by rw [ht]; exact List.mem_cons_self ..)) hc S w1 (hw.below hbel1) (by omega)
        have HT := Lib.hid ht
        generalize ((c.toNat : Nat) : Int) = cz at hT0 hOne
        have hd := hxd.out 1
        have HLt : Hid (∀ c ∈ (T.extract 1 T.size).data.toList, isLet c = true) := Lib.hid (fun c hc => by
          rw [hxd.out] at hc
          exact Hlet.out c (List.mem_of_mem_drop hc))
        have HX : Hid ((T.extract 1 T.size).size = T.size - 1) := Lib.hid (by rw [ByteArray.size_extract]; omega)
        have Hd := Lib.hid hd
        clear ht hd hxd HN Hlet
        by_cases hE : oE c S = 0
        · have HQ : Hid (tk L.data.toList s = (tk (T.extract 1 T.size).data.toList (oR c S)).map fun x => ((acc ++ [oV c S]) ++ x.1, x.2)) := Lib.hid (by
            rw [Heq.out, Hd.out, HT.out, tk_one hc, if_pos hE, List.drop_succ_cons, List.drop_zero]
            cases tk t (oR c S) with
            | none => rfl
            | some y => simp)
          have hRl := oR_le hc hE
          rw [hE] at hOne
          generalize oR c S = R at hOne HQ hRl
          generalize oV c S = ov at hOne HQ
          obtain ⟨nn, ss⟩ := ov
          unfold encV at hOne
          dsimp only at hOne
          clear hE HT Heq hc Hd
          go_wp2_with fail
          refine hOne.mono ?_
          rintro e w2 ⟨rfl, hb2⟩
          have hrow2 := rowKept hrow1 hb2
          have hbel2 := hbel1.trans (hb2.mono hbel1.size)
          have hrow3 := hrow2.alloc (.cells #[.int .u64 nn, .string ss] 58)
          have hbel3 := hbel2.alloc hbel2.size (.cells #[.int .u64 nn, .string ss] 58)
          have hbx := Bx.new w2 58 [.int .u64 nn, .string ss]
          clear hOne hrow1 hb2 hbel1 hrow2 hbel2
          go_wp2
          generalize w2.alloc (.cells #[.int .u64 nn, .string ss] 58) = w9 at hrow3 hbel3 hbx
          generalize w2.heap.size = q at hbx
          have y0 := hbx.cell 0 (by simp)
          have y1 := hbx.cell 1 (by simp)
          dsimp only [List.getElem_cons_zero, List.getElem_cons_succ] at y0 y1
          have hs9 := hbel3.size
          have hs9' : w.heap.size ≤ (w9.drew.alloc (.cells #[.int .u64 nn, .string ss] 58)).heap.size := by rw [World.size_alloc]; exact Nat.le_succ_of_le hs9
          go_region_law (refine step_append_lies _ rfl (.tmp 49) (.tmp 51) 22 rfl w.heap.size 58 i0 (.agg #[.int .u64 0, .string ⟨#[]⟩]) 2 24 Tryz.underlying22 hi hz0 hz1 hz2 rfl (by decide) _ _ _ rfl (hrow3.alloc _) ⟨w9.heap.size, 0, none⟩ 1 1 [.int .u64 nn, .string ss] rfl rfl (cell_pair_new w9.drew _ _ _) (by simp [Value.oneCell']) (by decide) (by unfold maxLen; omega) (by omega) hs9' _ rfl ?_; intro g3 cap3 w3 hown3 hgrow3 hat3 hlt3)
          have hB3 := rowBelow1 (Nat.le_refl _) (hrow3.alloc (.cells #[.int .u64 nn, .string ss] 58)) (hbel3.alloc hs9 (.cells #[.int .u64 nn, .string ss] 58)) hgrow3
          have HI4 : TkI w L s (T.extract 1 T.size) R (acc ++ [⟨nn, ss⟩]) (.slice (some ⟨g3, 0, none⟩) (acc.length + 1) cap3) w3 := ⟨by rw [List.length_append, rowV_append]; exact hown3, hB3, by rw [List.length_append, HX.out]; simp; omega, Nat.le_trans hRl hSl, HLt.out, HQ.out⟩
          have HM : Hid ((T.extract 1 T.size).size < T.size) := Lib.hid (by rw [HX.out]; omega)
          clear hown3 hgrow3 hat3 hlt3 hB3 hrow3 hbel3 hs9' HQ HLt HX hs9 hRl
          generalize T.extract 1 T.size = X at HI4 HM
          simp only [Act.put, List.getElem_toArray, List.getElem_cons_succ, List.getElem_cons_zero, List.setIfInBounds_toArray, List.set_cons_zero, List.set_cons_succ]
          go_wp2
          go_roundw
          case rel => exact ⟨X, R, _, rfl, rfl, HI4⟩
          case measure => simp only [strLen]; exact HM.out
        · have tE : (oE c S != 0) = true := by simpa using hE
          have HQ : Hid (tk L.data.toList s = none) := Lib.hid (by
            rw [Heq.out, HT.out, tk_one hc, if_neg hE]
            rfl)
          have HE := Lib.hid hE
          generalize oE c S = E at hOne tE HE
          generalize oR c S = R at hOne
          generalize oV c S = ov at hOne
          obtain ⟨nn, ss⟩ := ov
          unfold encV at hOne
          dsimp only at hOne
          clear hE HT Heq hc Hd HLt HX
          go_wp2_with fail
          refine hOne.mono ?_
          rintro e w2 ⟨rfl, hb2⟩
          have hbel2 := hbel1.trans (hb2.mono hbel1.size)
          clear hOne hrow1 hb2 hbel1
          go_wp2
          rw [Exit.noGoto_ret]
          go_ret3
          exact .inr ⟨E, HQ.out, rfl, HE.out, hbel2.alloc hbel2.size _⟩
end Go.Proofs.YtllgkohgcicbhaaGreatDoor

/-
  method.Take answers the method that bytes are, in memory of its own, or that there is none; nothing that was there is changed. Conditions: the package num's table of widths holds 1, 2, 4, 8; texts of fewer than 2^62 bytes.
-/
namespace Go.Proofs.YtllgkohgcicbhaaGreatDoor
open Go.RowKit

theorem tm_wf {s : ByteArray} {m : Me} (h : tm s = some m) : wfM m := by
  obtain ⟨h1, -, h3⟩ := tm_forth h
  obtain ⟨g1, g2, g3⟩ := mE_parts h1
  obtain ⟨f1, -, -, -⟩ := met_facts g1
  exact wf_list (mLs m) m.l (by rw [mLs, ba_len, g2]) f1 h3 g3

/-- what Take answers -/
def TmPost (s : ByteArray) (w : World) (e : Ending) (w' : World) : Prop :=
  (∃ m A cap, tm s = some m ∧ e = .returned (.tuple #[encM m A cap, .int .i64 0]) ∧ ValsAt w' A (rowV m.l) ∧ (A = none → m.l.length = 0 ∧ cap = 0) ∧ Below w.heap.size w w') ∨
  (tm s = none ∧ e = .returned (.tuple #[noneM, .int .i64 7]) ∧ Below w.heap.size w w')
set_option maxRecDepth 100000 in
set_option maxHeartbeats 2000000 in
theorem mTake_any (s : ByteArray) (w : World) (hw : Wid w) (hs : s.size < 4611686018427387904) : Calls Tryz.prog 63 #[.string s] w (TmPost s w) := by
  have hb0 : Below w.heap.size w (w.alloc (.cells #[.int .i64 0, .int .i64 0, .slice none 0 0] 24)) := (Below.refl _ w).alloc (Nat.le_refl _) _
  have hx := Bx.new w 24 [.int .i64 0, .int .i64 0, .slice none 0 0]
  have hT1 := take_any s 2 _ (hw.below hb0)
  have hT2 := fun W hW => take_any (takeR s 2) 2 W hW
  have r1 := takeR_le s 2
  have r2 := takeR_le (takeR s 2) 2
  have HTM : Hid (tm s = if takeE (takeR s 2) 2 = 0 then tmOf (takeV s 2) (takeV (takeR s 2) 2) (takeR (takeR s 2) 2) else none) := Lib.hid rfl
  have v1 := takeV_nonneg s 2
  have v2 := takeV_nonneg (takeR s 2) 2
  have hsm : ∀ s, takeV s 2 < 65536 := fun s => by
    cases g : takeOk s 2
    · rw [takeV, if_neg (by simp [g])]; omega
    · have := takeV_pow g
      have e : (256 : Nat) ^ (2 : Int).toNat = 65536 := by decide
      rw [e] at this
      omega
  have u1 := hsm s
  have u2 := hsm (takeR s 2)
  clear hsm
  generalize takeE s 2 = E1 at hT1
  generalize takeE (takeR s 2) 2 = E2 at hT2 HTM
  generalize takeR (takeR s 2) 2 = R2 at hT2 HTM r2
  generalize takeV (takeR s 2) 2 = V2 at hT2 HTM v2 u2
  generalize takeR s 2 = R1 at hT1 hT2 r1 r2
  generalize takeV s 2 = V1 at hT1 HTM v1 u1
  have w1' : IntKind.i64.wrap V1 = V1 := by simp only [IntKind.wrap_i64]; omega
  have w2' : IntKind.i64.wrap V2 = V2 := by simp only [IntKind.wrap_i64]; omega
  go_enter Tryz.func63, Tryz.ntmps63
  go_wp2_with fail
  refine hT1.mono ?_
  rintro e w1 ⟨rfl, hb1⟩
  have hx1 := hx.kept hb1
  have hB1 := hb0.trans (hb1.mono hb0.size)
  clear hT1 hx hb0 hb1
  go_wp2_with fail
  refine (hT2 w1 (hw.below hB1)).mono ?_
  rintro e w2 ⟨rfl, hb2⟩
  have hx2 := hx1.kept hb2
  have hB2 := hB1.trans (hb2.mono hB1.size)
  clear hT2 hx1 hB1 hb2
  by_cases hE : E2 = 0
  · have HO : Hid (tm s = tmOf V1 V2 R2) := Lib.hid (by rw [HTM.out, if_pos hE])
    subst hE
    clear HTM
    have hOf := of_any V1 V2 w2
    have HU : Hid (tmOf V1 V2 R2 = if sIs V1 V2 = true then (match tk (sOf V1 V2).data.toList R2 with
      | some (l, r) => if r.size = 0 then some ⟨V1, V2, l⟩ else none
      | none => none) else none) := Lib.hid rfl
    have HF : Hid (sIs V1 V2 = true → (∀ x ∈ (sOf V1 V2).data.toList, isLet x = true) ∧ (sOf V1 V2).size ≤ 16) := Lib.hid (fun h => ⟨(met_facts h).1, (met_facts h).2.1⟩)
    generalize sOf V1 V2 = L at hOf HU HF
    generalize hq : sIs V1 V2 = q at hOf HU HF
    clear hq
    go_wp2_with fail
    refine hOf.mono ?_
    rintro e w3 ⟨rfl, hb3⟩
    have hx3 := hx2.kept hb3
    have hB3 := hB2.trans (hb3.mono hB2.size)
    clear hOf hx2 hB2 hb3
    cases q
    · have HN : Hid (tm s = none) := Lib.hid (by rw [HO.out, HU.out]; rfl)
      obtain ⟨a0, f0, a1, f1, a2, f2, bR⟩ := hx3.store3 (.int .i64 0) (.int .i64 0) (.slice none 0 0)
      have hB4 := below_store3 hB3 (B := w.heap.size) (Nat.le_refl _) (.int .i64 0) (.int .i64 0) (.slice none 0 0)
      clear hx3 hB3 HO HU HF
      go_wp2
      have y0 := bR.cell 0 (by simp)
      have y1 := bR.cell 1 (by simp)
      have y2 := bR.cell 2 (by simp)
      dsimp only [List.getElem_cons_zero, List.getElem_cons_succ] at y0 y1 y2
      refine bodyPost_ret (v := .tuple #[noneM, .int .i64 7]) ?_ rfl (.inr ⟨HN.out, rfl, hB4⟩)
      rw [results_cell_tmp rfl]
      simp [asAddr, Result.andThen, go_sem, y0, y1, y2, noneM]
    · obtain ⟨l1, l2⟩ := HF.out rfl
      have hTk := mtake_any L R2 w3 (hw.below hB3) l2 l1 (by omega)
      clear l1 HF
      go_wp2_with fail
      refine hTk.mono ?_
      rintro e w4 (⟨l, r, v, ht, rfl, hrow, hll, hb4⟩ | ⟨x, ht, rfl, hx0, hb4⟩)
      · have hx4 := hx3.kept hb4
        have hB4 := hB3.trans (hb4.mono hB3.size)
        obtain ⟨A, cap, rfl, hV, hA0⟩ := row_form hrow
        have HA := Lib.hid hA0
        have HRow := Lib.hid hrow
        have HT := Lib.hid ht
        have Hll := Lib.hid hll
        clear hTk hx3 hB3 hb4 ht hrow hA0 hV hll
        rcases str_cases r with ⟨rfl, hr⟩ | ⟨tr, hr⟩
        · have HN : Hid (tm s = some ⟨V1, V2, l⟩) := Lib.hid (by rw [HO.out, HU.out, HT.out]; rfl)
          obtain ⟨a0, f0, a1, f1, a2, f2, bR⟩ := hx4.store3 (.int .i64 V1) (.int .i64 V2) (.slice A l.length cap)
          have hB5 := below_store3 hB4 (B := w.heap.size) (Nat.le_refl _) (.int .i64 V1) (.int .i64 V2) (.slice A l.length cap)
          have HV2 : Hid (ValsAt (((w4.setCell ⟨w.heap.size, 0, none⟩ (.int .i64 V1)).setCell ⟨w.heap.size, 1, none⟩ (.int .i64 V2)).setCell ⟨w.heap.size, 2, none⟩ (.slice A l.length cap)) A (rowV l)) := Lib.hid (by
            have k1 : Keeps (fun t => t != 24) w4 (w4.setCell ⟨w.heap.size, 0, none⟩ (.int .i64 V1)) := Keeps.setCell (show w4.heap[w.heap.size]? = _ from hx4) (by decide) 0 _
            have k2 : Keeps (fun t => t != 24) _ ((w4.setCell ⟨w.heap.size, 0, none⟩ (.int .i64 V1)).setCell ⟨w.heap.size, 1, none⟩ (.int .i64 V2)) := Keeps.setCell (show _ = _ from hx4.set 0 (.int .i64 V1)) (by decide) 1 _
            have k3 : Keeps (fun t => t != 24) _ (((w4.setCell ⟨w.heap.size, 0, none⟩ (.int .i64 V1)).setCell ⟨w.heap.size, 1, none⟩ (.int .i64 V2)).setCell ⟨w.heap.size, 2, none⟩ (.slice A l.length cap)) := Keeps.setCell (show _ = _ from (hx4.set 0 (.int .i64 V1)).set 1 (.int .i64 V2)) (by decide) 2 _
            obtain ⟨A', c', e', hV', -⟩ := row_form (((k1.trans k2).trans k3).row HRow.out (by decide))
            cases e'
            exact hV')
          clear hx4 hB4 HO HU hr HT Hll HRow
          go_wp2
          have y0 := bR.cell 0 (by simp)
          have y1 := bR.cell 1 (by simp)
          have y2 := bR.cell 2 (by simp)
          dsimp only [List.getElem_cons_zero, List.getElem_cons_succ] at y0 y1 y2
          refine bodyPost_ret (v := .tuple #[encM ⟨V1, V2, l⟩ A cap, .int .i64 0]) ?_ rfl (.inl ⟨⟨V1, V2, l⟩, A, cap, HN.out, rfl, HV2.out, HA.out, hB5⟩)
          rw [results_cell_tmp rfl]
          simp [asAddr, Result.andThen, go_sem, y0, y1, y2, encM]
        · have HN : Hid (tm s = none) := Lib.hid (by rw [HO.out, HU.out, HT.out]; simp only [if_neg hr]; rfl)
          obtain ⟨a0, f0, a1, f1, a2, f2, bR⟩ := hx4.store3 (.int .i64 0) (.int .i64 0) (.slice none 0 0)
          have hB5 := below_store3 hB4 (B := w.heap.size) (Nat.le_refl _) (.int .i64 0) (.int .i64 0) (.slice none 0 0)
          clear hx4 hB4 HO HU hr HT Hll
          go_wp2
          have y0 := bR.cell 0 (by simp)
          have y1 := bR.cell 1 (by simp)
          have y2 := bR.cell 2 (by simp)
          dsimp only [List.getElem_cons_zero, List.getElem_cons_succ] at y0 y1 y2
          refine bodyPost_ret (v := .tuple #[noneM, .int .i64 7]) ?_ rfl (.inr ⟨HN.out, rfl, hB5⟩)
          rw [results_cell_tmp rfl]
          simp [asAddr, Result.andThen, go_sem, y0, y1, y2, noneM]
      · have hx4 := hx3.kept hb4
        have hB4 := hB3.trans (hb4.mono hB3.size)
        have HN : Hid (tm s = none) := Lib.hid (by rw [HO.out, HU.out, ht]; rfl)
        have tx : (x != 0) = true := by simpa using hx0
        obtain ⟨a0, f0, a1, f1, a2, f2, bR⟩ := hx4.store3 (.int .i64 0) (.int .i64 0) (.slice none 0 0)
        have hB5 := below_store3 hB4 (B := w.heap.size) (Nat.le_refl _) (.int .i64 0) (.int .i64 0) (.slice none 0 0)
        clear hTk hx3 hB3 hb4 ht hx0 hx4 hB4 HO HU
        go_wp2
        have y0 := bR.cell 0 (by simp)
        have y1 := bR.cell 1 (by simp)
        have y2 := bR.cell 2 (by simp)
        dsimp only [List.getElem_cons_zero, List.getElem_cons_succ] at y0 y1 y2
        refine bodyPost_ret (v := .tuple #[noneM, .int .i64 7]) ?_ rfl (.inr ⟨HN.out, rfl, hB5⟩)
        rw [results_cell_tmp rfl]
        simp [asAddr, Result.andThen, go_sem, y0, y1, y2, noneM]
  · have tE : (E2 != 0) = true := by simpa using hE
    have HN : Hid (tm s = none) := Lib.hid (by rw [HTM.out, if_neg hE])
    obtain ⟨a0, f0, a1, f1, a2, f2, bR⟩ := hx2.store3 (.int .i64 0) (.int .i64 0) (.slice none 0 0)
    have hB4 := below_store3 hB2 (B := w.heap.size) (Nat.le_refl _) (.int .i64 0) (.int .i64 0) (.slice none 0 0)
    clear hx2 hB2 HTM hE
    go_wp2
    have y0 := bR.cell 0 (by simp)
    have y1 := bR.cell 1 (by simp)
    have y2 := bR.cell 2 (by simp)
    dsimp only [List.getElem_cons_zero, List.getElem_cons_succ] at y0 y1 y2
    refine bodyPost_ret (v := .tuple #[noneM, .int .i64 7]) ?_ rfl (.inr ⟨HN.out, rfl, hB4⟩)
    rw [results_cell_tmp rfl]
    simp [asAddr, Result.andThen, go_sem, y0, y1, y2, noneM]
end Go.Proofs.YtllgkohgcicbhaaGreatDoor
