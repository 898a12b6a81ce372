/-
  method.ofNumber, ofText, takeLong and takeOne answer as the plain functions say; nothing that was there is changed. Conditions: the package num's table of widths holds 1, 2, 4, 8; texts of fewer than 2^62 bytes; the letter is one, and no bit.
-/
import Derived.Laws.ResultCell
import Derived.Test.YtaclpijcfgniiaaGreatDoorJMem
import Derived.Test.YtaclpijcfgniiaaGreatDoorWVal
namespace Go.Proofs.YtaclpijcfgniiaaGreatDoor
open Go.RowKit


theorem ofNumber_any (n : Int) (r : ByteArray) (x : Int) (w : World) :
    Calls Tryz.prog 63 #[.int .u64 n, .string r, .int .i64 x] w fun e w' => e = .returned (.tuple #[.agg #[.int .u64 n, .string ⟨#[]⟩], .string r, .int .i64 x]) ∧ Below w.heap.size w w' := by
  go_enter Tryz.func63, Tryz.ntmps63
  go_wp2
  refine bodyPost_ret (v := .tuple #[.agg #[.int .u64 n, .string ⟨#[]⟩], .string r, .int .i64 x]) ?_ rfl ⟨rfl, (Below.refl _ w).alloc (Nat.le_refl _) _⟩
  rw [results_ctt rfl]
  simp [asAddr, Result.andThen, go_sem]
theorem ofText_any (t r : ByteArray) (x : Int) (w : World) :
    Calls Tryz.prog 64 #[.string t, .string r, .int .i64 x] w fun e w' => e = .returned (.tuple #[.agg #[.int .u64 0, .string t], .string r, .int .i64 x]) ∧ Below w.heap.size w w' := by
  go_enter Tryz.func64, Tryz.ntmps64
  go_wp2
  refine bodyPost_ret (v := .tuple #[.agg #[.int .u64 0, .string t], .string r, .int .i64 x]) ?_ rfl ⟨rfl, (Below.refl _ w).alloc (Nat.le_refl _) _⟩
  rw [results_ctt rfl]
  simp [asAddr, Result.andThen, go_sem]

set_option maxHeartbeats 1000000 in
theorem mtakeLong_any (s : ByteArray) (w : World) (hw : Wid w) (hs : s.size < 4611686018427387904) :
    Calls Tryz.prog 66 #[.string s] w fun e w' => e = .returned (.tuple #[.string (oV 76 s).s, .string (oR 76 s), .int .i64 (oE 76 s)]) ∧ Below w.heap.size w w' := by
  have hT := takeLong_any s w hw hs
  have hA := ttA_le 4 s
  have HE : Hid (oE 76 s = if ttE 4 s = 0 then (if 131072 < (ttA 4 s).size then 4 else 0) else ttE 4 s) := Lib.hid rfl
  have HV : Hid ((oV 76 s).s = (if oE 76 s = 0 then ttA 4 s else ⟨#[]⟩)) := Lib.hid rfl
  have HR : Hid (oR 76 s = (if oE 76 s = 0 then ttR 4 s else ⟨#[]⟩)) := Lib.hid rfl
  generalize (oV 76 s).s = v at HV ⊢
  generalize oR 76 s = r at HR ⊢
  generalize oE 76 s = x at HE HV HR ⊢
  generalize ttA 4 s = a at hT HE HV hA
  generalize ttR 4 s = b at hT HR
  generalize ttE 4 s = y at hT HE
  go_enter Tryz.func66, Tryz.ntmps66
  go_wp2_with fail
  refine hT.mono ?_
  rintro e w1 ⟨rfl, hb⟩
  clear hT
  by_cases hy : y = 0
  · subst hy
    by_cases ha : 131072 < a.size
    · have HF : Hid (v = ⟨#[]⟩ ∧ r = ⟨#[]⟩ ∧ x = 4) := Lib.hid (by
        have e : x = 4 := by rw [HE.out, if_pos rfl, if_pos ha]
        exact ⟨by rw [HV.out, e]; rfl, by rw [HR.out, e]; rfl, e⟩)
      have hd : decide ((131072 : Int) < (a.size : Int)) = true := by simp; omega
      clear HE HV HR
      go_wp2
      go_ret3
      exact ⟨by rw [HF.out.1, HF.out.2.1, HF.out.2.2]; rfl, hb⟩
    · have HF : Hid (v = a ∧ r = b ∧ x = 0) := Lib.hid (by
        have e : x = 0 := by rw [HE.out, if_pos rfl, if_neg ha]
        exact ⟨by rw [HV.out, if_pos e], by rw [HR.out, if_pos e], e⟩)
      have hd : decide ((131072 : Int) < (a.size : Int)) = false := by simp; omega
      clear HE HV HR
      go_wp2
      go_ret3
      exact ⟨by rw [HF.out.1, HF.out.2.1, HF.out.2.2]; rfl, hb⟩
  · have HF : Hid (v = ⟨#[]⟩ ∧ r = ⟨#[]⟩ ∧ x = y) := Lib.hid (by
      have e : x = y := by rw [HE.out, if_neg hy]
      exact ⟨by rw [HV.out, e, if_neg hy], by rw [HR.out, e, if_neg hy], e⟩)
    have ty : (y != 0) = true := by simpa using hy
    clear HE HV HR hy
    go_wp2
    go_ret3
    exact ⟨by rw [HF.out.1, HF.out.2.1, HF.out.2.2]; rfl, hb⟩

set_option maxRecDepth 100000 in
set_option maxHeartbeats 1000000 in
theorem takeOne_111 (s : ByteArray) (w : World) (hw : Wid w) :
    Calls Tryz.prog 41 #[.int .u8 111, .string s] w fun e w' => e = .returned (.tuple #[encV (oV 111 s), .string (oR 111 s), .int .i64 (oE 111 s)]) ∧ Below w.heap.size w w' := by
  have hb0 : Below w.heap.size w (w.alloc (.cells #[.int .u64 0, .string ⟨#[]⟩] 48)) := (Below.refl _ w).alloc (Nat.le_refl _) _
  have hx := Bx.new w 48 [.int .u64 0, .string ⟨#[]⟩]
  have hT := take_any s 1 _ (hw.below hb0)
  have HF : Hid (oV 111 s = ⟨takeV s 1, ⟨#[]⟩⟩) := Lib.hid rfl
  have H2 : oR 111 s = takeR s 1 := rfl
  have H3 : oE 111 s = takeE s 1 := rfl
  rw [H2, H3]
  clear H2 H3
  generalize takeV s 1 = tv at hT HF
  generalize takeR s 1 = R at hT ⊢
  generalize takeE s 1 = E at hT ⊢
  generalize oV 111 s = V at HF ⊢
  go_enter Tryz.func41, Tryz.ntmps41
  go_wp2_with fail
  refine hT.mono ?_
  rintro e w1 ⟨rfl, hb1⟩
  have hx1 := hx.kept hb1
  have hB1 := hb0.trans (hb1.mono hb0.size)
  clear hT hx hb1 hb0
  go_wp2_with fail
  refine (ofNumber_any _ _ _ w1).mono ?_
  rintro e w2 ⟨rfl, hb2⟩
  have hx2 := hx1.kept hb2
  have hB2 := hB1.trans (hb2.mono hB1.size)
  obtain ⟨a0, f0, a1, f1, bR⟩ := hx2.store2 (.int .u64 tv) (.string ⟨#[]⟩)
  have hB3 := below_store2 hB2 (B := w.heap.size) (Nat.le_refl _) (.int .u64 tv) (.string ⟨#[]⟩)
  clear hx1 hb2 hB1 hx2 hB2
  go_wp2
  have y0 := bR.cell 0 (by simp)
  have y1 := bR.cell 1 (by simp)
  dsimp only [List.getElem_cons_zero, List.getElem_cons_succ] at y0 y1
  refine bodyPost_ret (v := .tuple #[encV V, .string R, .int .i64 E]) ?_ rfl ⟨rfl, hB3⟩
  rw [results_ctt rfl, HF.out]
  simp [asAddr, Result.andThen, go_sem, y0, y1, encV]

set_option maxRecDepth 100000 in
set_option maxHeartbeats 1000000 in
theorem takeOne_115 (s : ByteArray) (w : World) (hw : Wid w) :
    Calls Tryz.prog 41 #[.int .u8 115, .string s] w fun e w' => e = .returned (.tuple #[encV (oV 115 s), .string (oR 115 s), .int .i64 (oE 115 s)]) ∧ Below w.heap.size w w' := by
  have hb0 : Below w.heap.size w (w.alloc (.cells #[.int .u64 0, .string ⟨#[]⟩] 48)) := (Below.refl _ w).alloc (Nat.le_refl _) _
  have hx := Bx.new w 48 [.int .u64 0, .string ⟨#[]⟩]
  have hT := take_any s 2 _ (hw.below hb0)
  have HF : Hid (oV 115 s = ⟨takeV s 2, ⟨#[]⟩⟩) := Lib.hid rfl
  have H2 : oR 115 s = takeR s 2 := rfl
  have H3 : oE 115 s = takeE s 2 := rfl
  rw [H2, H3]
  clear H2 H3
  generalize takeV s 2 = tv at hT HF
  generalize takeR s 2 = R at hT ⊢
  generalize takeE s 2 = E at hT ⊢
  generalize oV 115 s = V at HF ⊢
  go_enter Tryz.func41, Tryz.ntmps41
  go_wp2_with fail
  refine hT.mono ?_
  rintro e w1 ⟨rfl, hb1⟩
  have hx1 := hx.kept hb1
  have hB1 := hb0.trans (hb1.mono hb0.size)
  clear hT hx hb1 hb0
  go_wp2_with fail
  refine (ofNumber_any _ _ _ w1).mono ?_
  rintro e w2 ⟨rfl, hb2⟩
  have hx2 := hx1.kept hb2
  have hB2 := hB1.trans (hb2.mono hB1.size)
  obtain ⟨a0, f0, a1, f1, bR⟩ := hx2.store2 (.int .u64 tv) (.string ⟨#[]⟩)
  have hB3 := below_store2 hB2 (B := w.heap.size) (Nat.le_refl _) (.int .u64 tv) (.string ⟨#[]⟩)
  clear hx1 hb2 hB1 hx2 hB2
  go_wp2
  have y0 := bR.cell 0 (by simp)
  have y1 := bR.cell 1 (by simp)
  dsimp only [List.getElem_cons_zero, List.getElem_cons_succ] at y0 y1
  refine bodyPost_ret (v := .tuple #[encV V, .string R, .int .i64 E]) ?_ rfl ⟨rfl, hB3⟩
  rw [results_ctt rfl, HF.out]
  simp [asAddr, Result.andThen, go_sem, y0, y1, encV]

set_option maxRecDepth 100000 in
set_option maxHeartbeats 1000000 in
theorem takeOne_108 (s : ByteArray) (w : World) (hw : Wid w) :
    Calls Tryz.prog 41 #[.int .u8 108, .string s] w fun e w' => e = .returned (.tuple #[encV (oV 108 s), .string (oR 108 s), .int .i64 (oE 108 s)]) ∧ Below w.heap.size w w' := by
  have hb0 : Below w.heap.size w (w.alloc (.cells #[.int .u64 0, .string ⟨#[]⟩] 48)) := (Below.refl _ w).alloc (Nat.le_refl _) _
  have hx := Bx.new w 48 [.int .u64 0, .string ⟨#[]⟩]
  have hT := take_any s 4 _ (hw.below hb0)
  have HF : Hid (oV 108 s = ⟨takeV s 4, ⟨#[]⟩⟩) := Lib.hid rfl
  have H2 : oR 108 s = takeR s 4 := rfl
  have H3 : oE 108 s = takeE s 4 := rfl
  rw [H2, H3]
  clear H2 H3
  generalize takeV s 4 = tv at hT HF
  generalize takeR s 4 = R at hT ⊢
  generalize takeE s 4 = E at hT ⊢
  generalize oV 108 s = V at HF ⊢
  go_enter Tryz.func41, Tryz.ntmps41
  go_wp2_with fail
  refine hT.mono ?_
  rintro e w1 ⟨rfl, hb1⟩
  have hx1 := hx.kept hb1
  have hB1 := hb0.trans (hb1.mono hb0.size)
  clear hT hx hb1 hb0
  go_wp2_with fail
  refine (ofNumber_any _ _ _ w1).mono ?_
  rintro e w2 ⟨rfl, hb2⟩
  have hx2 := hx1.kept hb2
  have hB2 := hB1.trans (hb2.mono hB1.size)
  obtain ⟨a0, f0, a1, f1, bR⟩ := hx2.store2 (.int .u64 tv) (.string ⟨#[]⟩)
  have hB3 := below_store2 hB2 (B := w.heap.size) (Nat.le_refl _) (.int .u64 tv) (.string ⟨#[]⟩)
  clear hx1 hb2 hB1 hx2 hB2
  go_wp2
  have y0 := bR.cell 0 (by simp)
  have y1 := bR.cell 1 (by simp)
  dsimp only [List.getElem_cons_zero, List.getElem_cons_succ] at y0 y1
  refine bodyPost_ret (v := .tuple #[encV V, .string R, .int .i64 E]) ?_ rfl ⟨rfl, hB3⟩
  rw [results_ctt rfl, HF.out]
  simp [asAddr, Result.andThen, go_sem, y0, y1, encV]

set_option maxRecDepth 100000 in
set_option maxHeartbeats 1000000 in
theorem takeOne_113 (s : ByteArray) (w : World) (hw : Wid w) :
    Calls Tryz.prog 41 #[.int .u8 113, .string s] w fun e w' => e = .returned (.tuple #[encV (oV 113 s), .string (oR 113 s), .int .i64 (oE 113 s)]) ∧ Below w.heap.size w w' := by
  have hb0 : Below w.heap.size w (w.alloc (.cells #[.int .u64 0, .string ⟨#[]⟩] 48)) := (Below.refl _ w).alloc (Nat.le_refl _) _
  have hx := Bx.new w 48 [.int .u64 0, .string ⟨#[]⟩]
  have hT := take_any s 8 _ (hw.below hb0)
  have HF : Hid (oV 113 s = ⟨takeV s 8, ⟨#[]⟩⟩) := Lib.hid rfl
  have H2 : oR 113 s = takeR s 8 := rfl
  have H3 : oE 113 s = takeE s 8 := rfl
  rw [H2, H3]
  clear H2 H3
  generalize takeV s 8 = tv at hT HF
  generalize takeR s 8 = R at hT ⊢
  generalize takeE s 8 = E at hT ⊢
  generalize oV 113 s = V at HF ⊢
  go_enter Tryz.func41, Tryz.ntmps41
  go_wp2_with fail
  refine hT.mono ?_
  rintro e w1 ⟨rfl, hb1⟩
  have hx1 := hx.kept hb1
  have hB1 := hb0.trans (hb1.mono hb0.size)
  clear hT hx hb1 hb0
  go_wp2_with fail
  refine (ofNumber_any _ _ _ w1).mono ?_
  rintro e w2 ⟨rfl, hb2⟩
  have hx2 := hx1.kept hb2
  have hB2 := hB1.trans (hb2.mono hB1.size)
  obtain ⟨a0, f0, a1, f1, bR⟩ := hx2.store2 (.int .u64 tv) (.string ⟨#[]⟩)
  have hB3 := below_store2 hB2 (B := w.heap.size) (Nat.le_refl _) (.int .u64 tv) (.string ⟨#[]⟩)
  clear hx1 hb2 hB1 hx2 hB2
  go_wp2
  have y0 := bR.cell 0 (by simp)
  have y1 := bR.cell 1 (by simp)
  dsimp only [List.getElem_cons_zero, List.getElem_cons_succ] at y0 y1
  refine bodyPost_ret (v := .tuple #[encV V, .string R, .int .i64 E]) ?_ rfl ⟨rfl, hB3⟩
  rw [results_ctt rfl, HF.out]
  simp [asAddr, Result.andThen, go_sem, y0, y1, encV]

set_option maxRecDepth 100000 in
set_option maxHeartbeats 1000000 in
theorem takeOne_83 (s : ByteArray) (w : World) (hw : Wid w) (hs : s.size < 4611686018427387904) :
    Calls Tryz.prog 41 #[.int .u8 83, .string s] w fun e w' => e = .returned (.tuple #[encV (oV 83 s), .string (oR 83 s), .int .i64 (oE 83 s)]) ∧ Below w.heap.size w w' := by
  have hb0 : Below w.heap.size w (w.alloc (.cells #[.int .u64 0, .string ⟨#[]⟩] 48)) := (Below.refl _ w).alloc (Nat.le_refl _) _
  have hx := Bx.new w 48 [.int .u64 0, .string ⟨#[]⟩]
  have hT := takeShort_any s _ (hw.below hb0) hs
  have HF : Hid (oV 83 s = ⟨0, ttA 1 s⟩) := Lib.hid rfl
  have H2 : oR 83 s = ttR 1 s := rfl
  have H3 : oE 83 s = ttE 1 s := rfl
  rw [H2, H3]
  clear H2 H3
  generalize ttA 1 s = tv at hT HF
  generalize ttR 1 s = R at hT ⊢
  generalize ttE 1 s = E at hT ⊢
  generalize oV 83 s = V at HF ⊢
  go_enter Tryz.func41, Tryz.ntmps41
  go_wp2_with fail
  refine hT.mono ?_
  rintro e w1 ⟨rfl, hb1⟩
  have hx1 := hx.kept hb1
  have hB1 := hb0.trans (hb1.mono hb0.size)
  clear hT hx hb1 hb0
  go_wp2_with fail
  refine (ofText_any _ _ _ w1).mono ?_
  rintro e w2 ⟨rfl, hb2⟩
  have hx2 := hx1.kept hb2
  have hB2 := hB1.trans (hb2.mono hB1.size)
  obtain ⟨a0, f0, a1, f1, bR⟩ := hx2.store2 (.int .u64 0) (.string tv)
  have hB3 := below_store2 hB2 (B := w.heap.size) (Nat.le_refl _) (.int .u64 0) (.string tv)
  clear hx1 hb2 hB1 hx2 hB2
  go_wp2
  have y0 := bR.cell 0 (by simp)
  have y1 := bR.cell 1 (by simp)
  dsimp only [List.getElem_cons_zero, List.getElem_cons_succ] at y0 y1
  refine bodyPost_ret (v := .tuple #[encV V, .string R, .int .i64 E]) ?_ rfl ⟨rfl, hB3⟩
  rw [results_ctt rfl, HF.out]
  simp [asAddr, Result.andThen, go_sem, y0, y1, encV]

set_option maxRecDepth 100000 in
set_option maxHeartbeats 1000000 in
theorem takeOne_76 (s : ByteArray) (w : World) (hw : Wid w) (hs : s.size < 4611686018427387904) :
    Calls Tryz.prog 41 #[.int .u8 76, .string s] w fun e w' => e = .returned (.tuple #[encV (oV 76 s), .string (oR 76 s), .int .i64 (oE 76 s)]) ∧ Below w.heap.size w w' := by
  have hb0 : Below w.heap.size w (w.alloc (.cells #[.int .u64 0, .string ⟨#[]⟩] 48)) := (Below.refl _ w).alloc (Nat.le_refl _) _
  have hx := Bx.new w 48 [.int .u64 0, .string ⟨#[]⟩]
  have hT := mtakeLong_any s _ (hw.below hb0) hs
  have HF : Hid (oV 76 s = ⟨0, (oV 76 s).s⟩) := Lib.hid rfl
  generalize (oV 76 s).s = tv at hT HF
  generalize oR 76 s = R at hT ⊢
  generalize oE 76 s = E at hT ⊢
  generalize oV 76 s = V at HF ⊢
  go_enter Tryz.func41, Tryz.ntmps41
  go_wp2_with fail
  refine hT.mono ?_
  rintro e w1 ⟨rfl, hb1⟩
  have hx1 := hx.kept hb1
  have hB1 := hb0.trans (hb1.mono hb0.size)
  clear hT hx hb1 hb0
  go_wp2_with fail
  refine (ofText_any _ _ _ w1).mono ?_
  rintro e w2 ⟨rfl, hb2⟩
  have hx2 := hx1.kept hb2
  have hB2 := hB1.trans (hb2.mono hB1.size)
  obtain ⟨a0, f0, a1, f1, bR⟩ := hx2.store2 (.int .u64 0) (.string tv)
  have hB3 := below_store2 hB2 (B := w.heap.size) (Nat.le_refl _) (.int .u64 0) (.string tv)
  clear hx1 hb2 hB1 hx2 hB2
  go_wp2
  have y0 := bR.cell 0 (by simp)
  have y1 := bR.cell 1 (by simp)
  dsimp only [List.getElem_cons_zero, List.getElem_cons_succ] at y0 y1
  refine bodyPost_ret (v := .tuple #[encV V, .string R, .int .i64 E]) ?_ rfl ⟨rfl, hB3⟩
  rw [results_ctt rfl, HF.out]
  simp [asAddr, Result.andThen, go_sem, y0, y1, encV]

set_option maxRecDepth 100000 in
set_option maxHeartbeats 1000000 in
theorem takeOne_84 (s : ByteArray) (w : World) (hw : Wid w) (hs : s.size < 4611686018427387904) :
    Calls Tryz.prog 41 #[.int .u8 84, .string s] w fun e w' => e = .returned (.tuple #[encV (oV 84 s), .string (oR 84 s), .int .i64 (oE 84 s)]) ∧ Below w.heap.size w w' := by
  have hb0 : Below w.heap.size w (w.alloc (.cells #[.int .u64 0, .string ⟨#[]⟩] 48)) := (Below.refl _ w).alloc (Nat.le_refl _) _
  have hx := Bx.new w 48 [.int .u64 0, .string ⟨#[]⟩]
  have hT := tabTake_any s _ (hw.below hb0) hs
  have HF : Hid (oV 84 s = ⟨0, takenA s (nest true s 32)⟩) := Lib.hid rfl
  have H2 : oR 84 s = takenB (nest true s 32) := rfl
  have H3 : oE 84 s = (nest true s 32).err := rfl
  rw [H2, H3]
  clear H2 H3
  generalize takenA s (nest true s 32) = tv at hT HF
  generalize takenB (nest true s 32) = R at hT ⊢
  generalize (nest true s 32).err = E at hT ⊢
  generalize oV 84 s = V at HF ⊢
  go_enter Tryz.func41, Tryz.ntmps41
  go_wp2_with fail
  refine hT.mono ?_
  rintro e w1 ⟨rfl, hb1⟩
  have hx1 := hx.kept hb1
  have hB1 := hb0.trans (hb1.mono hb0.size)
  clear hT hx hb1 hb0
  go_wp2_with fail
  refine (ofText_any _ _ _ w1).mono ?_
  rintro e w2 ⟨rfl, hb2⟩
  have hx2 := hx1.kept hb2
  have hB2 := hB1.trans (hb2.mono hB1.size)
  obtain ⟨a0, f0, a1, f1, bR⟩ := hx2.store2 (.int .u64 0) (.string tv)
  have hB3 := below_store2 hB2 (B := w.heap.size) (Nat.le_refl _) (.int .u64 0) (.string tv)
  clear hx1 hb2 hB1 hx2 hB2
  go_wp2
  have y0 := bR.cell 0 (by simp)
  have y1 := bR.cell 1 (by simp)
  dsimp only [List.getElem_cons_zero, List.getElem_cons_succ] at y0 y1
  refine bodyPost_ret (v := .tuple #[encV V, .string R, .int .i64 E]) ?_ rfl ⟨rfl, hB3⟩
  rw [results_ctt rfl, HF.out]
  simp [asAddr, Result.andThen, go_sem, y0, y1, encV]

theorem takeOne_any (c : UInt8) (hc : isLet c = true) (h98 : ¬ c = 98) (s : ByteArray) (w : World) (hw : Wid w) (hs : s.size < 4611686018427387904) :
    Calls Tryz.prog 41 #[.int .u8 (c.toNat : Nat), .string s] w fun e w' => e = .returned (.tuple #[encV (oV c s), .string (oR c s), .int .i64 (oE c s)]) ∧ Below w.heap.size w w' := by
  rcases let_cases hc with rfl | rfl | rfl | rfl | rfl | rfl | rfl | rfl
  · exact absurd rfl h98
  · exact takeOne_76 s w hw hs
  · exact takeOne_83 s w hw hs
  · exact takeOne_84 s w hw hs
  · exact takeOne_108 s w hw
  · exact takeOne_111 s w hw
  · exact takeOne_113 s w hw
  · exact takeOne_115 s w hw
end Go.Proofs.YtaclpijcfgniiaaGreatDoor
