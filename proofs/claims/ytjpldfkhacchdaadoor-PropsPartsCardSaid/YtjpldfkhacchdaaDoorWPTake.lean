/-
  props.ofNumber, ofText and take answer as the plain functions say; nothing that was there is changed. Conditions: the package num's table of widths holds 1, 2, 4, 8; texts of fewer than 2^62 bytes.
-/
import Derived.Laws.ResultCell
import Derived.Test.YtjpldfkhacchdaaDoorJMem
import Derived.Test.YtjpldfkhacchdaaDoorPProp
namespace Go.Proofs.YtjpldfkhacchdaaDoor
open Go.RowKit

theorem Bx.store2 {W : World} {B : Nat} {t : TypeId} {a b : Value} (h : Bx W B t [a, b]) (a' b' : Value) :
    W.cell? ⟨B, 0, none⟩ = some a ∧ W.frozen? ⟨B, 0, none⟩ = false ∧
    (W.setCell ⟨B, 0, none⟩ a').cell? ⟨B, 1, none⟩ = some b ∧ (W.setCell ⟨B, 0, none⟩ a').frozen? ⟨B, 1, none⟩ = false ∧
    Bx ((W.setCell ⟨B, 0, none⟩ a').setCell ⟨B, 1, none⟩ b') B t [a', b'] :=
  ⟨h.cell 0 (by simp), h.frozen 0, (h.set 0 a').cell 1 (by simp), (h.set 0 a').frozen 1, (h.set 0 a').set 1 b'⟩
theorem below_store2 {n B : Nat} {w W : World} (h : Below n w W) (hn : n ≤ B) (a b : Value) : Below n w ((W.setCell ⟨B, 0, none⟩ a).setCell ⟨B, 1, none⟩ b) :=
  (h.setCell (p := ⟨B, 0, none⟩) hn a).setCell (p := ⟨B, 1, none⟩) hn b

theorem ofNumber_any (n : Int) (r : ByteArray) (x : Int) (w : World) :
    Calls Tryd.prog 67 #[.int .u64 n, .string r, .int .i64 x] w fun e w' => e = .returned (.tuple #[.agg #[.int .u64 n, .string ⟨#[]⟩], .string r, .int .i64 x]) ∧ Below w.heap.size w w' := by
  go_enter Tryd.func67, Tryd.ntmps67
  go_wp2
  refine bodyPost_ret (v := .tuple #[.agg #[.int .u64 n, .string ⟨#[]⟩], .string r, .int .i64 x]) ?_ rfl ⟨rfl, (Below.refl _ w).alloc (Nat.le_refl _) _⟩
  rw [results_ctt rfl]
  simp [asAddr, Result.andThen, go_sem]

theorem ofText_any (t r : ByteArray) (x : Int) (w : World) :
    Calls Tryd.prog 68 #[.string t, .string r, .int .i64 x] w fun e w' => e = .returned (.tuple #[.agg #[.int .u64 0, .string t], .string r, .int .i64 x]) ∧ Below w.heap.size w w' := by
  go_enter Tryd.func68, Tryd.ntmps68
  go_wp2
  refine bodyPost_ret (v := .tuple #[.agg #[.int .u64 0, .string t], .string r, .int .i64 x]) ?_ rfl ⟨rfl, (Below.refl _ w).alloc (Nat.le_refl _) _⟩
  rw [results_ctt rfl]
  simp [asAddr, Result.andThen, go_sem]

set_option maxRecDepth 100000 in
set_option maxHeartbeats 1000000 in
theorem ptake_111 (s : ByteArray) (w : World) (hw : Wid w) :
    Calls Tryd.prog 55 #[.int .u8 111, .string s] w fun e w' => e = .returned (.tuple #[encV (oV 111 s), .string (oR 111 s), .int .i64 (oE 111 s)]) ∧ Below w.heap.size w w' := by
  have hb0 : Below w.heap.size w (w.alloc (.cells #[.int .u64 0, .string ⟨#[]⟩] 40)) := (Below.refl _ w).alloc (Nat.le_refl _) _
  have hx := Bx.new w 40 [.int .u64 0, .string ⟨#[]⟩]
  have hT := take_any s 1 _ (hw.below hb0)
  have HF : Hid (oV 111 s = ⟨takeV s 1, ⟨#[]⟩⟩) := Lib.hid rfl
  have H2 : oR 111 s = takeR s 1 := rfl
  have H3 : oE 111 s = takeE s 1 := rfl
  rw [H2, H3]
  clear H2 H3
  generalize takeV s 1 = tv at hT HF
  generalize takeR s 1 = R at hT ⊢
  generalize takeE s 1 = E at hT ⊢
  generalize oV 111 s = V at HF ⊢
  go_enter Tryd.func55, Tryd.ntmps55
  go_wp2_with fail
  refine hT.mono ?_
  rintro e w1 ⟨rfl, hb1⟩
  have hx1 := hx.kept hb1
  have hB1 := hb0.trans (hb1.mono hb0.size)
  clear hT hx hb1 hb0
  go_wp2_with fail
  refine (ofNumber_any _ _ _ w1).mono ?_
  rintro e w2 ⟨rfl, hb2⟩
  have hx2 := hx1.kept hb2
  have hB2 := hB1.trans (hb2.mono hB1.size)
  obtain ⟨a0, f0, a1, f1, bR⟩ := hx2.store2 (.int .u64 tv) (.string ⟨#[]⟩)
  have hB3 := below_store2 hB2 (B := w.heap.size) (Nat.le_refl _) (.int .u64 tv) (.string ⟨#[]⟩)
  clear hx1 hb2 hB1 hx2 hB2
  go_wp2
  have y0 := bR.cell 0 (by simp)
  have y1 := bR.cell 1 (by simp)
  dsimp only [List.getElem_cons_zero, List.getElem_cons_succ] at y0 y1
  refine bodyPost_ret (v := .tuple #[encV V, .string R, .int .i64 E]) ?_ rfl ⟨rfl, hB3⟩
  rw [results_ctt rfl, HF.out]
  simp [asAddr, Result.andThen, go_sem, y0, y1, encV]

set_option maxRecDepth 100000 in
set_option maxHeartbeats 1000000 in
theorem ptake_113 (s : ByteArray) (w : World) (hw : Wid w) :
    Calls Tryd.prog 55 #[.int .u8 113, .string s] w fun e w' => e = .returned (.tuple #[encV (oV 113 s), .string (oR 113 s), .int .i64 (oE 113 s)]) ∧ Below w.heap.size w w' := by
  have hb0 : Below w.heap.size w (w.alloc (.cells #[.int .u64 0, .string ⟨#[]⟩] 40)) := (Below.refl _ w).alloc (Nat.le_refl _) _
  have hx := Bx.new w 40 [.int .u64 0, .string ⟨#[]⟩]
  have hT := take_any s 8 _ (hw.below hb0)
  have HF : Hid (oV 113 s = ⟨takeV s 8, ⟨#[]⟩⟩) := Lib.hid rfl
  have H2 : oR 113 s = takeR s 8 := rfl
  have H3 : oE 113 s = takeE s 8 := rfl
  rw [H2, H3]
  clear H2 H3
  generalize takeV s 8 = tv at hT HF
  generalize takeR s 8 = R at hT ⊢
  generalize takeE s 8 = E at hT ⊢
  generalize oV 113 s = V at HF ⊢
  go_enter Tryd.func55, Tryd.ntmps55
  go_wp2_with fail
  refine hT.mono ?_
  rintro e w1 ⟨rfl, hb1⟩
  have hx1 := hx.kept hb1
  have hB1 := hb0.trans (hb1.mono hb0.size)
  clear hT hx hb1 hb0
  go_wp2_with fail
  refine (ofNumber_any _ _ _ w1).mono ?_
  rintro e w2 ⟨rfl, hb2⟩
  have hx2 := hx1.kept hb2
  have hB2 := hB1.trans (hb2.mono hB1.size)
  obtain ⟨a0, f0, a1, f1, bR⟩ := hx2.store2 (.int .u64 tv) (.string ⟨#[]⟩)
  have hB3 := below_store2 hB2 (B := w.heap.size) (Nat.le_refl _) (.int .u64 tv) (.string ⟨#[]⟩)
  clear hx1 hb2 hB1 hx2 hB2
  go_wp2
  have y0 := bR.cell 0 (by simp)
  have y1 := bR.cell 1 (by simp)
  dsimp only [List.getElem_cons_zero, List.getElem_cons_succ] at y0 y1
  refine bodyPost_ret (v := .tuple #[encV V, .string R, .int .i64 E]) ?_ rfl ⟨rfl, hB3⟩
  rw [results_ctt rfl, HF.out]
  simp [asAddr, Result.andThen, go_sem, y0, y1, encV]

set_option maxRecDepth 100000 in
set_option maxHeartbeats 1000000 in
theorem ptake_83 (s : ByteArray) (w : World) (hw : Wid w) (hs : s.size < 4611686018427387904) :
    Calls Tryd.prog 55 #[.int .u8 83, .string s] w fun e w' => e = .returned (.tuple #[encV (oV 83 s), .string (oR 83 s), .int .i64 (oE 83 s)]) ∧ Below w.heap.size w w' := by
  have hb0 : Below w.heap.size w (w.alloc (.cells #[.int .u64 0, .string ⟨#[]⟩] 40)) := (Below.refl _ w).alloc (Nat.le_refl _) _
  have hx := Bx.new w 40 [.int .u64 0, .string ⟨#[]⟩]
  have hT := takeShort_any s _ (hw.below hb0) hs
  have HF : Hid (oV 83 s = ⟨0, ttA 1 s⟩) := Lib.hid rfl
  have H2 : oR 83 s = ttR 1 s := rfl
  have H3 : oE 83 s = ttE 1 s := rfl
  rw [H2, H3]
  clear H2 H3
  generalize ttA 1 s = tv at hT HF
  generalize ttR 1 s = R at hT ⊢
  generalize ttE 1 s = E at hT ⊢
  generalize oV 83 s = V at HF ⊢
  go_enter Tryd.func55, Tryd.ntmps55
  go_wp2_with fail
  refine hT.mono ?_
  rintro e w1 ⟨rfl, hb1⟩
  have hx1 := hx.kept hb1
  have hB1 := hb0.trans (hb1.mono hb0.size)
  clear hT hx hb1 hb0
  go_wp2_with fail
  refine (ofText_any _ _ _ w1).mono ?_
  rintro e w2 ⟨rfl, hb2⟩
  have hx2 := hx1.kept hb2
  have hB2 := hB1.trans (hb2.mono hB1.size)
  obtain ⟨a0, f0, a1, f1, bR⟩ := hx2.store2 (.int .u64 0) (.string tv)
  have hB3 := below_store2 hB2 (B := w.heap.size) (Nat.le_refl _) (.int .u64 0) (.string tv)
  clear hx1 hb2 hB1 hx2 hB2
  go_wp2
  have y0 := bR.cell 0 (by simp)
  have y1 := bR.cell 1 (by simp)
  dsimp only [List.getElem_cons_zero, List.getElem_cons_succ] at y0 y1
  refine bodyPost_ret (v := .tuple #[encV V, .string R, .int .i64 E]) ?_ rfl ⟨rfl, hB3⟩
  rw [results_ctt rfl, HF.out]
  simp [asAddr, Result.andThen, go_sem, y0, y1, encV]

set_option maxRecDepth 100000 in
set_option maxHeartbeats 1000000 in
theorem ptake_84 (s : ByteArray) (w : World) (hw : Wid w) (hs : s.size < 4611686018427387904) :
    Calls Tryd.prog 55 #[.int .u8 84, .string s] w fun e w' => e = .returned (.tuple #[encV (oV 84 s), .string (oR 84 s), .int .i64 (oE 84 s)]) ∧ Below w.heap.size w w' := by
  have hb0 : Below w.heap.size w (w.alloc (.cells #[.int .u64 0, .string ⟨#[]⟩] 40)) := (Below.refl _ w).alloc (Nat.le_refl _) _
  have hx := Bx.new w 40 [.int .u64 0, .string ⟨#[]⟩]
  have hT := tabTake_any s _ (hw.below hb0) hs
  have HF : Hid (oV 84 s = ⟨0, takenA s (nest true s 32)⟩) := Lib.hid rfl
  have H2 : oR 84 s = takenB (nest true s 32) := rfl
  have H3 : oE 84 s = (nest true s 32).err := rfl
  rw [H2, H3]
  clear H2 H3
  generalize takenA s (nest true s 32) = tv at hT HF
  generalize takenB (nest true s 32) = R at hT ⊢
  generalize (nest true s 32).err = E at hT ⊢
  generalize oV 84 s = V at HF ⊢
  go_enter Tryd.func55, Tryd.ntmps55
  go_wp2_with fail
  refine hT.mono ?_
  rintro e w1 ⟨rfl, hb1⟩
  have hx1 := hx.kept hb1
  have hB1 := hb0.trans (hb1.mono hb0.size)
  clear hT hx hb1 hb0
  go_wp2_with fail
  refine (ofText_any _ _ _ w1).mono ?_
  rintro e w2 ⟨rfl, hb2⟩
  have hx2 := hx1.kept hb2
  have hB2 := hB1.trans (hb2.mono hB1.size)
  obtain ⟨a0, f0, a1, f1, bR⟩ := hx2.store2 (.int .u64 0) (.string tv)
  have hB3 := below_store2 hB2 (B := w.heap.size) (Nat.le_refl _) (.int .u64 0) (.string tv)
  clear hx1 hb2 hB1 hx2 hB2
  go_wp2
  have y0 := bR.cell 0 (by simp)
  have y1 := bR.cell 1 (by simp)
  dsimp only [List.getElem_cons_zero, List.getElem_cons_succ] at y0 y1
  refine bodyPost_ret (v := .tuple #[encV V, .string R, .int .i64 E]) ?_ rfl ⟨rfl, hB3⟩
  rw [results_ctt rfl, HF.out]
  simp [asAddr, Result.andThen, go_sem, y0, y1, encV]


theorem ptake_any (i : Fin 14) (s : ByteArray) (w : World) (hw : Wid w) (hs : s.size < 4611686018427387904) :
    Calls Tryd.prog 55 #[.int .u8 ((pLet i).toNat : Int), .string s] w fun e w' => e = .returned (.tuple #[encV (oV (pLet i) s), .string (oR (pLet i) s), .int .i64 (oE (pLet i) s)]) ∧ Below w.heap.size w w' := by
  rcases pLet_cases i with h | h | h | h <;> rw [h]
  · exact ptake_83 s w hw hs
  · exact ptake_84 s w hw hs
  · exact ptake_111 s w hw
  · exact ptake_113 s w hw
end Go.Proofs.YtjpldfkhacchdaaDoor
