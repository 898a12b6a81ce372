/-
  Rows of values with one put between them, or in one's place, cell by cell. No condition.
-/
import Derived.Test.YtjpldfkhacchdaaDoorMCopy2
namespace Go.Proofs.YtjpldfkhacchdaaDoor

theorem spl_split (Z X1 : List Value) (k : Nat) (h1 : Z.take k = X1) : Z = X1 ++ Z.drop k := by rw [← h1, List.take_append_drop]
theorem spl_at (X1 R Y : List Value) : splice (X1 ++ R) X1.length Y = X1 ++ (Y ++ R.drop Y.length) := by
  unfold splice
  rw [List.take_left, List.drop_append]
  have e : X1.length + Y.length - X1.length = Y.length := by omega
  rw [e, List.drop_eq_nil_of_le (show X1.length ≤ X1.length + Y.length by omega), List.nil_append]
theorem spA {Z X1 Y X2 : List Value} {k : Nat} (h1 : Z.take k = X1) (hk : X1.length = k) :
    (splice (splice Z k Y) (k + Y.length) X2).take (k + Y.length + X2.length) = X1 ++ (Y ++ X2) := by
  generalize hR : Z.drop k = R
  have e : Z = X1 ++ R := by rw [← hR]; exact spl_split Z X1 k h1
  subst e
  subst hk
  rw [spl_at X1 R Y, ← List.append_assoc, ← List.length_append, spl_at (X1 ++ Y) (R.drop Y.length) X2, ← List.append_assoc, ← List.length_append, List.take_left, List.append_assoc]
theorem spB {Z X1 Y X2 : List Value} {k : Nat} (h1 : Z.take k = X1) (hk : X1.length = k) (hZ : k + Y.length + X2.length ≤ Z.length) :
    (splice (splice Z (k + Y.length) X2) k Y).take (k + Y.length + X2.length) = X1 ++ (Y ++ X2) := by
  have hl : (Z.drop k).length = Z.length - k := List.length_drop ..
  generalize hR : Z.drop k = R at hl
  have e : Z = X1 ++ R := by rw [← hR]; exact spl_split Z X1 k h1
  subst e
  subst hk
  have e2 : X1 ++ R = (X1 ++ R.take Y.length) ++ R.drop Y.length := by rw [List.append_assoc, List.take_append_drop]
  have e3 : X1.length + Y.length = (X1 ++ R.take Y.length).length := by rw [List.length_append, List.length_take]; omega
  have s1 : splice (X1 ++ R) (X1.length + Y.length) X2 = (X1 ++ R.take Y.length) ++ (X2 ++ (R.drop Y.length).drop X2.length) := by
    rw [e3]
    conv => lhs; rw [e2]
    exact spl_at (X1 ++ R.take Y.length) (R.drop Y.length) X2
  rw [s1, List.append_assoc, spl_at X1 _ Y]
  have e4 : (R.take Y.length ++ (X2 ++ (R.drop Y.length).drop X2.length)).drop Y.length = X2 ++ (R.drop Y.length).drop X2.length := by
    have h := List.drop_left (l₁ := R.take Y.length) (l₂ := X2 ++ (R.drop Y.length).drop X2.length)
    rw [List.length_take, Nat.min_eq_left (by omega)] at h
    exact h
  rw [e4, ← List.append_assoc, ← List.append_assoc, List.append_assoc X1 Y X2]
  have e5 : X1.length + Y.length + X2.length = (X1 ++ (Y ++ X2)).length := by simp; omega
  rw [e5, List.take_left]
theorem rowV_take (l : List MV) : ∀ i, (rowV l).take (i * 2) = rowV (l.take i) := by
  induction l with
  | nil => intro i; simp [rowV]
  | cons x l ih =>
    intro i
    cases i with
    | zero => simp [rowV]
    | succ i =>
      have e : (i + 1) * 2 = i * 2 + 1 + 1 := by omega
      rw [List.take_succ_cons, e]
      show (cellsV x ++ rowV l).take _ = cellsV x ++ rowV (l.take i)
      rw [← ih i]
      rfl
theorem rowV_drop (l : List MV) : ∀ i, (rowV l).drop (i * 2) = rowV (l.drop i) := by
  induction l with
  | nil => intro i; simp [rowV]
  | cons x l ih =>
    intro i
    cases i with
    | zero => simp [rowV]
    | succ i =>
      have e : (i + 1) * 2 = i * 2 + 1 + 1 := by omega
      rw [List.drop_succ_cons, e]
      show (cellsV x ++ rowV l).drop _ = _
      rw [← ih i]
      rfl
def insV (l : List MV) (i : Nat) (u : MV) : List MV := l.take i ++ u :: l.drop i
theorem insV_length (l : List MV) (i : Nat) (u : MV) : (insV l i u).length = l.length + 1 := by
  simp [insV]; omega
theorem rowV_ins (l : List MV) (i : Nat) (u : MV) : rowV (insV l i u) = rowV (l.take i) ++ (cellsV u ++ rowV (l.drop i)) := by
  rw [insV, rowV_append]; rfl
end Go.Proofs.YtjpldfkhacchdaaDoor
