/-
  Values and rows of values that are the same. No condition.
-/
import Derived.Laws.StructEq
import Derived.Test.YtaclpijcfgniiaaGreatDoorJMV
namespace Go.Proofs.YtaclpijcfgniiaaGreatDoor
open Go.RowKit

def sameV (x y : MV) : Bool := x.n == y.n && x.s.toList == y.s.toList
def sameL : List MV → List MV → Bool
  | x :: l, y :: m => sameV x y && sameL l m
  | [], [] => true
  | _, _ => false
theorem sameV_iff (x y : MV) : sameV x y = true ↔ x = y := by
  obtain ⟨n, s⟩ := x
  obtain ⟨n', s'⟩ := y
  simp only [sameV, Bool.and_eq_true, beq_iff_eq, MV.mk.injEq]
  constructor
  · rintro ⟨h1, h2⟩
    exact ⟨h1, ba_ext (by rw [ByteArray.toList_eq, ByteArray.toList_eq] at h2; exact h2)⟩
  · rintro ⟨rfl, rfl⟩; exact ⟨rfl, rfl⟩
theorem sameL_iff : ∀ l m : List MV, sameL l m = true ↔ l = m
  | [], [] => by simp [sameL]
  | [], _ :: _ => by simp [sameL]
  | _ :: _, [] => by simp [sameL]
  | x :: l, y :: m => by
    rw [sameL, Bool.and_eq_true, sameV_iff, sameL_iff l m]
    simp
theorem sameL_len {l m : List MV} (h : l.length ≠ m.length) : sameL l m = false := by
  cases hs : sameL l m
  · rfl
  · rw [sameL_iff] at hs; rw [hs] at h; exact absurd rfl h
theorem sameL_drop {l m : List MV} (k : Nat) (hl : k < l.length) (hm : k < m.length) : sameL (l.drop k) (m.drop k) = (sameV l[k] m[k] && sameL (l.drop (k + 1)) (m.drop (k + 1))) := by
  rw [List.drop_eq_getElem_cons hl, List.drop_eq_getElem_cons hm, sameL]
theorem eqV (a b : MV) (w : World) : (Op.equalIn 10000 48 (.agg #[.int .u64 a.n, .string a.s]) (.agg #[.int .u64 b.n, .string b.s])).run Tryz.prog w = .ok (sameV a b) w := by
  have u9 := Tryz.underlying9
  have a9 := Tryz.isAgg9
  have z9 := Tryz.sizeOf9
  have u25 := Tryz.underlying45
  have a25 := Tryz.isAgg45
  have z25 := Tryz.sizeOf45
  have u27 := Tryz.underlying48
  rw [show (10000 : Nat) = 9999 + 1 from rfl, run_equalIn_struct w 9999 48 _ _ (by kernel_rfl) (by kernel_rfl)]
  unfold sameV
  go_simp
  by_cases h1 : a.n = b.n <;> by_cases h2 : a.s.toList = b.s.toList <;> simp [h1, h2]

end Go.Proofs.YtaclpijcfgniiaaGreatDoor
