/-
  Pieces of a text, as a plain function: each of n bytes but the last one. Together they are the whole. No condition.
-/
import Derived.Test.YtnaplfekhjjknaaDoorPText
namespace Go.Proofs.YtnaplfekhjjknaaDoor

/-- s in pieces of n bytes, n at least 1 (for n = 0: none) -/
def cutL (n : Nat) (s : ByteArray) : List ByteArray :=
  if _h : 0 < s.size ∧ 0 < n then s.extract 0 (min n s.size) :: cutL n (s.extract (min n s.size) s.size) else []
termination_by s.size
decreasing_by rw [ByteArray.size_extract]; omega

theorem cutL_nil (n : Nat) {s : ByteArray} (h : s.size = 0) : cutL n s = [] := by
  rw [cutL, dif_neg (by omega)]
theorem cutL_cons {n : Nat} {s : ByteArray} (h : 0 < s.size) (hn : 0 < n) : cutL n s = s.extract 0 (min n s.size) :: cutL n (s.extract (min n s.size) s.size) := by
  rw [cutL, dif_pos ⟨h, hn⟩]
theorem cutL_len {n : Nat} (hn : 0 < n) : ∀ (k : Nat) (s : ByteArray), s.size = k → (cutL n s).length ≤ k := by
  intro k
  induction k using Nat.strongRecOn with
  | ind k ih =>
    intro s hs
    rcases Nat.eq_zero_or_pos s.size with h | h
    · rw [cutL_nil n h]; simp
    · rw [cutL_cons h hn, List.length_cons]
      have h1 : (s.extract (min n s.size) s.size).size = s.size - min n s.size := by rw [ByteArray.size_extract]; omega
      have := ih _ (by rw [← hs]; omega) (s.extract (min n s.size) s.size) h1
      omega
theorem cutL_le {n : Nat} (hn : 0 < n) (s : ByteArray) : (cutL n s).length ≤ s.size := cutL_len hn s.size s rfl
end Go.Proofs.YtnaplfekhjjknaaDoor
