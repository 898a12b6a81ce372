/-
  What is due, in order: what is taken is not later, what is left is; how many each are. No condition.
-/
import Derived.Test.YtlbmkokdoigcnaaWBeatT
namespace Go.Proofs.Ytlbmkokdoigcnaa

theorem rest_all (now : Int) : ∀ {m : List DP}, Sorted m → ∀ x ∈ restF (laterF now) m, now < x.a
  | [], _, x, hx => by simp [restF] at hx
  | y :: t, h, x, hx => by
    have h1 := List.pairwise_cons.1 h
    unfold restF at hx
    rw [List.dropWhile_cons] at hx
    cases hy : laterF now y
    · rw [hy] at hx
      exact rest_all now h1.2 x hx
    · rw [hy] at hx
      simp only [Bool.not_true, Bool.false_eq_true, if_false] at hx
      have hya : now < y.a := by simpa [laterF] using hy
      rcases List.mem_cons.1 hx with rfl | hx
      · exact hya
      · have := h1.1 x hx
        rw [ltD_not] at this
        omega
theorem off_all (p : DP → Bool) : ∀ {m : List DP}, ∀ x ∈ offF p m, p x = false
  | [], x, hx => by simp [offF] at hx
  | y :: t, x, hx => by
    unfold offF at hx
    rw [List.takeWhile_cons] at hx
    cases hy : p y
    · rw [hy] at hx
      simp only [Bool.not_false, if_true] at hx
      rcases List.mem_cons.1 hx with rfl | hx
      · exact hy
      · exact off_all p x hx
    · rw [hy] at hx
      simp at hx
theorem off_rest (p : DP → Bool) (m : List DP) : offF p m ++ restF p m = m := List.takeWhile_append_dropWhile
/-- how many of the first k are not later -/
def countTo (now : Int) (l : List DP) (k : Nat) : Nat := (l.take k).countP fun d => !laterF now d
theorem countTo_zero (now : Int) (l : List DP) : countTo now l 0 = 0 := by simp [countTo]
theorem countTo_succ (now : Int) {l : List DP} {k : Nat} (h : k < l.length) : countTo now l (k + 1) = countTo now l k + (if (atD l k).a ≤ now then 1 else 0) := by
  rw [countTo, take_snoc h, List.countP_append, countTo]
  congr 1
  by_cases hx : (atD l k).a ≤ now
  · rw [if_pos hx]
    simp [laterF]
    omega
  · rw [if_neg hx]
    simp [laterF]
    omega
theorem countTo_le (now : Int) (l : List DP) (k : Nat) : countTo now l k ≤ l.length := by
  rw [countTo]
  refine Nat.le_trans List.countP_le_length ?_
  rw [List.length_take]
  omega
theorem count_off (now : Int) (l : List DP) : countTo now l l.length = (offF (laterF now) (srt l)).length := by
  rw [countTo, List.take_length, ← (srt_self l).countP_eq]
  conv => lhs; rw [← off_rest (laterF now) (srt l)]
  rw [List.countP_append]
  have h1 : (offF (laterF now) (srt l)).countP (fun d => !laterF now d) = (offF (laterF now) (srt l)).length := by
    rw [List.countP_eq_length]
    intro x hx
    simp [off_all _ x hx]
  have h2 : (restF (laterF now) (srt l)).countP (fun d => !laterF now d) = 0 := by
    rw [List.countP_eq_zero]
    intro x hx
    have := rest_all now (srt_sorted l) x hx
    simp [laterF, this]
  rw [h1, h2, Nat.add_zero]
theorem rest_len (now : Int) (l : List DP) : (offF (laterF now) (srt l)).length + (restF (laterF now) (srt l)).length = l.length := by
  rw [← List.length_append, off_rest, srt_length]
theorem rest_sorted (now : Int) (l : List DP) : Sorted (restF (laterF now) (srt l)) := List.Pairwise.sublist (List.dropWhile_sublist _) (srt_sorted l)
/-- neighbours in a row in order -/
theorem sorted_at {m : List DP} (h : Sorted m) {p k : Nat} (hp : p + 1 = k) (hk : k < m.length) : ltD (atD m k) (atD m p) = false := by
  have h1 := List.pairwise_iff_getElem.1 h p k (by omega) hk (by omega)
  rw [atD_lt hk, atD_lt (by omega)]
  exact h1
end Go.Proofs.Ytlbmkokdoigcnaa
