/-
  What follows of the table of methods: of replies, and what they answer. No condition.
-/
import Derived.Test.YtapjpkcollkikaaWReps
namespace Go.Proofs.Ytapjpkcollkikaa
open Go.RowKit

/-- the sides of a method and of its reply -/
def Other (s t : Int) : Prop := (s = 1 ∧ t = 2) ∨ (s = 2 ∧ t = 1) ∨ (s = 3 ∧ t = 3)
instance (s t : Int) : Decidable (Other s t) := by unfold Other; infer_instance
def RepOk (m : Met) : Prop := ∀ k, k < m.r.toNat → sAsks m.c (m.i + 1 + (k : Int)) = m.i ∧ sReps m.c (m.i + 1 + (k : Int)) = [] ∧ sSide m.c m.i ≠ 0 ∧ (m.i + 1 + (k : Int)) ∈ sReps m.c m.i ∧ Other m.s (sSide m.c (m.i + 1 + (k : Int)))
instance (m : Met) : Decidable (RepOk m) := by unfold RepOk; infer_instance
theorem reps_ok : ∀ m ∈ mets, RepOk m :=
  mets_all (q := fun m => decide (RepOk m)) (fun m h => of_decide_eq_true h) (by kernel_rfl)
/-- a reply of a method that is there -/
theorem reps_at {c i y : Int} (h : y ∈ sReps c i) : sAsks c y = i ∧ sReps c y = [] ∧ Other (sSide c i) (sSide c y) := by
  rcases look_cases c i with ⟨g, h1, h2, -⟩ | ⟨g, -⟩
  · simp only [sReps, List.mem_map, List.mem_range] at h
    obtain ⟨k, hk, rfl⟩ := h
    have := reps_ok _ g k hk
    rw [h1, h2] at this
    exact ⟨this.1, this.2.1, this.2.2.2.2⟩
  · rw [sReps, sNum, g] at h
    exact absurd h (by simp [noMet])
/-- what a reply answers -/
theorem asks_at {c i : Int} (h : sAsks c i ≠ 0) : sReps c i = [] ∧ sSide c (sAsks c i) ≠ 0 ∧ i ∈ sReps c (sAsks c i) := by
  cases hf : mets.find? (isBy c i) with
  | some m =>
    obtain ⟨h1, h2, h3⟩ := fst_mem hf
    simp only [isBy, List.any_eq_true, List.mem_range, hitBy, Bool.and_eq_true, beq_iff_eq] at h3
    obtain ⟨k, hk, rfl, rfl⟩ := h3
    have := reps_ok m h2 k hk
    rw [this.1]
    exact ⟨this.2.1, this.2.2.1, this.2.2.2.1⟩
  | none =>
    obtain ⟨h1, -⟩ := fst_none hf
    exact absurd (show sAsks c i = 0 by rw [sAsks, h1]; rfl) h
theorem reps_len (c i : Int) : (sReps c i).length ≤ 1000 := by
  rw [sReps, List.length_map, List.length_range, sNum]
  rcases look_cases c i with ⟨g, -⟩ | ⟨g, -⟩
  · have := (mets_small _ g).2.2.2
    omega
  · rw [g]; decide
end Go.Proofs.Ytapjpkcollkikaa
