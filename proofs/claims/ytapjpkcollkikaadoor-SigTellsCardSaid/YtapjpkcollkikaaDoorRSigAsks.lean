/-
  The document's own test of what has replies; it leaves the world as it was. No condition.
-/
import Derived.Test.YtapjpkcollkikaaDoorWReps
namespace Go.Proofs.YtapjpkcollkikaaDoor
open Go.RowKit

/-- what has replies, as the document's own answer tells it -/
def rAsk (c i : Int) : Bool :=
  if c = 10 then i == 10 || i == 20 || i == 30 || i == 40 || i == 50 else
  if c = 20 then i == 10 || i == 20 || i == 40 else
  if c = 40 then i == 10 || i == 20 else
  if c = 50 then i == 10 || i == 20 || i == 30 || i == 40 || i == 50 else
  if c = 60 then i == 10 || i == 20 || i == 30 || i == 70 || i == 110 else
  if c = 85 then i == 10 else c == 90 && (i == 10 || i == 20 || i == 30)
theorem rask_there {c i : Int} (h : rAsk c i = true) : sIs c i = true := by
  unfold rAsk at h
  split at h
  · rename_i hc; subst hc
    simp only [Bool.or_eq_true, beq_iff_eq] at h
    rcases h with (((rfl | rfl) | rfl) | rfl) | rfl <;> kernel_rfl
  split at h
  · rename_i hc; subst hc
    simp only [Bool.or_eq_true, beq_iff_eq] at h
    rcases h with (rfl | rfl) | rfl <;> kernel_rfl
  split at h
  · rename_i hc; subst hc
    simp only [Bool.or_eq_true, beq_iff_eq] at h
    rcases h with rfl | rfl <;> kernel_rfl
  split at h
  · rename_i hc; subst hc
    simp only [Bool.or_eq_true, beq_iff_eq] at h
    rcases h with (((rfl | rfl) | rfl) | rfl) | rfl <;> kernel_rfl
  split at h
  · rename_i hc; subst hc
    simp only [Bool.or_eq_true, beq_iff_eq] at h
    rcases h with (((rfl | rfl) | rfl) | rfl) | rfl <;> kernel_rfl
  split at h
  · rename_i hc; subst hc
    simp only [beq_iff_eq] at h
    subst h
    kernel_rfl
  · simp only [Bool.and_eq_true, Bool.or_eq_true, beq_iff_eq] at h
    obtain ⟨rfl, (rfl | rfl) | rfl⟩ := h <;> kernel_rfl
theorem rask_mets : ∀ m ∈ mets, rAsk m.c m.i = decide (0 < m.r) ∧ (m.r = 0 ∨ m.r = 1 ∨ (m.r = 2 ∧ m.c = 60 ∧ m.i = 70)) ∧ (m.c = 60 ∧ m.i = 70 → m.r = 2) :=
  mets_all (q := fun m => decide (rAsk m.c m.i = decide (0 < m.r) ∧ (m.r = 0 ∨ m.r = 1 ∨ (m.r = 2 ∧ m.c = 60 ∧ m.i = 70)) ∧ (m.c = 60 ∧ m.i = 70 → m.r = 2))) (fun m h => of_decide_eq_true h) (by kernel_rfl)
theorem rask_is (c i : Int) : rAsk c i = decide (0 < sNum c i) := by
  rcases look_cases c i with ⟨h, h1, h2, -⟩ | ⟨h, h2⟩
  · have := (rask_mets _ h).1
    rw [h1, h2] at this
    exact this
  · rw [sNum, h]
    cases hr : rAsk c i
    · rfl
    · exact absurd ((rask_there hr).symm.trans h2) (by decide)

set_option maxRecDepth 100000 in
set_option maxHeartbeats 4000000 in
theorem rask_any (c i : Int) (w : World) :
    Calls Tryd.prog 21 #[.int .i64 c, .int .i64 i] w fun e w' => e = .returned (.bool (rAsk c i)) ∧ w = w' := by
  go_enter Tryd.func21, Tryd.ntmps21
  go_wp2
  all_goals (go_ret; refine ⟨?_, rfl⟩; simp_all [rAsk])
end Go.Proofs.YtapjpkcollkikaaDoor
