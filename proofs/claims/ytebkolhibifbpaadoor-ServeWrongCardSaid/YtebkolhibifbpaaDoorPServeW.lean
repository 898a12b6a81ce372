/-
  What serve.Take, as a plain function, answers ahead of running and while it runs. No condition.
-/
import Derived.Test.YtebkolhibifbpaaDoorPServe
namespace Go.Proofs.YtebkolhibifbpaaDoor
open Go.RowKit

def WrKind (h : Hd) (m : Me) (r : Tn) : Prop :=
  (¬ m.c = 10 ∧ r.e = 8 ∧ r.k = h ∧ r.s = none) ∨ (m.c = 10 ∧ m.i = 50 ∧ r.e = 0 ∧ r.k.st = 6 ∧ r.s = some ⟨10, 51, []⟩) ∨ (m.c = 10 ∧ ¬ m.i = 50 ∧ h.st = 4 ∧ r.e = 8 ∧ r.k = h) ∨ (m.c = 10 ∧ ¬ m.i = 50 ∧ ¬ h.st = 4 ∧ r.e = 0 ∧ r.k.st = h.st + 1) ∨ (m.c = 10 ∧ ¬ m.i = 50 ∧ ¬ h.st = 4 ∧ ¬ r.e = 0 ∧ r.k = h)
theorem wr_run (h : Hd) (m : Me) : WrKind h m (hRun h m) := by
  unfold hRun WrKind isM
  by_cases h1 : m.c = 10
  · by_cases h2 : m.i = 50
    · rw [if_pos (by simp [h1, h2])]
      exact .inr (.inl ⟨h1, h2, rfl, rfl, rfl⟩)
    · rw [if_neg (by simp [h2])]
      by_cases h3 : h.st = 4
      · exact .inr (.inr (.inl ⟨h1, h2, h3, rfl, rfl⟩))
      · exact .inr (.inr (.inr (.inr ⟨h1, h2, h3, (show ¬ (8 : Int) = 0 by decide), rfl⟩)))
  · rw [if_neg (by simp [h1])]
    exact .inl ⟨h1, rfl, rfl, rfl⟩
theorem wr_refuse (h : Hd) (m : Me) {e id : Int} (he : ¬ e = 0) (hi : ¬ id = 50) (hm : isM m id = true) (h4 : ¬ h.st = 4) : WrKind h m (hRefuse h e) := by
  simp only [isM, Bool.and_eq_true, beq_iff_eq] at hm
  exact .inr (.inr (.inr (.inr ⟨hm.1, by rw [hm.2]; exact hi, h4, he, rfl⟩)))
theorem wr_on (h : Hd) (m : Me) {id : Int} (r : Tn) (hi : ¬ id = 50) (hm : isM m id = true) (h4 : ¬ h.st = 4) (he : r.e = 0) (hs : r.k.st = h.st + 1) : WrKind h m r := by
  simp only [isM, Bool.and_eq_true, beq_iff_eq] at hm
  exact .inr (.inr (.inr (.inl ⟨hm.1, by rw [hm.2]; exact hi, h4, he, hs⟩)))
theorem take_wrong (h : Hd) (m : Me) : h.st < 1 ∨ 4 < h.st ∨ (hTake h m).e = 7 ∨ ((1 ≤ h.st ∧ h.st ≤ 4) ∧ ¬ (hTake h m).e = 7 ∧ WrKind h m (hTake h m)) := by
  by_cases hl : h.st < 1
  · exact .inl hl
  by_cases hh : 4 < h.st
  · exact .inr (.inl hh)
  by_cases h7 : (hTake h m).e = 7
  · exact .inr (.inr (.inl h7))
  refine .inr (.inr (.inr ⟨⟨by omega, by omega⟩, h7, ?_⟩))
  revert h7
  unfold hTake
  split
  · rw [if_neg (by omega)]
    by_cases h1 : h.st = 1
    · rw [if_pos h1]; unfold hStart
      split
      · rename_i hq
        split
        · split
          · intro _; exact wr_on h m (id := 11) _ (by decide) hq (by omega) rfl (by rw [h1]; rfl)
          · intro h7; exact absurd rfl h7
        · intro _; exact wr_refuse h m (id := 11) (by decide) (by decide) hq (by omega)
      · intro _; exact wr_run h m
    rw [if_neg h1]
    by_cases h2 : h.st = 2
    · rw [if_pos h2]; unfold hTune
      split
      · rename_i hq
        split
        · intro _; exact wr_on h m (id := 31) _ (by decide) hq (by omega) rfl (by rw [h2]; rfl)
        · intro _; exact wr_refuse h m (id := 31) (by decide) (by decide) hq (by omega)
      · intro _; exact wr_run h m
    rw [if_neg h2]
    by_cases h3 : h.st = 3
    · rw [if_pos h3]; unfold hOpen
      split
      · rename_i hq
        intro _; exact wr_on h m (id := 40) _ (by decide) hq (by omega) rfl (by rw [h3]; rfl)
      · intro _; exact wr_run h m
    rw [if_neg h3, if_pos (by omega)]
    intro _; exact wr_run h m
  · intro h7; exact absurd rfl h7
end Go.Proofs.YtebkolhibifbpaaDoor
