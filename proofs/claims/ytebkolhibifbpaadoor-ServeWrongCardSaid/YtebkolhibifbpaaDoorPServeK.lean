/-
  What serve.Take, as a plain function, may change. No condition.
-/
import Derived.Test.YtebkolhibifbpaaDoorPServe
namespace Go.Proofs.YtebkolhibifbpaaDoor
open Go.RowKit

def TnKind (h : Hd) (r : Tn) : Prop :=
  (¬ r.e = 0 ∧ r.k = h ∧ r.s = none) ∨ (r.e = 0 ∧ ∃ n, r.k = ⟨n, h.ch, h.fr, h.bt, h.us, h.wo, h.ho⟩) ∨ (r.e = 0 ∧ h.st = 1 ∧ ∃ n u p, r.k = ⟨n, h.ch, h.fr, h.bt, u, p, h.ho⟩) ∨ (r.e = 0 ∧ h.st = 2 ∧ ∃ n a b c, r.k = ⟨n, a, b, c, h.us, h.wo, h.ho⟩) ∨ (r.e = 0 ∧ h.st = 3 ∧ ∃ n x, r.k = ⟨n, h.ch, h.fr, h.bt, h.us, h.wo, x⟩)
theorem kind_refuse (h : Hd) {e : Int} (he : ¬ e = 0) : TnKind h (hRefuse h e) := .inl ⟨he, rfl, rfl⟩
theorem kind_silent (h : Hd) (n : Int) : TnKind h (hSilent h n) := .inr (.inl ⟨rfl, n, rfl⟩)
theorem kind_say (h : Hd) (n id : Int) (l : List MV) : TnKind h (hSay h n id l) := .inr (.inl ⟨rfl, n, rfl⟩)
theorem kind_run (h : Hd) (m : Me) : TnKind h (hRun h m) := by
  unfold hRun
  split
  · exact kind_say h _ _ _
  · exact kind_refuse h (by decide)
theorem take_kind (h : Hd) (m : Me) : TnKind h (hTake h m) := by
  unfold hTake
  split
  · by_cases h0 : h.st = 0
    · rw [if_pos h0]; exact kind_refuse h (by decide)
    rw [if_neg h0]
    by_cases h1 : h.st = 1
    · rw [if_pos h1]; unfold hStart
      split
      · split
        · split
          · exact .inr (.inr (.inl ⟨rfl, h1, _, _, _, rfl⟩))
          · exact kind_refuse h (by decide)
        · exact kind_refuse h (by decide)
      · exact kind_run h m
    rw [if_neg h1]
    by_cases h2 : h.st = 2
    · rw [if_pos h2]; unfold hTune
      split
      · split
        · exact .inr (.inr (.inr (.inl ⟨rfl, h2, _, _, _, _, rfl⟩)))
        · exact kind_refuse h (by decide)
      · exact kind_run h m
    rw [if_neg h2]
    by_cases h3 : h.st = 3
    · rw [if_pos h3]; unfold hOpen
      split
      · exact .inr (.inr (.inr (.inr ⟨rfl, h3, _, _, rfl⟩)))
      · exact kind_run h m
    rw [if_neg h3]
    by_cases h4 : h.st = 4
    · rw [if_pos h4]; exact kind_run h m
    rw [if_neg h4]
    by_cases h5 : h.st = 5
    · rw [if_pos h5]; unfold hClosing
      split
      · exact kind_say h _ _ _
      · split
        · exact kind_silent h _
        · exact kind_silent h _
    rw [if_neg h5]
    by_cases h6 : h.st = 6
    · rw [if_pos h6]; exact kind_silent h _
    rw [if_neg h6]; exact kind_refuse h (by decide)
  · exact kind_refuse h (by decide)
end Go.Proofs.YtebkolhibifbpaaDoor
