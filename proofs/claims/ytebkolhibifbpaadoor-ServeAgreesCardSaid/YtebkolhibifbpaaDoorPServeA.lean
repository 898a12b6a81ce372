/-
  What serve.Take, as a plain function, answers to a tune-ok. No condition.
-/
import Derived.Test.YtebkolhibifbpaaDoorWServe7
import Derived.Test.YtebkolhibifbpaaDoorWServe8
namespace Go.Proofs.YtebkolhibifbpaaDoor
open Go.RowKit

theorem tune_right {c f b : Int} (hc : 0 ≤ c ∧ c ≤ 65535) (hf : 0 ≤ f ∧ f ≤ 2147483648) (hb : 0 ≤ b ∧ b ≤ 65535) : mE ⟨10, 31, [⟨c, ⟨#[]⟩⟩, ⟨f, ⟨#[]⟩⟩, ⟨b, ⟨#[]⟩⟩]⟩ = 0 := by
  refine mE_mk (by kernel_rfl) (by kernel_rfl) ?_
  have e : mLs ⟨10, 31, [⟨c, ⟨#[]⟩⟩, ⟨f, ⟨#[]⟩⟩, ⟨b, ⟨#[]⟩⟩]⟩ = [115, 108, 115] := tune_letters
  rw [e]
  have p2 : ∀ x : Int, 0 ≤ x → x ≤ 65535 → putOk 2 x = true := fun x h1 h2 => put2_ok ⟨h1, by omega⟩
  have p4 : ∀ x : Int, 0 ≤ x → x ≤ 2147483648 → putOk 4 x = true := fun x h1 h2 => by
    have e : (256 : Int) ^ (4 : Int).toNat = 4294967296 := by decide
    simp only [putOk, e, Bool.and_eq_true, decide_eq_true_eq]
    exact ⟨rfl, by omega⟩
  have v2 : ∀ x : Int, 0 ≤ x → x ≤ 65535 → vE 115 ⟨x, ⟨#[]⟩⟩ = 0 := fun x h1 h2 => by
    have h := p2 x h1 h2
    simp [vE, numE, wid4, h]
    rfl
  have v4 : ∀ x : Int, 0 ≤ x → x ≤ 2147483648 → vE 108 ⟨x, ⟨#[]⟩⟩ = 0 := fun x h1 h2 => by
    have h := p4 x h1 h2
    simp [vE, numE, wid4, h]
    rfl
  exact layEr_mk (v2 c hc.1 hc.2) (layEr_mk (v4 f hf.1 hf.2) (layEr_mk (v2 b hb.1 hb.2) rfl))
theorem agrees_no {h : Hd} {c f b : Int} (hst : h.st = 2) (hE : mE ⟨10, 31, [⟨c, ⟨#[]⟩⟩, ⟨f, ⟨#[]⟩⟩, ⟨b, ⟨#[]⟩⟩]⟩ = 0) (ho : agOk h c f = false) : hTake h ⟨10, 31, [⟨c, ⟨#[]⟩⟩, ⟨f, ⟨#[]⟩⟩, ⟨b, ⟨#[]⟩⟩]⟩ = hRefuse h 14 := by
  unfold hTake
  rw [if_pos hE, if_neg (by omega), if_neg (by omega), if_pos hst]
  unfold hTune
  rw [if_pos (show isM ⟨10, 31, [⟨c, ⟨#[]⟩⟩, ⟨f, ⟨#[]⟩⟩, ⟨b, ⟨#[]⟩⟩]⟩ 31 = true from rfl)]
  exact if_neg (show ¬ agOk h c f = true by rw [ho]; decide)
theorem agrees_yes {h : Hd} {c f b : Int} (hst : h.st = 2) (hR : tRight h.ch h.fr h.bt = true) (hc : 0 ≤ c ∧ c ≤ 65535) (hf : 0 ≤ f ∧ f ≤ 2147483648) (hb : 0 ≤ b ∧ b ≤ 65535) (hE : mE ⟨10, 31, [⟨c, ⟨#[]⟩⟩, ⟨f, ⟨#[]⟩⟩, ⟨b, ⟨#[]⟩⟩]⟩ = 0) (ho : agOk h c f = true) :
    ∃ x y, hTake h ⟨10, 31, [⟨c, ⟨#[]⟩⟩, ⟨f, ⟨#[]⟩⟩, ⟨b, ⟨#[]⟩⟩]⟩ = ⟨⟨3, x, y, agB h b, h.us, h.wo, h.ho⟩, none, 0⟩ ∧ tRight x y (agB h b) = true ∧ x ≤ h.ch ∧ (c = 0 ∨ x = c) ∧ y ≤ h.fr ∧ (f = 0 ∨ y = f) ∧ agB h b ≤ b ∧ agB h b ≤ h.bt ∧ (agB h b = b ∨ agB h b = h.bt) := by
  refine ⟨agV c h.ch, agV f h.fr, ?_, ?_⟩
  · unfold hTake
    rw [if_pos hE, if_neg (by omega), if_neg (by omega), if_pos hst]
    unfold hTune
    rw [if_pos (show isM ⟨10, 31, [⟨c, ⟨#[]⟩⟩, ⟨f, ⟨#[]⟩⟩, ⟨b, ⟨#[]⟩⟩]⟩ 31 = true from rfl)]
    exact if_pos (show agOk h c f = true from ho)
  · rw [tRight_iff] at hR ⊢
    simp only [agOk, Bool.and_eq_true, Bool.not_eq_true', Bool.and_eq_false_iff, decide_eq_false_iff_not] at ho
    have h1 : agV c h.ch = (if c = 0 then h.ch else c) := rfl
    have h2 : agV f h.fr = (if f = 0 then h.fr else f) := rfl
    have h3 : agB h b = (if b ≠ 0 ∧ h.bt ≠ 0 then min b h.bt else 0) := rfl
    rw [h1, h2, h3]
    refine ⟨⟨?_, ?_, ?_⟩, ?_, ?_, ?_, ?_, ?_, ?_, ?_⟩
    all_goals (repeat' split)
    all_goals omega
end Go.Proofs.YtebkolhibifbpaaDoor
