/-
  What serve.Take, as a plain function, says is right, where a connection is never goes back, and where it refuses all is as it was. Conditions: the tune may be; the method's values are numbers and texts of fewer than 2^47 bytes.
-/
import Derived.Test.YtebkolhibifbpaaGreatDoorRSRights
namespace Go.Proofs.YtebkolhibifbpaaGreatDoor
open Go.RowKit

def RsOk (h : Hd) (r : Tn) : Prop := saidOk r.s = true ∧ saidWf r.s ∧ h.st ≤ r.k.st ∧ (¬ r.e = 0 → r.k = h ∧ r.s = none) ∧ tRight r.k.ch r.k.fr r.k.bt = true
theorem rs_refuse {h : Hd} (hR : tRight h.ch h.fr h.bt = true) (e : Int) : RsOk h (hRefuse h e) := ⟨rfl, trivial, Int.le_refl _, fun _ => ⟨rfl, rfl⟩, hR⟩
theorem rs_silent {h k : Hd} {n : Int} (hR : tRight k.ch k.fr k.bt = true) (hn : h.st ≤ n) : RsOk h (hSilent k n) := ⟨rfl, trivial, hn, fun he => absurd rfl he, hR⟩
theorem rs_say {h k : Hd} {n id : Int} {l : List MV} (hR : tRight k.ch k.fr k.bt = true) (hn : h.st ≤ n) (hM : mE ⟨10, id, l⟩ = 0) (hW : wfM ⟨10, id, l⟩) : RsOk h (hSay k n id l) :=
  ⟨by show (mE ⟨10, id, l⟩ == 0) = true; rw [hM]; rfl, hW, hn, fun he => absurd rfl he, hR⟩
theorem close_ok : mE ⟨10, 51, []⟩ = 0 := by kernel_rfl
theorem close_wf : wfM ⟨10, 51, []⟩ := fun v hv => by cases hv
theorem open_ok : mE ⟨10, 41, [noV]⟩ = 0 := by kernel_rfl
theorem open_wf : wfM ⟨10, 41, [noV]⟩ := fun v hv => by
  simp only [List.mem_cons, List.not_mem_nil, or_false] at hv
  subst hv
  exact ⟨by decide, by decide, by decide⟩
theorem num_id {n : Int} (h : 0 ≤ n ∧ n < 4294967296) : numV n = ⟨n, ⟨#[]⟩⟩ := by
  have e : IntKind.u64.wrap n = n := by simp [IntKind.wrap, IntKind.signed, IntKind.bits]; omega
  rw [numV, e]
theorem told_letters : mLs ⟨10, 30, []⟩ = [115, 108, 115] := by kernel_rfl
theorem told_right {c f b : Int} (hc : 0 ≤ c ∧ c ≤ 65535) (hf : 0 ≤ f ∧ f ≤ 131072) (hb : 0 ≤ b ∧ b ≤ 65535) : mE ⟨10, 30, [⟨c, ⟨#[]⟩⟩, ⟨f, ⟨#[]⟩⟩, ⟨b, ⟨#[]⟩⟩]⟩ = 0 := by
  refine mE_mk (by kernel_rfl) (by kernel_rfl) ?_
  have e : mLs ⟨10, 30, [⟨c, ⟨#[]⟩⟩, ⟨f, ⟨#[]⟩⟩, ⟨b, ⟨#[]⟩⟩]⟩ = [115, 108, 115] := told_letters
  rw [e]
  have p4 : ∀ x : Int, 0 ≤ x → x ≤ 131072 → putOk 4 x = true := fun x h1 h2 => by
    have e : (256 : Int) ^ (4 : Int).toNat = 4294967296 := by decide
    simp only [putOk, e, Bool.and_eq_true, decide_eq_true_eq]
    exact ⟨rfl, by omega⟩
  have v2 : ∀ x : Int, 0 ≤ x → x ≤ 65535 → vE 115 ⟨x, ⟨#[]⟩⟩ = 0 := fun x h1 h2 => by
    have h := put2_ok (x := x) ⟨h1, by omega⟩
    simp [vE, numE, wid4, h]
    rfl
  have v4 : ∀ x : Int, 0 ≤ x → x ≤ 131072 → vE 108 ⟨x, ⟨#[]⟩⟩ = 0 := fun x h1 h2 => by
    have h := p4 x h1 h2
    simp [vE, numE, wid4, h]
    rfl
  exact layEr_mk (v2 c hc.1 hc.2) (layEr_mk (v4 f hf.1 hf.2) (layEr_mk (v2 b hb.1 hb.2) rfl))
theorem rs_run {h : Hd} (m : Me) (hR : tRight h.ch h.fr h.bt = true) (hn : h.st ≤ 6) : RsOk h (hRun h m) := by
  unfold hRun
  split
  · exact rs_say hR hn close_ok close_wf
  · exact rs_refuse hR 8
theorem take_rises (h : Hd) (m : Me) (hR : tRight h.ch h.fr h.bt = true) (hm : wfM m) : RsOk h (hTake h m) := by
  unfold hTake
  split
  · by_cases h0 : h.st = 0
    · rw [if_pos h0]; exact rs_refuse hR 8
    rw [if_neg h0]
    by_cases h1 : h.st = 1
    · rw [if_pos h1]; unfold hStart
      split
      · split
        · split
          · obtain ⟨g1, g2, g3⟩ := (tRight_iff _ _ _).1 hR
            refine rs_say (k := { h with us := pairA (argV m.l 2).s, wo := pairB (argV m.l 2).s }) hR (by rw [h1]; decide) ?_ ?_
            · try dsimp only
              rw [num_id ⟨by omega, by omega⟩, num_id ⟨by omega, by omega⟩, num_id ⟨by omega, by omega⟩]
              exact told_right ⟨by omega, by omega⟩ ⟨by omega, by omega⟩ g3
            · try dsimp only
              rw [num_id ⟨by omega, by omega⟩, num_id ⟨by omega, by omega⟩, num_id ⟨by omega, by omega⟩]
              intro v hv
              simp only [List.mem_cons, List.not_mem_nil, or_false] at hv
              rcases hv with rfl | rfl | rfl <;> exact ⟨by dsimp only; omega, by dsimp only; omega, (show (0 : Nat) < 140737488355328 by decide)⟩
          · exact rs_refuse hR 7
        · exact rs_refuse hR 14
      · exact rs_run m hR (by omega)
    rw [if_neg h1]
    by_cases h2 : h.st = 2
    · rw [if_pos h2]; unfold hTune
      split
      · split
        · rename_i ho
          refine rs_silent ?_ (by rw [h2]; decide)
          have n0 := (argV_wf hm 0).1
          have n1 := (argV_wf hm 1).1
          have n2 := (argV_wf hm 2).1
          rw [tRight_iff] at hR ⊢
          simp only [agOk, Bool.and_eq_true, Bool.not_eq_true', Bool.and_eq_false_iff, decide_eq_false_iff_not] at ho
          have e1 : agV (argV m.l 0).n h.ch = (if (argV m.l 0).n = 0 then h.ch else (argV m.l 0).n) := rfl
          have e2 : agV (argV m.l 1).n h.fr = (if (argV m.l 1).n = 0 then h.fr else (argV m.l 1).n) := rfl
          have e3 : agB h (argV m.l 2).n = (if (argV m.l 2).n ≠ 0 ∧ h.bt ≠ 0 then min (argV m.l 2).n h.bt else 0) := rfl
          dsimp only
          rw [e1, e2, e3]
          refine ⟨?_, ?_, ?_⟩
          all_goals (repeat' split)
          all_goals omega
        · exact rs_refuse hR 14
      · exact rs_run m hR (by omega)
    rw [if_neg h2]
    by_cases h3 : h.st = 3
    · rw [if_pos h3]; unfold hOpen
      split
      · exact rs_say (k := { h with ho := (argV m.l 0).s }) hR (by rw [h3]; decide) open_ok open_wf
      · exact rs_run m hR (by omega)
    rw [if_neg h3]
    by_cases h4 : h.st = 4
    · rw [if_pos h4]; exact rs_run m hR (by omega)
    rw [if_neg h4]
    by_cases h5 : h.st = 5
    · rw [if_pos h5]; unfold hClosing
      split
      · exact rs_say hR (by omega) close_ok close_wf
      · split
        · exact rs_silent hR (by omega)
        · exact rs_silent hR (by omega)
    rw [if_neg h5]
    by_cases h6 : h.st = 6
    · rw [if_pos h6]; exact rs_silent hR (by omega)
    rw [if_neg h6]; exact rs_refuse hR 8
  · exact rs_refuse hR 7
end Go.Proofs.YtebkolhibifbpaaGreatDoor
