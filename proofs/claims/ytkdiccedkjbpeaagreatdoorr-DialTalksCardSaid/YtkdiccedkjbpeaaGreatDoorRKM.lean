/-
  Several texts joined in one file: each says at its own head, below, what it proves, and its conditions.
-/
import Derived.Test.YtkdiccedkjbpeaaGreatDoorRKC
import Derived.Test.YtkdiccedkjbpeaaGreatDoorRKD
import Derived.Test.YtkdiccedkjbpeaaGreatDoorRKE
/-
  What serve.Take, as a plain function, says is right, where a connection is never goes back, and where it refuses all is as it was. Conditions: the tune may be; the method's values are numbers and texts of fewer than 2^47 bytes.
-/
namespace Go.Proofs.YtkdiccedkjbpeaaGreatDoorR
open Go.RowKit

def RsOk (h : Hd) (r : Tn) : Prop := saidOk r.s = true ∧ saidWf r.s ∧ h.st ≤ r.k.st ∧ (¬ r.e = 0 → r.k = h ∧ r.s = none) ∧ tRight r.k.ch r.k.fr r.k.bt = true
theorem rs_refuse {h : Hd} (hR : tRight h.ch h.fr h.bt = true) (e : Int) : RsOk h (hRefuse h e) := ⟨rfl, trivial, Int.le_refl _, fun _ => ⟨rfl, rfl⟩, hR⟩
theorem rs_silent {h k : Hd} {n : Int} (hR : tRight k.ch k.fr k.bt = true) (hn : h.st ≤ n) : RsOk h (hSilent k n) := ⟨rfl, trivial, hn, fun he => absurd rfl he, hR⟩
theorem rs_say {h k : Hd} {n id : Int} {l : List MV} (hR : tRight k.ch k.fr k.bt = true) (hn : h.st ≤ n) (hM : mE ⟨10, id, l⟩ = 0) (hW : wfM ⟨10, id, l⟩) : RsOk h (hSay k n id l) :=
  ⟨by show (mE ⟨10, id, l⟩ == 0) = true; rw [hM]; rfl, hW, hn, fun he => absurd rfl he, hR⟩
theorem close_ok : mE ⟨10, 51, []⟩ = 0 := by kernel_rfl
theorem close_wf : wfM ⟨10, 51, []⟩ := fun v hv => by cases hv
theorem open_ok : mE ⟨10, 41, [noV]⟩ = 0 := by kernel_rfl
theorem open_wf : wfM ⟨10, 41, [noV]⟩ := fun v hv => by
  simp only [List.mem_cons, List.not_mem_nil, or_false] at hv
  subst hv
  exact ⟨by decide, by decide, by decide⟩
theorem num_id {n : Int} (h : 0 ≤ n ∧ n < 4294967296) : numV n = ⟨n, ⟨#[]⟩⟩ := by
  have e : IntKind.u64.wrap n = n := by simp [IntKind.wrap, IntKind.signed, IntKind.bits]; omega
  rw [numV, e]
theorem told_letters : mLs ⟨10, 30, []⟩ = [115, 108, 115] := by kernel_rfl
theorem told_right {c f b : Int} (hc : 0 ≤ c ∧ c ≤ 65535) (hf : 0 ≤ f ∧ f ≤ 131072) (hb : 0 ≤ b ∧ b ≤ 65535) : mE ⟨10, 30, [⟨c, ⟨#[]⟩⟩, ⟨f, ⟨#[]⟩⟩, ⟨b, ⟨#[]⟩⟩]⟩ = 0 := by
  refine mE_mk (by kernel_rfl) (by kernel_rfl) ?_
  have e : mLs ⟨10, 30, [⟨c, ⟨#[]⟩⟩, ⟨f, ⟨#[]⟩⟩, ⟨b, ⟨#[]⟩⟩]⟩ = [115, 108, 115] := told_letters
  rw [e]
  have p4 : ∀ x : Int, 0 ≤ x → x ≤ 131072 → putOk 4 x = true := fun x h1 h2 => by
    have e : (256 : Int) ^ (4 : Int).toNat = 4294967296 := by decide
    simp only [putOk, e, Bool.and_eq_true, decide_eq_true_eq]
    exact ⟨rfl, by omega⟩
  have v2 : ∀ x : Int, 0 ≤ x → x ≤ 65535 → vE 115 ⟨x, ⟨#[]⟩⟩ = 0 := fun x h1 h2 => by
    have h := put2_ok (x := x) ⟨h1, by omega⟩
    simp [vE, numE, wid4, h]
    rfl
  have v4 : ∀ x : Int, 0 ≤ x → x ≤ 131072 → vE 108 ⟨x, ⟨#[]⟩⟩ = 0 := fun x h1 h2 => by
    have h := p4 x h1 h2
    simp [vE, numE, wid4, h]
    rfl
  exact layEr_mk (v2 c hc.1 hc.2) (layEr_mk (v4 f hf.1 hf.2) (layEr_mk (v2 b hb.1 hb.2) rfl))
theorem rs_run {h : Hd} (m : Me) (hR : tRight h.ch h.fr h.bt = true) (hn : h.st ≤ 6) : RsOk h (hRun h m) := by
  unfold hRun
  split
  · exact rs_say hR hn close_ok close_wf
  · exact rs_refuse hR 8
theorem take_rises (h : Hd) (m : Me) (hR : tRight h.ch h.fr h.bt = true) (hm : wfM m) : RsOk h (hTake h m) := by
  unfold hTake
  split
  · by_cases h0 : h.st = 0
    · rw [if_pos h0]; exact rs_refuse hR 8
    rw [if_neg h0]
    by_cases h1 : h.st = 1
    · rw [if_pos h1]; unfold hStart
      split
      · split
        · split
          · obtain ⟨g1, g2, g3⟩ := (tRight_iff _ _ _).1 hR
            refine rs_say (k := { h with us := pairA (argV m.l 2).s, wo := pairB (argV m.l 2).s }) hR (by rw [h1]; decide) ?_ ?_
            · try dsimp only
              rw [num_id ⟨by omega, by omega⟩, num_id ⟨by omega, by omega⟩, num_id ⟨by omega, by omega⟩]
              exact told_right ⟨by omega, by omega⟩ ⟨by omega, by omega⟩ g3
            · try dsimp only
              rw [num_id ⟨by omega, by omega⟩, num_id ⟨by omega, by omega⟩, num_id ⟨by omega, by omega⟩]
              intro v hv
              simp only [List.mem_cons, List.not_mem_nil, or_false] at hv
              rcases hv with rfl | rfl | rfl <;> exact ⟨by dsimp only; omega, by dsimp only; omega, (show (0 : Nat) < 140737488355328 by decide)⟩
          · exact rs_refuse hR 7
        · exact rs_refuse hR 14
      · exact rs_run m hR (by omega)
    rw [if_neg h1]
    by_cases h2 : h.st = 2
    · rw [if_pos h2]; unfold hTune
      split
      · split
        · rename_i ho
          refine rs_silent ?_ (by rw [h2]; decide)
          have n0 := (argV_wf hm 0).1
          have n1 := (argV_wf hm 1).1
          have n2 := (argV_wf hm 2).1
          rw [tRight_iff] at hR ⊢
          simp only [agOk, Bool.and_eq_true, Bool.not_eq_true', Bool.and_eq_false_iff, decide_eq_false_iff_not] at ho
          have e1 : agV (argV m.l 0).n h.ch = (if (argV m.l 0).n = 0 then h.ch else (argV m.l 0).n) := rfl
          have e2 : agV (argV m.l 1).n h.fr = (if (argV m.l 1).n = 0 then h.fr else (argV m.l 1).n) := rfl
          have e3 : agB h (argV m.l 2).n = (if (argV m.l 2).n ≠ 0 ∧ h.bt ≠ 0 then min (argV m.l 2).n h.bt else 0) := rfl
          dsimp only
          rw [e1, e2, e3]
          refine ⟨?_, ?_, ?_⟩
          all_goals (repeat' split)
          all_goals omega
        · exact rs_refuse hR 14
      · exact rs_run m hR (by omega)
    rw [if_neg h2]
    by_cases h3 : h.st = 3
    · rw [if_pos h3]; unfold hOpen
      split
      · exact rs_say (k := { h with ho := (argV m.l 0).s }) hR (by rw [h3]; decide) open_ok open_wf
      · exact rs_run m hR (by omega)
    rw [if_neg h3]
    by_cases h4 : h.st = 4
    · rw [if_pos h4]; exact rs_run m hR (by omega)
    rw [if_neg h4]
    by_cases h5 : h.st = 5
    · rw [if_pos h5]; unfold hClosing
      split
      · exact rs_say hR (by omega) close_ok close_wf
      · split
        · exact rs_silent hR (by omega)
        · exact rs_silent hR (by omega)
    rw [if_neg h5]
    by_cases h6 : h.st = 6
    · rw [if_pos h6]; exact rs_silent hR (by omega)
    rw [if_neg h6]; exact rs_refuse hR 8
  · exact rs_refuse hR 7
end Go.Proofs.YtkdiccedkjbpeaaGreatDoorR

/-
  A broker's connection never goes back, and its tune stays one that may be. Conditions: its tune may be, each number of the method is a uint64.
-/
namespace Go.Proofs.YtkdiccedkjbpeaaGreatDoorR

def DrOk (h : Hd) (r : Dn) : Prop := h.st ≤ r.k.st ∧ tRight r.k.ch r.k.fr r.k.bt = true
theorem dr_refuse {h : Hd} (hR : tRight h.ch h.fr h.bt = true) (e : Int) : DrOk h (dRefuse h e) := ⟨Int.le_refl _, hR⟩
theorem dr_take {h : Hd} {m : Me} (hR : tRight h.ch h.fr h.bt = true) (hm : wfM m) : DrOk h (ofTn (hTake h m)) := by
  obtain ⟨-, -, h1, -, h2⟩ := take_rises h m hR hm
  exact ⟨h1, h2⟩
theorem dr_others {h : Hd} {m : Me} (hR : tRight h.ch h.fr h.bt = true) (hm : wfM m) : DrOk h (dOthers h m) := by
  unfold dOthers
  split
  · exact dr_take hR hm
  · exact dr_refuse hR 16
theorem dTake_rises (h : Hd) (m : Me) (hR : tRight h.ch h.fr h.bt = true) (hm : wfM m) : DrOk h (dTake h m) := by
  unfold dTake
  split
  case isFalse => exact dr_refuse hR 7
  split
  case isTrue h1 =>
    unfold dStart
    split
    · split
      · exact ⟨by show h.st ≤ 2; omega, hR⟩
      · exact dr_refuse hR 16
    · exact dr_others hR hm
  split
  case isTrue h2 =>
    unfold dTune
    split
    · split
      · rename_i he
        exact ⟨by show h.st ≤ 3; omega, (dgE_zero he).2.1⟩
      · exact dr_refuse hR _
    · exact dr_others hR hm
  split
  case isTrue h3 =>
    unfold dOpens
    split
    · exact ⟨by show h.st ≤ 4; omega, hR⟩
    · exact dr_others hR hm
  split
  case isTrue h4 =>
    unfold dRuns
    split
    · exact ⟨by show h.st ≤ 4; omega, hR⟩
    · exact dr_others hR hm
  split
  · exact dr_take hR hm
  · exact dr_refuse hR 16
end Go.Proofs.YtkdiccedkjbpeaaGreatDoorR

/-
  What dial.Take, as a plain function, says is right, and what it leaves is a connection as it was ahead, but for its state and its tune. Conditions: the connection's tune may be, its names are short enough; the method's values are numbers and texts of fewer than 2^47 bytes.
-/
namespace Go.Proofs.YtkdiccedkjbpeaaGreatDoorR

/-- a connection that is as Begin made it, but for its state and its tune -/
structure DIn (h : Hd) : Prop where
  st : 1 ≤ h.st ∧ h.st ≤ 6
  tune : tRight h.ch h.fr h.bt = true
  us : h.us.size ≤ 1000
  wo : h.wo.size ≤ 1000
  ho : layOk 1 h.ho = true
def DSOk (l : List Me) : Prop := ∀ x ∈ l, mE x = 0 ∧ wfM x
theorem dsok_nil : DSOk [] := fun x hx => by cases hx
theorem dsok_two {a b : Me} (ha : mE a = 0 ∧ wfM a) (hb : mE b = 0 ∧ wfM b) : DSOk [a, b] := fun x hx => by
  simp only [List.mem_cons, List.not_mem_nil, or_false] at hx
  rcases hx with rfl | rfl
  · exact ha
  · exact hb
theorem start_letters : mLs ⟨10, 11, []⟩ = [84, 83, 76, 83] := by kernel_rfl
theorem open_letters : mLs ⟨10, 40, []⟩ = [83, 83, 98] := by kernel_rfl
theorem tuned_letters : mLs ⟨10, 31, []⟩ = [115, 108, 115] := by kernel_rfl
theorem tab_empty : tabIs emptyT = true := by kernel_rfl
theorem lay_plain : layOk 1 plainS = true := by kernel_rfl
theorem lay_en : layOk 1 enU = true := by kernel_rfl
theorem lay_none : layOk 1 ⟨#[]⟩ = true := by kernel_rfl
theorem lay_small {s : ByteArray} (h : layOk 1 s = true) : s.size < 140737488355328 := by
  rw [layOk_one, decide_eq_true_eq] at h
  omega
theorem vT {s : ByteArray} (h : tabIs s = true) : vE 84 (wordV s) = 0 := by
  simp [vE, wordV, h]
theorem vS {s : ByteArray} (h : layOk 1 s = true) : vE 83 (wordV s) = 0 := by
  simp [vE, wordV, h]
theorem vL {s : ByteArray} (h : s.size ≤ 131072) : vE 76 (wordV s) = 0 := by
  have e : ¬ 131072 < s.size := by omega
  simp [vE, wordV, e]
theorem who_size (us wo : ByteArray) : (whoS us wo).size = us.size + wo.size + 2 := by
  have e : (⟨#[0]⟩ : ByteArray).size = 1 := rfl
  rw [whoS, ByteArray.size_append, ByteArray.size_append, ByteArray.size_append, e]
  omega
theorem wf_word {s : ByteArray} (h : s.size < 140737488355328) : wfV (wordV s) := ⟨Int.le_refl _, (show (0 : Int) < 18446744073709551616 by decide), h⟩
theorem start_right {us wo : ByteArray} (hu : us.size ≤ 1000) (hw : wo.size ≤ 1000) : mE ⟨10, 11, [wordV emptyT, wordV plainS, wordV (whoS us wo), wordV enU]⟩ = 0 := by
  refine mE_mk (by kernel_rfl) (by kernel_rfl) ?_
  have e : mLs ⟨10, 11, [wordV emptyT, wordV plainS, wordV (whoS us wo), wordV enU]⟩ = [84, 83, 76, 83] := start_letters
  rw [e]
  exact layEr_mk (vT tab_empty) (layEr_mk (vS lay_plain) (layEr_mk (vL (by rw [who_size]; omega)) (layEr_mk (vS lay_en) rfl)))
theorem start_wf {us wo : ByteArray} (hu : us.size ≤ 1000) (hw : wo.size ≤ 1000) : wfM ⟨10, 11, [wordV emptyT, wordV plainS, wordV (whoS us wo), wordV enU]⟩ := by
  intro v hv
  simp only [List.mem_cons, List.not_mem_nil, or_false] at hv
  rcases hv with rfl | rfl | rfl | rfl
  · exact wf_word (by decide)
  · exact wf_word (by decide)
  · exact wf_word (by rw [who_size]; omega)
  · exact wf_word (by decide)
theorem open_right {ho : ByteArray} (h : layOk 1 ho = true) : mE ⟨10, 40, [wordV ho, wordV ⟨#[]⟩, numV 0]⟩ = 0 := by
  refine mE_mk (by kernel_rfl) (by kernel_rfl) ?_
  have e : mLs ⟨10, 40, [wordV ho, wordV ⟨#[]⟩, numV 0]⟩ = [83, 83, 98] := open_letters
  rw [e]
  exact layEr_mk (vS h) (layEr_mk (vS lay_none) (layEr_mk (by kernel_rfl) rfl))
theorem open_wfd {ho : ByteArray} (h : layOk 1 ho = true) : wfM ⟨10, 40, [wordV ho, wordV ⟨#[]⟩, numV 0]⟩ := by
  intro v hv
  simp only [List.mem_cons, List.not_mem_nil, or_false] at hv
  rcases hv with rfl | rfl | rfl
  · exact wf_word (lay_small h)
  · exact wf_word (by decide)
  · exact ⟨by decide, by decide, by decide⟩
theorem tuned_right {c f b : Int} (hR : tRight c f b = true) : mE ⟨10, 31, [numV c, numV f, numV b]⟩ = 0 ∧ wfM ⟨10, 31, [numV c, numV f, numV b]⟩ := by
  obtain ⟨g1, g2, g3⟩ := (tRight_iff _ _ _).1 hR
  rw [num_id ⟨by omega, by omega⟩, num_id ⟨by omega, by omega⟩, num_id ⟨by omega, by omega⟩]
  constructor
  · have h := told_right (c := c) (f := f) (b := b) ⟨by omega, by omega⟩ ⟨by omega, by omega⟩ g3
    have e1 : mLs ⟨10, 30, [⟨c, ⟨#[]⟩⟩, ⟨f, ⟨#[]⟩⟩, ⟨b, ⟨#[]⟩⟩]⟩ = [115, 108, 115] := told_letters
    have e2 : mLs ⟨10, 31, [⟨c, ⟨#[]⟩⟩, ⟨f, ⟨#[]⟩⟩, ⟨b, ⟨#[]⟩⟩]⟩ = [115, 108, 115] := tuned_letters
    refine mE_mk (by kernel_rfl) (by kernel_rfl) ?_
    rw [e2]
    have s0 : sIs 10 30 = true := by kernel_rfl
    have s1 : (sOf 10 30).size = 3 := by kernel_rfl
    rw [mE, e1] at h
    rw [if_pos (by exact s0), if_pos (by exact s1)] at h
    exact h
  · intro v hv
    simp only [List.mem_cons, List.not_mem_nil, or_false] at hv
    rcases hv with rfl | rfl | rfl <;> exact ⟨by dsimp only; omega, by dsimp only; omega, (show (0 : Nat) < 140737488355328 by decide)⟩
def DOk (r : Dn) : Prop := DSOk r.s ∧ DIn r.k
theorem dok_refuse {h : Hd} (hI : DIn h) (e : Int) : DOk (dRefuse h e) := ⟨dsok_nil, hI⟩
theorem DIn.at {h : Hd} (hI : DIn h) {n : Int} (hn : 1 ≤ n ∧ n ≤ 6) : DIn { h with st := n } := ⟨hn, hI.tune, hI.us, hI.wo, hI.ho⟩
theorem dok_says {h : Hd} (hI : DIn h) {n : Int} (hn : 1 ≤ n ∧ n ≤ 6) {l : List Me} (hl : DSOk l) : DOk (dSays h n l) := ⟨hl, hI.at hn⟩
theorem dok_silent {h : Hd} (hI : DIn h) {n : Int} (hn : 1 ≤ n ∧ n ≤ 6) : DOk (ofTn (hSilent h n)) := ⟨dsok_nil, hI.at hn⟩
theorem dok_shut {h : Hd} (hI : DIn h) {n : Int} (hn : 1 ≤ n ∧ n ≤ 6) : DOk (ofTn (hSay h n 51 [])) := ⟨fun x hx => by
  have hx2 : x ∈ [(⟨10, 51, []⟩ : Me)] := hx
  rw [List.mem_singleton] at hx2
  subst hx2
  exact ⟨close_ok, close_wf⟩, hI.at hn⟩
theorem dok_others {h : Hd} {m : Me} (hI : DIn h) (hE : mE m = 0) (hst : 1 ≤ h.st ∧ h.st ≤ 4) : DOk (dOthers h m) := by
  unfold dOthers
  split
  · rename_i hq
    rw [take_shuts h m hE hst hq]
    exact dok_shut hI (by decide)
  · exact dok_refuse hI 16
theorem dTake_ok (h : Hd) (m : Me) (hI : DIn h) : DOk (dTake h m) := by
  unfold dTake
  split
  case isFalse => exact dok_refuse hI 7
  rename_i hE
  have hst := hI.st
  by_cases h1 : h.st = 1
  · rw [if_pos h1]; unfold dStart
    split
    · split
      · refine dok_says hI (by decide) fun x hx => ?_
        rw [List.mem_singleton] at hx
        subst hx
        exact ⟨start_right hI.us hI.wo, start_wf hI.us hI.wo⟩
      · exact dok_refuse hI 16
    · exact dok_others hI hE (by omega)
  rw [if_neg h1]
  by_cases h2 : h.st = 2
  · rw [if_pos h2]; unfold dTune
    split
    · split
      · rename_i he
        have hT := (dgE_zero he).2.1
        exact ⟨dsok_two (tuned_right hT) ⟨open_right hI.ho, open_wfd hI.ho⟩, ⟨(by decide : (1 : Int) ≤ 3 ∧ (3 : Int) ≤ 6), hT, hI.us, hI.wo, hI.ho⟩⟩
      · exact dok_refuse hI _
    · exact dok_others hI hE (by omega)
  rw [if_neg h2]
  by_cases h3 : h.st = 3
  · rw [if_pos h3]; unfold dOpens
    split
    · exact dok_says hI (by decide) dsok_nil
    · exact dok_others hI hE (by omega)
  rw [if_neg h3]
  by_cases h4 : h.st = 4
  · rw [if_pos h4]; unfold dRuns
    split
    · exact dok_says hI (by decide) dsok_nil
    · exact dok_others hI hE (by omega)
  rw [if_neg h4]
  have h56 : h.st = 5 ∨ h.st = 6 := by omega
  rw [if_pos h56]
  unfold hTake
  rw [if_pos hE, if_neg (by omega), if_neg h1, if_neg h2, if_neg h3, if_neg h4]
  by_cases h5 : h.st = 5
  · rw [if_pos h5]; unfold hClosing
    split
    · exact dok_shut hI (by decide)
    · split
      · exact dok_silent hI (by decide)
      · exact dok_silent hI (by decide)
  · rw [if_neg h5, if_pos (by omega)]
    exact dok_silent hI (by decide)
end Go.Proofs.YtkdiccedkjbpeaaGreatDoorR
