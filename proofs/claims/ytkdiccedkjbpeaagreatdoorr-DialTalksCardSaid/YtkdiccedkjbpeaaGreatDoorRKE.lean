/-
  Several texts joined in one file: each says at its own head, below, what it proves, and its conditions.
-/
import Derived.Test.YtkdiccedkjbpeaaGreatDoorRKC
import Derived.Test.YtkdiccedkjbpeaaGreatDoorRKD
import Derived.Test.YtkdiccedkjbpeaaGreatDoorRKB
/-
  A broker's connection takes a method: a plain function. No condition.
-/
namespace Go.Proofs.YtkdiccedkjbpeaaGreatDoorR

/-- what is answered: the connection, what it says, the error -/
structure Dn where
  k : Hd
  s : List Me
  e : Int
def dRefuse (h : Hd) (e : Int) : Dn := ⟨h, [], e⟩
def dSays (h : Hd) (st : Int) (l : List Me) : Dn := ⟨{ h with st := st }, l, 0⟩
def ofTn (t : Tn) : Dn := ⟨t.k, t.s.toList, t.e⟩
def dOthers (h : Hd) (m : Me) : Dn := if isM m 50 = true then ofTn (hTake h m) else dRefuse h 16
def emptyT : ByteArray := ⟨#[0, 0, 0, 0]⟩
def enU : ByteArray := ⟨#[101, 110, 95, 85, 83]⟩
def whoS (us wo : ByteArray) : ByteArray := ((⟨#[0]⟩ ++ us) ++ ⟨#[0]⟩) ++ wo
def dStart (h : Hd) (m : Me) : Dn :=
  if isM m 10 = true then
    (if (argV m.l 0).n = 0 ∧ (argV m.l 1).n = 9 ∧ offX (argV m.l 3).s.data.toList plainS.data.toList = true then
      dSays h 2 [⟨10, 11, [wordV emptyT, wordV plainS, wordV (whoS h.us h.wo), wordV enU]⟩] else dRefuse h 16)
  else dOthers h m
def intN (n : Int) : Int := IntKind.i64.wrap n
def dTune (h : Hd) (m : Me) : Dn :=
  if isM m 30 = true then
    (if dgE h.ch h.fr h.bt (intN (argV m.l 0).n) (intN (argV m.l 1).n) (intN (argV m.l 2).n) = 0 then
      dSays { h with ch := lessN h.ch (intN (argV m.l 0).n), fr := lessN h.fr (intN (argV m.l 1).n), bt := min h.bt (intN (argV m.l 2).n) } 3
        [⟨10, 31, [numV (lessN h.ch (intN (argV m.l 0).n)), numV (lessN h.fr (intN (argV m.l 1).n)), numV (min h.bt (intN (argV m.l 2).n))]⟩, ⟨10, 40, [wordV h.ho, wordV ⟨#[]⟩, numV 0]⟩]
    else dRefuse h (dgE h.ch h.fr h.bt (intN (argV m.l 0).n) (intN (argV m.l 1).n) (intN (argV m.l 2).n)))
  else dOthers h m
def dOpens (h : Hd) (m : Me) : Dn := if isM m 41 = true then dSays h 4 [] else dOthers h m
def dRuns (h : Hd) (m : Me) : Dn := if isM m 60 = true ∨ isM m 61 = true then dSays h 4 [] else dOthers h m
def dTake (h : Hd) (m : Me) : Dn :=
  if mE m = 0 then
    (if h.st = 1 then dStart h m else if h.st = 2 then dTune h m else if h.st = 3 then dOpens h m else if h.st = 4 then dRuns h m
     else if h.st = 5 ∨ h.st = 6 then ofTn (hTake h m) else dRefuse h 16)
  else dRefuse h 7
/-- where it refuses it is as it was, and says nothing -/
def DnKept (h : Hd) (r : Dn) : Prop := ¬ r.e = 0 → r.k = h ∧ r.s = []
theorem kept_refuse (h : Hd) (e : Int) : DnKept h (dRefuse h e) := fun _ => ⟨rfl, rfl⟩
theorem kept_says (h k : Hd) (n : Int) (l : List Me) : DnKept h (dSays k n l) := fun he => absurd rfl he
theorem kept_take (h : Hd) (m : Me) : DnKept h (ofTn (hTake h m)) := by
  intro he
  rcases take_kind h m with ⟨-, h1, h2⟩ | ⟨g, -⟩ | ⟨g, -⟩ | ⟨g, -⟩ | ⟨g, -⟩
  · exact ⟨h1, by rw [ofTn, h2]; rfl⟩
  all_goals exact absurd g he
theorem kept_others (h : Hd) (m : Me) : DnKept h (dOthers h m) := by
  unfold dOthers
  split
  · exact kept_take h m
  · exact kept_refuse h 16
theorem dTake_kept (h : Hd) (m : Me) : DnKept h (dTake h m) := by
  unfold dTake dStart dTune dOpens dRuns
  repeat' split
  all_goals first
    | exact kept_refuse h _
    | exact kept_says h _ _ _
    | exact kept_others h m
    | exact kept_take h m
end Go.Proofs.YtkdiccedkjbpeaaGreatDoorR

/-
  What dial.Take, as a plain function, answers ahead of running and while it runs. No condition.
-/
namespace Go.Proofs.YtkdiccedkjbpeaaGreatDoorR

def DWr (h : Hd) (m : Me) (r : Dn) : Prop :=
  (¬ m.c = 10 ∧ r.e = 16 ∧ r.k = h ∧ r.s = []) ∨ (m.c = 10 ∧ m.i = 50 ∧ r.e = 0 ∧ r.k.st = 6 ∧ r.s = [⟨10, 51, []⟩]) ∨ (m.c = 10 ∧ ¬ m.i = 50 ∧ ¬ r.e = 0 ∧ r.k = h) ∨ (m.c = 10 ∧ ¬ m.i = 50 ∧ r.e = 0 ∧ r.k.st = h.st + 1) ∨ (m.c = 10 ∧ ¬ m.i = 50 ∧ r.e = 0 ∧ h.st = 4 ∧ r.k = h)
theorem isM_iff {m : Me} {id : Int} : isM m id = true ↔ m.c = 10 ∧ m.i = id := by
  simp only [isM, Bool.and_eq_true, beq_iff_eq]
theorem isM_other {m : Me} {id id' : Int} (h : isM m id = true) (hn : ¬ id = id') : isM m id' = false := by
  rw [Bool.eq_false_iff]
  intro h2
  exact hn ((isM_iff.1 h).2.symm.trans (isM_iff.1 h2).2)
theorem take_shuts (h : Hd) (m : Me) (hE : mE m = 0) (hst : 1 ≤ h.st ∧ h.st ≤ 4) (hq : isM m 50 = true) : hTake h m = hSay h 6 51 [] := by
  have hr : hRun h m = hSay h 6 51 [] := by unfold hRun; rw [if_pos hq]
  unfold hTake
  rw [if_pos hE, if_neg (by omega)]
  by_cases h1 : h.st = 1
  · rw [if_pos h1]; unfold hStart
    rw [if_neg (by rw [isM_other hq (by decide)]; decide)]
    exact hr
  rw [if_neg h1]
  by_cases h2 : h.st = 2
  · rw [if_pos h2]; unfold hTune
    rw [if_neg (by rw [isM_other hq (by decide)]; decide)]
    exact hr
  rw [if_neg h2]
  by_cases h3 : h.st = 3
  · rw [if_pos h3]; unfold hOpen
    rw [if_neg (by rw [isM_other hq (by decide)]; decide)]
    exact hr
  rw [if_neg h3, if_pos (by omega)]
  exact hr
theorem dwr_others (h : Hd) (m : Me) (hE : mE m = 0) (hst : 1 ≤ h.st ∧ h.st ≤ 4) : DWr h m (dOthers h m) := by
  unfold dOthers
  split
  · rename_i hq
    rw [take_shuts h m hE hst hq]
    exact .inr (.inl ⟨(isM_iff.1 hq).1, (isM_iff.1 hq).2, rfl, rfl, rfl⟩)
  · rename_i hq
    by_cases hc : m.c = 10
    · by_cases hi : m.i = 50
      · exact absurd (isM_iff.2 ⟨hc, hi⟩) hq
      · exact .inr (.inr (.inl ⟨hc, hi, (show ¬ (16 : Int) = 0 by decide), rfl⟩))
    · exact .inl ⟨hc, rfl, rfl, rfl⟩
theorem dwr_refuse {h : Hd} {m : Me} {id : Int} (hq : isM m id = true) (hi : ¬ id = 50) {e : Int} (he : ¬ e = 0) : DWr h m (dRefuse h e) :=
  .inr (.inr (.inl ⟨(isM_iff.1 hq).1, by rw [(isM_iff.1 hq).2]; exact hi, he, rfl⟩))
theorem dwr_on {h : Hd} {m : Me} {id : Int} (hq : isM m id = true) (hi : ¬ id = 50) (r : Dn) (he : r.e = 0) (hk : r.k.st = h.st + 1) : DWr h m r :=
  .inr (.inr (.inr (.inl ⟨(isM_iff.1 hq).1, by rw [(isM_iff.1 hq).2]; exact hi, he, hk⟩)))
theorem dwr_stay {h : Hd} {m : Me} {id : Int} (hq : isM m id = true) (hi : ¬ id = 50) (r : Dn) (he : r.e = 0) (h4 : h.st = 4) (hk : r.k = h) : DWr h m r :=
  .inr (.inr (.inr (.inr ⟨(isM_iff.1 hq).1, by rw [(isM_iff.1 hq).2]; exact hi, he, h4, hk⟩)))
theorem dTake_wrong (h : Hd) (m : Me) : h.st < 1 ∨ 4 < h.st ∨ (dTake h m).e = 7 ∨ ((1 ≤ h.st ∧ h.st ≤ 4) ∧ ¬ (dTake h m).e = 7 ∧ DWr h m (dTake h m)) := by
  by_cases hl : h.st < 1
  · exact .inl hl
  by_cases hh : 4 < h.st
  · exact .inr (.inl hh)
  by_cases h7 : (dTake h m).e = 7
  · exact .inr (.inr (.inl h7))
  have hst : 1 ≤ h.st ∧ h.st ≤ 4 := ⟨by omega, by omega⟩
  refine .inr (.inr (.inr ⟨hst, h7, ?_⟩))
  by_cases hE : mE m = 0
  · clear h7
    unfold dTake
    rw [if_pos hE]
    by_cases h1 : h.st = 1
    · rw [if_pos h1]; unfold dStart
      split
      · rename_i hq
        split
        · exact dwr_on hq (by decide) _ rfl (by rw [h1]; rfl)
        · exact dwr_refuse hq (by decide) (by decide)
      · exact dwr_others h m hE hst
    rw [if_neg h1]
    by_cases h2 : h.st = 2
    · rw [if_pos h2]; unfold dTune
      split
      · rename_i hq
        split
        · exact dwr_on hq (by decide) _ rfl (by rw [h2]; rfl)
        · rename_i he
          exact dwr_refuse hq (by decide) he
      · exact dwr_others h m hE hst
    rw [if_neg h2]
    by_cases h3 : h.st = 3
    · rw [if_pos h3]; unfold dOpens
      split
      · rename_i hq
        exact dwr_on hq (by decide) _ rfl (by rw [h3]; rfl)
      · exact dwr_others h m hE hst
    rw [if_neg h3]
    have h4 : h.st = 4 := by omega
    rw [if_pos h4]; unfold dRuns
    have hk : ({ h with st := 4 } : Hd) = h := by rw [← h4]
    split
    · rename_i hq
      rcases hq with hq | hq
      · exact dwr_stay hq (by decide) _ rfl h4 hk
      · exact dwr_stay hq (by decide) _ rfl h4 hk
    · exact dwr_others h m hE hst
  · exact absurd (by unfold dTake; rw [if_neg hE]; rfl) h7
end Go.Proofs.YtkdiccedkjbpeaaGreatDoorR
