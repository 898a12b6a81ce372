/-
  Several texts joined in one file: each says at its own head, below, what it proves, and its conditions.
-/
import Derived.Test.YtkdiccedkjbpeaaGreatDoorRPMethC
import Derived.Test.YtkdiccedkjbpeaaGreatDoorRJMV
import Derived.Test.YtkdiccedkjbpeaaGreatDoorRKB
/-
  A client's connection as plain data: how it begins, what it takes and says, and how it ends, as plain functions. No condition.
-/
namespace Go.Proofs.YtkdiccedkjbpeaaGreatDoorR
open Go.RowKit

structure Hd where
  st : Int
  ch : Int
  fr : Int
  bt : Int
  us : ByteArray
  wo : ByteArray
  ho : ByteArray
/-- what is answered: the connection, what it says, the error -/
structure Tn where
  k : Hd
  s : Option Me
  e : Int
def hRefuse (h : Hd) (e : Int) : Tn := ⟨h, none, e⟩
def hSilent (h : Hd) (st : Int) : Tn := ⟨{ h with st := st }, none, 0⟩
def hSay (h : Hd) (st id : Int) (l : List MV) : Tn := ⟨{ h with st := st }, some ⟨10, id, l⟩, 0⟩
def isM (m : Me) (id : Int) : Bool := m.c == 10 && m.i == id
def numV (n : Int) : MV := ⟨IntKind.u64.wrap n, ⟨#[]⟩⟩
def wordV (s : ByteArray) : MV := ⟨0, s⟩
def plainS : ByteArray := ⟨#[80, 76, 65, 73, 78]⟩
def hRun (h : Hd) (m : Me) : Tn := if isM m 50 = true then hSay h 6 51 [] else hRefuse h 8
def hStart (h : Hd) (m : Me) : Tn :=
  if isM m 11 = true then
    (if (argV m.l 1).s = plainS then
      (if pairOk (argV m.l 2).s = true then hSay { h with us := pairA (argV m.l 2).s, wo := pairB (argV m.l 2).s } 2 30 [numV h.ch, numV h.fr, numV h.bt] else hRefuse h 7)
    else hRefuse h 14)
  else hRun h m
/-- is what is agreed on within what was told? -/
def agOk (h : Hd) (a b : Int) : Bool := !(decide (a > h.ch)) && !(decide (b > h.fr)) && !(decide (0 < b) && decide (b < 4096))
def agV (n mine : Int) : Int := if n = 0 then mine else n
def agB (h : Hd) (c : Int) : Int := if c ≠ 0 ∧ h.bt ≠ 0 then min c h.bt else 0
def hTune (h : Hd) (m : Me) : Tn :=
  if isM m 31 = true then
    (if agOk h (argV m.l 0).n (argV m.l 1).n = true then hSilent { h with ch := agV (argV m.l 0).n h.ch, fr := agV (argV m.l 1).n h.fr, bt := agB h (argV m.l 2).n } 3 else hRefuse h 14)
  else hRun h m
def hOpen (h : Hd) (m : Me) : Tn := if isM m 40 = true then hSay { h with ho := (argV m.l 0).s } 4 41 [noV] else hRun h m
def hClosing (h : Hd) (m : Me) : Tn := if isM m 50 = true then hSay h 5 51 [] else if isM m 51 = true then hSilent h 6 else hSilent h 5
def hClosed (h : Hd) : Tn := hSilent h 6
def hTake (h : Hd) (m : Me) : Tn :=
  if mE m = 0 then
    (if h.st = 0 then hRefuse h 8 else if h.st = 1 then hStart h m else if h.st = 2 then hTune h m else if h.st = 3 then hOpen h m
     else if h.st = 4 then hRun h m else if h.st = 5 then hClosing h m else if h.st = 6 then hClosed h else hRefuse h 8)
  else hRefuse h 7
end Go.Proofs.YtkdiccedkjbpeaaGreatDoorR

/-
  What serve.Take, as a plain function, may change. No condition.
-/
namespace Go.Proofs.YtkdiccedkjbpeaaGreatDoorR
open Go.RowKit

def TnKind (h : Hd) (r : Tn) : Prop :=
  (¬ r.e = 0 ∧ r.k = h ∧ r.s = none) ∨ (r.e = 0 ∧ ∃ n, r.k = ⟨n, h.ch, h.fr, h.bt, h.us, h.wo, h.ho⟩) ∨ (r.e = 0 ∧ h.st = 1 ∧ ∃ n u p, r.k = ⟨n, h.ch, h.fr, h.bt, u, p, h.ho⟩) ∨ (r.e = 0 ∧ h.st = 2 ∧ ∃ n a b c, r.k = ⟨n, a, b, c, h.us, h.wo, h.ho⟩) ∨ (r.e = 0 ∧ h.st = 3 ∧ ∃ n x, r.k = ⟨n, h.ch, h.fr, h.bt, h.us, h.wo, x⟩)
theorem kind_refuse (h : Hd) {e : Int} (he : ¬ e = 0) : TnKind h (hRefuse h e) := .inl ⟨he, rfl, rfl⟩
theorem kind_silent (h : Hd) (n : Int) : TnKind h (hSilent h n) := .inr (.inl ⟨rfl, n, rfl⟩)
theorem kind_say (h : Hd) (n id : Int) (l : List MV) : TnKind h (hSay h n id l) := .inr (.inl ⟨rfl, n, rfl⟩)
theorem kind_run (h : Hd) (m : Me) : TnKind h (hRun h m) := by
  unfold hRun
  split
  · exact kind_say h _ _ _
  · exact kind_refuse h (by decide)
theorem take_kind (h : Hd) (m : Me) : TnKind h (hTake h m) := by
  unfold hTake
  split
  · by_cases h0 : h.st = 0
    · rw [if_pos h0]; exact kind_refuse h (by decide)
    rw [if_neg h0]
    by_cases h1 : h.st = 1
    · rw [if_pos h1]; unfold hStart
      split
      · split
        · split
          · exact .inr (.inr (.inl ⟨rfl, h1, _, _, _, rfl⟩))
          · exact kind_refuse h (by decide)
        · exact kind_refuse h (by decide)
      · exact kind_run h m
    rw [if_neg h1]
    by_cases h2 : h.st = 2
    · rw [if_pos h2]; unfold hTune
      split
      · split
        · exact .inr (.inr (.inr (.inl ⟨rfl, h2, _, _, _, _, rfl⟩)))
        · exact kind_refuse h (by decide)
      · exact kind_run h m
    rw [if_neg h2]
    by_cases h3 : h.st = 3
    · rw [if_pos h3]; unfold hOpen
      split
      · exact .inr (.inr (.inr (.inr ⟨rfl, h3, _, _, rfl⟩)))
      · exact kind_run h m
    rw [if_neg h3]
    by_cases h4 : h.st = 4
    · rw [if_pos h4]; exact kind_run h m
    rw [if_neg h4]
    by_cases h5 : h.st = 5
    · rw [if_pos h5]; unfold hClosing
      split
      · exact kind_say h _ _ _
      · split
        · exact kind_silent h _
        · exact kind_silent h _
    rw [if_neg h5]
    by_cases h6 : h.st = 6
    · rw [if_pos h6]; exact kind_silent h _
    rw [if_neg h6]; exact kind_refuse h (by decide)
  · exact kind_refuse h (by decide)
end Go.Proofs.YtkdiccedkjbpeaaGreatDoorR

/-
  What is said, as plain words: it is right, its values are numbers and texts of a size. No condition.
-/
namespace Go.Proofs.YtkdiccedkjbpeaaGreatDoorR

def saidOk : Option Me → Bool
  | none => true
  | some m => mE m == 0
def saidWf : Option Me → Prop
  | none => True
  | some m => wfM m
theorem argV_wf {l : List MV} (h : ∀ v ∈ l, wfV v) (k : Int) : wfV (argV l k) := by
  rcases int_cases k l.length with hk | ⟨n, rfl, hn⟩ | ⟨n, rfl, hn⟩
  · rw [argV_low l hk]; exact ⟨by decide, by decide, by decide⟩
  · rw [argV_at l n hn]; exact h _ (List.getElem_mem hn)
  · rw [argV_high l n hn]; exact ⟨by decide, by decide, by decide⟩
end Go.Proofs.YtkdiccedkjbpeaaGreatDoorR
