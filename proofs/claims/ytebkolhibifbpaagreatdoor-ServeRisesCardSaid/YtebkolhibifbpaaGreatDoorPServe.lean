/-
  A client's connection as plain data: how it begins, what it takes and says, and how it ends, as plain functions. No condition.
-/
import Derived.Test.YtebkolhibifbpaaGreatDoorPMethC
import Derived.Test.YtebkolhibifbpaaGreatDoorJMV
import Derived.Test.YtebkolhibifbpaaGreatDoorWPairs
namespace Go.Proofs.YtebkolhibifbpaaGreatDoor
open Go.RowKit

structure Hd where
  st : Int
  ch : Int
  fr : Int
  bt : Int
  us : ByteArray
  wo : ByteArray
  ho : ByteArray
/-- what is answered: the connection, what it says, the error -/
structure Tn where
  k : Hd
  s : Option Me
  e : Int
def hRefuse (h : Hd) (e : Int) : Tn := ⟨h, none, e⟩
def hSilent (h : Hd) (st : Int) : Tn := ⟨{ h with st := st }, none, 0⟩
def hSay (h : Hd) (st id : Int) (l : List MV) : Tn := ⟨{ h with st := st }, some ⟨10, id, l⟩, 0⟩
def isM (m : Me) (id : Int) : Bool := m.c == 10 && m.i == id
def numV (n : Int) : MV := ⟨IntKind.u64.wrap n, ⟨#[]⟩⟩
def wordV (s : ByteArray) : MV := ⟨0, s⟩
def plainS : ByteArray := ⟨#[80, 76, 65, 73, 78]⟩
def hRun (h : Hd) (m : Me) : Tn := if isM m 50 = true then hSay h 6 51 [] else hRefuse h 8
def hStart (h : Hd) (m : Me) : Tn :=
  if isM m 11 = true then
    (if (argV m.l 1).s = plainS then
      (if pairOk (argV m.l 2).s = true then hSay { h with us := pairA (argV m.l 2).s, wo := pairB (argV m.l 2).s } 2 30 [numV h.ch, numV h.fr, numV h.bt] else hRefuse h 7)
    else hRefuse h 14)
  else hRun h m
/-- is what is agreed on within what was told? -/
def agOk (h : Hd) (a b : Int) : Bool := !(decide (a > h.ch)) && !(decide (b > h.fr)) && !(decide (0 < b) && decide (b < 4096))
def agV (n mine : Int) : Int := if n = 0 then mine else n
def agB (h : Hd) (c : Int) : Int := if c ≠ 0 ∧ h.bt ≠ 0 then min c h.bt else 0
def hTune (h : Hd) (m : Me) : Tn :=
  if isM m 31 = true then
    (if agOk h (argV m.l 0).n (argV m.l 1).n = true then hSilent { h with ch := agV (argV m.l 0).n h.ch, fr := agV (argV m.l 1).n h.fr, bt := agB h (argV m.l 2).n } 3 else hRefuse h 14)
  else hRun h m
def hOpen (h : Hd) (m : Me) : Tn := if isM m 40 = true then hSay { h with ho := (argV m.l 0).s } 4 41 [noV] else hRun h m
def hClosing (h : Hd) (m : Me) : Tn := if isM m 50 = true then hSay h 5 51 [] else if isM m 51 = true then hSilent h 6 else hSilent h 5
def hClosed (h : Hd) : Tn := hSilent h 6
def hTake (h : Hd) (m : Me) : Tn :=
  if mE m = 0 then
    (if h.st = 0 then hRefuse h 8 else if h.st = 1 then hStart h m else if h.st = 2 then hTune h m else if h.st = 3 then hOpen h m
     else if h.st = 4 then hRun h m else if h.st = 5 then hClosing h m else if h.st = 6 then hClosed h else hRefuse h 8)
  else hRefuse h 7
end Go.Proofs.YtebkolhibifbpaaGreatDoor
