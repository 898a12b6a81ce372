/-
  The methods of the document's table, as plain mathematics: what is told of each class and id. No condition.
-/
import Derived.Test.YtmpfkommeakgbaaDoorRows
namespace Go.Proofs.YtmpfkommeakgbaaDoor

/-- a method: its class, id, signature, side, and how many replies it has -/
structure Met where
  c : Int
  i : Int
  v : ByteArray
  s : Int
  r : Int
def mets : List Met :=
  [⟨10, 10, ⟨#[111, 111, 84, 76, 76]⟩, 2, 1⟩,
   ⟨10, 11, ⟨#[84, 83, 76, 83]⟩, 1, 0⟩,
   ⟨10, 20, ⟨#[76]⟩, 2, 1⟩,
   ⟨10, 21, ⟨#[76]⟩, 1, 0⟩,
   ⟨10, 30, ⟨#[115, 108, 115]⟩, 2, 1⟩,
   ⟨10, 31, ⟨#[115, 108, 115]⟩, 1, 0⟩,
   ⟨10, 40, ⟨#[83, 83, 98]⟩, 1, 1⟩,
   ⟨10, 41, ⟨#[83]⟩, 2, 0⟩,
   ⟨10, 50, ⟨#[115, 83, 115, 115]⟩, 3, 1⟩,
   ⟨10, 51, ⟨#[]⟩, 3, 0⟩,
   ⟨10, 60, ⟨#[83]⟩, 2, 0⟩,
   ⟨10, 61, ⟨#[]⟩, 2, 0⟩,
   ⟨20, 10, ⟨#[83]⟩, 1, 1⟩,
   ⟨20, 11, ⟨#[76]⟩, 2, 0⟩,
   ⟨20, 20, ⟨#[98]⟩, 3, 1⟩,
   ⟨20, 21, ⟨#[98]⟩, 3, 0⟩,
   ⟨20, 40, ⟨#[115, 83, 115, 115]⟩, 3, 1⟩,
   ⟨20, 41, ⟨#[]⟩, 3, 0⟩,
   ⟨40, 10, ⟨#[115, 83, 83, 98, 98, 98, 98, 98, 84]⟩, 1, 1⟩,
   ⟨40, 11, ⟨#[]⟩, 2, 0⟩,
   ⟨40, 20, ⟨#[115, 83, 98, 98]⟩, 1, 1⟩,
   ⟨40, 21, ⟨#[]⟩, 2, 0⟩,
   ⟨50, 10, ⟨#[115, 83, 98, 98, 98, 98, 98, 84]⟩, 1, 1⟩,
   ⟨50, 11, ⟨#[83, 108, 108]⟩, 2, 0⟩,
   ⟨50, 20, ⟨#[115, 83, 83, 83, 98, 84]⟩, 1, 1⟩,
   ⟨50, 21, ⟨#[]⟩, 2, 0⟩,
   ⟨50, 30, ⟨#[115, 83, 98]⟩, 1, 1⟩,
   ⟨50, 31, ⟨#[108]⟩, 2, 0⟩,
   ⟨50, 40, ⟨#[115, 83, 98, 98, 98]⟩, 1, 1⟩,
   ⟨50, 41, ⟨#[108]⟩, 2, 0⟩,
   ⟨50, 50, ⟨#[115, 83, 83, 83, 84]⟩, 1, 1⟩,
   ⟨50, 51, ⟨#[]⟩, 2, 0⟩,
   ⟨60, 10, ⟨#[108, 115, 98]⟩, 1, 1⟩,
   ⟨60, 11, ⟨#[]⟩, 2, 0⟩,
   ⟨60, 20, ⟨#[115, 83, 83, 98, 98, 98, 98, 84]⟩, 1, 1⟩,
   ⟨60, 21, ⟨#[83]⟩, 2, 0⟩,
   ⟨60, 30, ⟨#[83, 98]⟩, 1, 1⟩,
   ⟨60, 31, ⟨#[83]⟩, 2, 0⟩,
   ⟨60, 40, ⟨#[115, 83, 83, 98, 98]⟩, 1, 0⟩,
   ⟨60, 50, ⟨#[115, 83, 83, 83]⟩, 2, 0⟩,
   ⟨60, 60, ⟨#[83, 113, 98, 83, 83]⟩, 2, 0⟩,
   ⟨60, 70, ⟨#[115, 83, 98]⟩, 1, 2⟩,
   ⟨60, 71, ⟨#[113, 98, 83, 83, 108]⟩, 2, 0⟩,
   ⟨60, 72, ⟨#[83]⟩, 2, 0⟩,
   ⟨60, 80, ⟨#[113, 98]⟩, 3, 0⟩,
   ⟨60, 90, ⟨#[113, 98]⟩, 1, 0⟩,
   ⟨60, 100, ⟨#[98]⟩, 1, 0⟩,
   ⟨60, 110, ⟨#[98]⟩, 1, 1⟩,
   ⟨60, 111, ⟨#[]⟩, 2, 0⟩,
   ⟨60, 120, ⟨#[113, 98, 98]⟩, 3, 0⟩,
   ⟨85, 10, ⟨#[98]⟩, 1, 1⟩,
   ⟨85, 11, ⟨#[]⟩, 2, 0⟩,
   ⟨90, 10, ⟨#[]⟩, 1, 1⟩,
   ⟨90, 11, ⟨#[]⟩, 2, 0⟩,
   ⟨90, 20, ⟨#[]⟩, 1, 1⟩,
   ⟨90, 21, ⟨#[]⟩, 2, 0⟩,
   ⟨90, 30, ⟨#[]⟩, 1, 1⟩,
   ⟨90, 31, ⟨#[]⟩, 2, 0⟩]
def noMet : Met := ⟨0, 0, ⟨#[]⟩, 0, 0⟩
def cellsMet (m : Met) : List Value := [.int .i64 m.c, .int .i64 m.i, .string m.v, .int .i64 m.s, .int .i64 m.r]
def encMet (m : Met) : Value := .agg #[.int .i64 m.c, .int .i64 m.i, .string m.v, .int .i64 m.s, .int .i64 m.r]
def rowMet (l : List Met) : List Value := l.flatMap cellsMet

/-- is it the one at that class and id; is it the one that is answered by it -/
def isAt (c i : Int) (m : Met) : Bool := m.c == c && m.i == i
def hitBy (c i : Int) (m : Met) (k : Nat) : Bool := m.c == c && m.i + 1 + (k : Int) == i
def isBy (c i : Int) (m : Met) : Bool := (List.range m.r.toNat).any (hitBy c i m)
def fst (p : Met → Bool) : Met := (mets.find? p).getD noMet
def sIs (c i : Int) : Bool := mets.any (isAt c i)
def sOf (c i : Int) : ByteArray := (fst (isAt c i)).v
def sSide (c i : Int) : Int := (fst (isAt c i)).s
def sNum (c i : Int) : Int := (fst (isAt c i)).r
def sAsks (c i : Int) : Int := (fst (isBy c i)).i
def sReps (c i : Int) : List Int := (List.range (sNum c i).toNat).map fun (k : Nat) => i + 1 + (k : Int)
def sCont (c i : Int) : Bool := c == 60 && (i == 40 || i == 50 || i == 60 || i == 71)

theorem mets_all {p : Met → Prop} {q : Met → Bool} (hq : ∀ m, q m = true → p m) (h : mets.all q = true) : ∀ m ∈ mets, p m := fun m hm => hq m (List.all_eq_true.1 h m hm)
theorem fst_mem {p : Met → Bool} {m : Met} (h : mets.find? p = some m) : fst p = m ∧ m ∈ mets ∧ p m = true := ⟨by rw [fst, h]; rfl, List.mem_of_find?_eq_some h, List.find?_some h⟩
theorem fst_none {p : Met → Bool} (h : mets.find? p = none) : fst p = noMet ∧ ∀ m ∈ mets, p m = false := ⟨by rw [fst, h]; rfl, fun m hm => by simpa using List.find?_eq_none.1 h m hm⟩
end Go.Proofs.YtmpfkommeakgbaaDoor
