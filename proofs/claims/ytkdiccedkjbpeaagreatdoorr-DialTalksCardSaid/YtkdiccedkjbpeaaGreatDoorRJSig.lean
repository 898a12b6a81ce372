/-
  Several texts joined in one file: each says at its own head, below, what it proves, and its conditions.
-/
import Derived.Test.YtkdiccedkjbpeaaGreatDoorRRows
/-
  The methods of the document's table, as plain mathematics: what is told of each class and id. No condition.
-/
namespace Go.Proofs.YtkdiccedkjbpeaaGreatDoorR

/-- a method: its class, id, signature, side, and how many replies it has -/
structure Met where
  c : Int
  i : Int
  v : ByteArray
  s : Int
  r : Int
def mets : List Met :=
  [⟨10, 10, ⟨#[111, 111, 84, 76, 76]⟩, 2, 1⟩,
   ⟨10, 11, ⟨#[84, 83, 76, 83]⟩, 1, 0⟩,
   ⟨10, 20, ⟨#[76]⟩, 2, 1⟩,
   ⟨10, 21, ⟨#[76]⟩, 1, 0⟩,
   ⟨10, 30, ⟨#[115, 108, 115]⟩, 2, 1⟩,
   ⟨10, 31, ⟨#[115, 108, 115]⟩, 1, 0⟩,
   ⟨10, 40, ⟨#[83, 83, 98]⟩, 1, 1⟩,
   ⟨10, 41, ⟨#[83]⟩, 2, 0⟩,
   ⟨10, 50, ⟨#[115, 83, 115, 115]⟩, 3, 1⟩,
   ⟨10, 51, ⟨#[]⟩, 3, 0⟩,
   ⟨10, 60, ⟨#[83]⟩, 2, 0⟩,
   ⟨10, 61, ⟨#[]⟩, 2, 0⟩,
   ⟨20, 10, ⟨#[83]⟩, 1, 1⟩,
   ⟨20, 11, ⟨#[76]⟩, 2, 0⟩,
   ⟨20, 20, ⟨#[98]⟩, 3, 1⟩,
   ⟨20, 21, ⟨#[98]⟩, 3, 0⟩,
   ⟨20, 40, ⟨#[115, 83, 115, 115]⟩, 3, 1⟩,
   ⟨20, 41, ⟨#[]⟩, 3, 0⟩,
   ⟨40, 10, ⟨#[115, 83, 83, 98, 98, 98, 98, 98, 84]⟩, 1, 1⟩,
   ⟨40, 11, ⟨#[]⟩, 2, 0⟩,
   ⟨40, 20, ⟨#[115, 83, 98, 98]⟩, 1, 1⟩,
   ⟨40, 21, ⟨#[]⟩, 2, 0⟩,
   ⟨50, 10, ⟨#[115, 83, 98, 98, 98, 98, 98, 84]⟩, 1, 1⟩,
   ⟨50, 11, ⟨#[83, 108, 108]⟩, 2, 0⟩,
   ⟨50, 20, ⟨#[115, 83, 83, 83, 98, 84]⟩, 1, 1⟩,
   ⟨50, 21, ⟨#[]⟩, 2, 0⟩,
   ⟨50, 30, ⟨#[115, 83, 98]⟩, 1, 1⟩,
   ⟨50, 31, ⟨#[108]⟩, 2, 0⟩,
   ⟨50, 40, ⟨#[115, 83, 98, 98, 98]⟩, 1, 1⟩,
   ⟨50, 41, ⟨#[108]⟩, 2, 0⟩,
   ⟨50, 50, ⟨#[115, 83, 83, 83, 84]⟩, 1, 1⟩,
   ⟨50, 51, ⟨#[]⟩, 2, 0⟩,
   ⟨60, 10, ⟨#[108, 115, 98]⟩, 1, 1⟩,
   ⟨60, 11, ⟨#[]⟩, 2, 0⟩,
   ⟨60, 20, ⟨#[115, 83, 83, 98, 98, 98, 98, 84]⟩, 1, 1⟩,
   ⟨60, 21, ⟨#[83]⟩, 2, 0⟩,
   ⟨60, 30, ⟨#[83, 98]⟩, 1, 1⟩,
   ⟨60, 31, ⟨#[83]⟩, 2, 0⟩,
   ⟨60, 40, ⟨#[115, 83, 83, 98, 98]⟩, 1, 0⟩,
   ⟨60, 50, ⟨#[115, 83, 83, 83]⟩, 2, 0⟩,
   ⟨60, 60, ⟨#[83, 113, 98, 83, 83]⟩, 2, 0⟩,
   ⟨60, 70, ⟨#[115, 83, 98]⟩, 1, 2⟩,
   ⟨60, 71, ⟨#[113, 98, 83, 83, 108]⟩, 2, 0⟩,
   ⟨60, 72, ⟨#[83]⟩, 2, 0⟩,
   ⟨60, 80, ⟨#[113, 98]⟩, 3, 0⟩,
   ⟨60, 90, ⟨#[113, 98]⟩, 1, 0⟩,
   ⟨60, 100, ⟨#[98]⟩, 1, 0⟩,
   ⟨60, 110, ⟨#[98]⟩, 1, 1⟩,
   ⟨60, 111, ⟨#[]⟩, 2, 0⟩,
   ⟨60, 120, ⟨#[113, 98, 98]⟩, 3, 0⟩,
   ⟨85, 10, ⟨#[98]⟩, 1, 1⟩,
   ⟨85, 11, ⟨#[]⟩, 2, 0⟩,
   ⟨90, 10, ⟨#[]⟩, 1, 1⟩,
   ⟨90, 11, ⟨#[]⟩, 2, 0⟩,
   ⟨90, 20, ⟨#[]⟩, 1, 1⟩,
   ⟨90, 21, ⟨#[]⟩, 2, 0⟩,
   ⟨90, 30, ⟨#[]⟩, 1, 1⟩,
   ⟨90, 31, ⟨#[]⟩, 2, 0⟩]
def noMet : Met := ⟨0, 0, ⟨#[]⟩, 0, 0⟩
def cellsMet (m : Met) : List Value := [.int .i64 m.c, .int .i64 m.i, .string m.v, .int .i64 m.s, .int .i64 m.r]
def encMet (m : Met) : Value := .agg #[.int .i64 m.c, .int .i64 m.i, .string m.v, .int .i64 m.s, .int .i64 m.r]
def rowMet (l : List Met) : List Value := l.flatMap cellsMet

/-- is it the one at that class and id; is it the one that is answered by it -/
def isAt (c i : Int) (m : Met) : Bool := m.c == c && m.i == i
def hitBy (c i : Int) (m : Met) (k : Nat) : Bool := m.c == c && m.i + 1 + (k : Int) == i
def isBy (c i : Int) (m : Met) : Bool := (List.range m.r.toNat).any (hitBy c i m)
def fst (p : Met → Bool) : Met := (mets.find? p).getD noMet
def sIs (c i : Int) : Bool := mets.any (isAt c i)
def sOf (c i : Int) : ByteArray := (fst (isAt c i)).v
def sSide (c i : Int) : Int := (fst (isAt c i)).s
def sNum (c i : Int) : Int := (fst (isAt c i)).r
def sAsks (c i : Int) : Int := (fst (isBy c i)).i
def sReps (c i : Int) : List Int := (List.range (sNum c i).toNat).map fun (k : Nat) => i + 1 + (k : Int)
def sCont (c i : Int) : Bool := c == 60 && (i == 40 || i == 50 || i == 60 || i == 71)

theorem mets_all {p : Met → Prop} {q : Met → Bool} (hq : ∀ m, q m = true → p m) (h : mets.all q = true) : ∀ m ∈ mets, p m := fun m hm => hq m (List.all_eq_true.1 h m hm)
theorem fst_mem {p : Met → Bool} {m : Met} (h : mets.find? p = some m) : fst p = m ∧ m ∈ mets ∧ p m = true := ⟨by rw [fst, h]; rfl, List.mem_of_find?_eq_some h, List.find?_some h⟩
theorem fst_none {p : Met → Bool} (h : mets.find? p = none) : fst p = noMet ∧ ∀ m ∈ mets, p m = false := ⟨by rw [fst, h]; rfl, fun m hm => by simpa using List.find?_eq_none.1 h m hm⟩
end Go.Proofs.YtkdiccedkjbpeaaGreatDoorR

/-
  The document's table as the text that it is given as: where its numbers, sides and signatures stand, and that they are those of the methods. No condition.
-/
namespace Go.Proofs.YtkdiccedkjbpeaaGreatDoorR

/-- the text -/
def refText : ByteArray := ⟨((([49, 48, 58, 49, 48, 83, 111, 111, 84, 76, 76, 44, 49, 49, 67, 84, 83, 76, 83, 44, 50, 48, 83, 76, 44, 50, 49, 67, 76, 44, 51, 48, 83, 115, 108, 115, 44, 51, 49, 67, 115, 108, 115, 44, 52, 48, 67, 83].append [83, 98, 44, 52, 49, 83, 83, 44, 53, 48, 66, 115, 83, 115, 115, 44, 53, 49, 66, 44, 54, 48, 83, 83, 44, 54, 49, 83, 59, 50, 48, 58, 49, 48, 67, 83, 44, 49, 49, 83, 76, 44, 50, 48, 66, 98, 44, 50]).append ([49, 66, 98, 44, 52, 48, 66, 115, 83, 115, 115, 44, 52, 49, 66, 59, 52, 48, 58, 49, 48, 67, 115, 83, 83, 98, 98, 98, 98, 98, 84, 44, 49, 49, 83, 44, 50, 48, 67, 115, 83, 98, 98, 44, 50, 49, 83, 59].append [53, 48, 58, 49, 48, 67, 115, 83, 98, 98, 98, 98, 98, 84, 44, 49, 49, 83, 83, 108, 108, 44, 50, 48, 67, 115, 83, 83, 83, 98, 84, 44, 50, 49, 83, 44, 51, 48, 67, 115, 83, 98, 44, 51, 49, 83, 108, 44])).append (([52, 48, 67, 115, 83, 98, 98, 98, 44, 52, 49, 83, 108, 44, 53, 48, 67, 115, 83, 83, 83, 84, 44, 53, 49, 83, 59, 54, 48, 58, 49, 48, 67, 108, 115, 98, 44, 49, 49, 83, 44, 50, 48, 67, 115, 83, 83, 98].append [98, 98, 98, 84, 44, 50, 49, 83, 83, 44, 51, 48, 67, 83, 98, 44, 51, 49, 83, 83, 44, 52, 48, 67, 115, 83, 83, 98, 98, 44, 53, 48, 83, 115, 83, 83, 83, 44, 54, 48, 83, 83, 113, 98, 83, 83, 44, 55]).append ([48, 67, 115, 83, 98, 44, 55, 49, 83, 113, 98, 83, 83, 108, 44, 55, 50, 83, 83, 44, 56, 48, 66, 113, 98, 44, 57, 48, 67, 113, 98, 44, 49, 48, 48, 67, 98, 44, 49, 49, 48, 67, 98, 44, 49, 49, 49, 83].append [44, 49, 50, 48, 66, 113, 98, 98, 59, 56, 53, 58, 49, 48, 67, 98, 44, 49, 49, 83, 59, 57, 48, 58, 49, 48, 67, 44, 49, 49, 83, 44, 50, 48, 67, 44, 50, 49, 83, 44, 51, 48, 67, 44, 51, 49, 83, 59]))).toArray⟩
def refB (j : Nat) : UInt8 := refText.data.toList.getD j 0
def refI (j : Nat) : Int := ((refB j).toNat : Int)
/-- a number with a class behind it, or a method: where its number begins, where that ends, where all of it ends; the class and the number of methods ahead of it; is it a class -/
structure RTok where
  p : Nat
  q : Nat
  e : Nat
  c : Int
  r : Nat
  cl : Bool
def rtoks : List RTok := [⟨0, 2, 2, 0, 0, true⟩, ⟨3, 5, 11, 10, 0, false⟩, ⟨12, 14, 19, 10, 1, false⟩, ⟨20, 22, 24, 10, 2, false⟩, ⟨25, 27, 29, 10, 3, false⟩, ⟨30, 32, 36, 10, 4, false⟩, ⟨37, 39, 43, 10, 5, false⟩, ⟨44, 46, 50, 10, 6, false⟩, ⟨51, 53, 55, 10, 7, false⟩, ⟨56, 58, 63, 10, 8, false⟩, ⟨64, 66, 67, 10, 9, false⟩, ⟨68, 70, 72, 10, 10, false⟩, ⟨73, 75, 76, 10, 11, false⟩, ⟨77, 79, 79, 10, 12, true⟩, ⟨80, 82, 84, 20, 12, false⟩, ⟨85, 87, 89, 20, 13, false⟩, ⟨90, 92, 94, 20, 14, false⟩, ⟨95, 97, 99, 20, 15, false⟩, ⟨100, 102, 107, 20, 16, false⟩, ⟨108, 110, 111, 20, 17, false⟩, ⟨112, 114, 114, 20, 18, true⟩, ⟨115, 117, 127, 40, 18, false⟩, ⟨128, 130, 131, 40, 19, false⟩, ⟨132, 134, 139, 40, 20, false⟩, ⟨140, 142, 143, 40, 21, false⟩, ⟨144, 146, 146, 40, 22, true⟩, ⟨147, 149, 158, 50, 22, false⟩, ⟨159, 161, 165, 50, 23, false⟩, ⟨166, 168, 175, 50, 24, false⟩, ⟨176, 178, 179, 50, 25, false⟩, ⟨180, 182, 186, 50, 26, false⟩, ⟨187, 189, 191, 50, 27, false⟩, ⟨192, 194, 200, 50, 28, false⟩, ⟨201, 203, 205, 50, 29, false⟩, ⟨206, 208, 214, 50, 30, false⟩, ⟨215, 217, 218, 50, 31, false⟩, ⟨219, 221, 221, 50, 32, true⟩, ⟨222, 224, 228, 60, 32, false⟩, ⟨229, 231, 232, 60, 33, false⟩, ⟨233, 235, 244, 60, 34, false⟩, ⟨245, 247, 249, 60, 35, false⟩, ⟨250, 252, 255, 60, 36, false⟩, ⟨256, 258, 260, 60, 37, false⟩, ⟨261, 263, 269, 60, 38, false⟩, ⟨270, 272, 277, 60, 39, false⟩, ⟨278, 280, 286, 60, 40, false⟩, ⟨287, 289, 293, 60, 41, false⟩, ⟨294, 296, 302, 60, 42, false⟩, ⟨303, 305, 307, 60, 43, false⟩, ⟨308, 310, 313, 60, 44, false⟩, ⟨314, 316, 319, 60, 45, false⟩, ⟨320, 323, 325, 60, 46, false⟩, ⟨326, 329, 331, 60, 47, false⟩, ⟨332, 335, 336, 60, 48, false⟩, ⟨337, 340, 344, 60, 49, false⟩, ⟨345, 347, 347, 60, 50, true⟩, ⟨348, 350, 352, 85, 50, false⟩, ⟨353, 355, 356, 85, 51, false⟩, ⟨357, 359, 359, 85, 52, true⟩, ⟨360, 362, 363, 90, 52, false⟩, ⟨364, 366, 367, 90, 53, false⟩, ⟨368, 370, 371, 90, 54, false⟩, ⟨372, 374, 375, 90, 55, false⟩, ⟨376, 378, 379, 90, 56, false⟩, ⟨380, 382, 383, 90, 57, false⟩, ⟨384, 384, 384, 90, 58, true⟩]
/-- the number that stands in the k bytes from p on -/
def valTo (p : Nat) : Nat → Int
  | 0 => 0
  | k + 1 => 10 * valTo p k + (refI (p + k) - 48)
def sigTo (q k : Nat) : ByteArray := ⟨((refText.data.toList.drop (q + 1)).take k).toArray⟩
def sideI (s : Int) : Int := if s = 1 then 67 else if s = 2 then 83 else 66

def RStep (t u : RTok) : Prop :=
  (t.p ≤ t.q ∧ t.q < 384) ∧ (∀ k, k < t.q - t.p → 48 ≤ refI (t.p + k) ∧ refI (t.p + k) ≤ 57 ∧ 0 ≤ valTo t.p k ∧ valTo t.p k ≤ 10000) ∧ 57 < refI t.q ∧
  (t.cl = true → refI t.q = 58 ∧ u.p = t.q + 1 ∧ u.c = valTo t.p (t.q - t.p) ∧ u.r = t.r) ∧
  (t.cl = false → refI t.q ≠ 58 ∧ t.q < t.e ∧ t.e < 384 ∧ (∀ k, k < t.e - (t.q + 1) → refI (t.q + 1 + k) ≠ 44 ∧ refI (t.q + 1 + k) ≠ 59) ∧ (refI t.e = 44 ∨ refI t.e = 59) ∧
    u.p = t.e + 1 ∧ u.c = t.c ∧ u.r = t.r + 1 ∧ t.r < 58 ∧ (mets.getD t.r noMet).c = t.c ∧ (mets.getD t.r noMet).i = valTo t.p (t.q - t.p) ∧ sideI (mets.getD t.r noMet).s = refI t.q ∧ (mets.getD t.r noMet).v = sigTo t.q (t.e - (t.q + 1)))
instance (t u : RTok) : Decidable (RStep t u) := by unfold RStep; infer_instance
def rsteps : List (RTok × RTok) := rtoks.zip rtoks.tail
theorem rsteps_ok : ∀ x ∈ rsteps, RStep x.1 x.2 := by decide +kernel
theorem rtoks_length : rtoks.length = 66 := by decide
theorem rtoks_first : rtoks[0]? = some ⟨0, 2, 2, 0, 0, true⟩ := by rfl
theorem rtoks_last : rtoks[65]? = some ⟨384, 384, 384, 90, 58, true⟩ := by rfl
theorem rstep_at (j : Nat) (h : j < 65) : RStep (rtoks[j]'(by rw [rtoks_length]; omega)) (rtoks[j + 1]'(by rw [rtoks_length]; omega)) := by
  have hl : j < rsteps.length := by simp [rsteps, rtoks_length]; exact h
  have := rsteps_ok rsteps[j] (List.getElem_mem hl)
  simpa [rsteps] using this
theorem refText_size : refText.size = 384 := by kernel_rfl
theorem ba_at (T : ByteArray) (k : Nat) (h : k < T.size) : T[k] = T.data.toList.getD k 0 := by
  show T.data[k] = _
  rw [List.getD_eq_getElem?_getD, Array.getElem?_toList, Array.getElem?_eq_getElem h]
  rfl
theorem refText_at (k : Nat) (h : k < refText.size) : refText[k] = refB k := ba_at refText k h
theorem refI_le (k : Nat) : 0 ≤ refI k ∧ refI k ≤ 255 := by
  unfold refI
  have := (refB k).toNat_lt
  omega
theorem list_next (l : List UInt8) (q k : Nat) (h : q + 1 + k < l.length) : (⟨((l.drop (q + 1)).take (k + 1)).toArray⟩ : ByteArray) = ⟨((l.drop (q + 1)).take k).toArray⟩ ++ ⟨#[l.getD (q + 1 + k) 0]⟩ := by
  have e : (l.drop (q + 1))[k]? = some (l.getD (q + 1 + k) 0) := by
    rw [List.getElem?_drop, List.getD_eq_getElem?_getD, List.getElem?_eq_getElem h]
    rfl
  apply ByteArray.ext
  apply Array.ext'
  simp only [ByteArray.data_append, Array.toList_append]
  rw [List.take_add_one, e]
  rfl
theorem refText_length : refText.data.toList.length = 384 := by kernel_rfl
theorem sigTo_succ (q k : Nat) (h : q + 1 + k < 384) : sigTo q (k + 1) = sigTo q k ++ ⟨#[refB (q + 1 + k)]⟩ := list_next refText.data.toList q k (by rw [refText_length]; exact h)
theorem list_some (l : List UInt8) (k : Nat) : (⟨(l.take k).toArray⟩ : ByteArray).size ≤ k := by
  show (l.take k).toArray.size ≤ k
  simp
  omega
theorem sigTo_size (q k : Nat) : (sigTo q k).size ≤ k := list_some _ k
end Go.Proofs.YtkdiccedkjbpeaaGreatDoorR
