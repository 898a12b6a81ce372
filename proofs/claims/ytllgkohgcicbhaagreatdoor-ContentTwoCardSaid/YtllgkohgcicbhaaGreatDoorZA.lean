/-
  Several texts joined in one file: each says at its own head, below, what it proves, and its conditions.
-/
import Derived.Laws.BytesArg
import Derived.Laws.Strings
import Derived.Laws.BitsAllLaws
import Derived.Below
import Derived.WalkSmall
import Derived.Lib.Strings
import Derived.Test.YtllgkohgcicbhaaGreatDoorRows
import Derived.Laws.AppendOwn
import Derived.Laws.ResultCell
import Derived.RangeFuncNested
import Derived.RangeFuncBound
import Derived.RangeFuncCalls
import Derived.RangeFuncLeaves
import Derived.Deep.Onto
import Derived.Laws.AppendOwnNone
import Derived.Maps.AppendAt
import Derived.Deep.MidRow
/-
  Plain mathematics of numbers as bytes: what num.Put lays and num.Take takes, over lists of bytes. No condition.
-/
namespace Go.Proofs.YtllgkohgcicbhaaGreatDoor

/-- the last n bytes of v, the highest first -/
def putL : Nat → Nat → List UInt8
  | 0, _ => []
  | n + 1, v => putL n (v / 256) ++ [UInt8.ofNat v]
def putS (n v : Nat) : ByteArray := ⟨(putL n v).toArray⟩

theorem putL_length (n v : Nat) : (putL n v).length = n := by
  induction n generalizing v with
  | zero => rfl
  | succ n ih => simp [putL, ih]
theorem putS_size (n v : Nat) : (putS n v).size = n := by
  simp [putS, ByteArray.size, putL_length]
theorem putS_list (n v : Nat) : (putS n v).data.toList = putL n v := rfl

/-- the number of bytes, the highest first -/
def takeL (l : List UInt8) : Nat := l.foldl (fun a b => a * 256 + b.toNat) 0

theorem takeL_snoc (l : List UInt8) (b : UInt8) : takeL (l ++ [b]) = takeL l * 256 + b.toNat := by
  simp [takeL]
theorem takeL_lt (l : List UInt8) : takeL l < 256 ^ l.length := by
  suffices h : ∀ n (l : List UInt8), l.length = n → takeL l < 256 ^ n by exact h _ l rfl
  intro n
  induction n with
  | zero => intro l hl; have : l = [] := List.eq_nil_of_length_eq_zero hl; subst this; simp [takeL]
  | succ n ih =>
    intro l hl
    obtain ⟨l', b, rfl⟩ : ∃ l' b, l = l' ++ [b] := by
      have hne : l ≠ [] := by intro h; simp [h] at hl
      exact ⟨l.dropLast, l.getLast hne, (List.dropLast_concat_getLast hne).symm⟩
    have h1 := ih l' (by simpa using hl)
    have h2 := b.toNat_lt
    rw [takeL_snoc, Nat.pow_succ]
    omega
theorem take_put (n v : Nat) (h : v < 256 ^ n) : takeL (putL n v) = v := by
  induction n generalizing v with
  | zero => simp at h; subst h; rfl
  | succ n ih =>
    rw [Nat.pow_succ] at h
    rw [putL, takeL_snoc, ih (v / 256) (by omega)]
    simp
    omega
theorem put_take (l : List UInt8) : putL l.length (takeL l) = l := by
  suffices h : ∀ n (l : List UInt8), l.length = n → putL n (takeL l) = l by exact h _ l rfl
  intro n
  induction n with
  | zero => intro l hl; have : l = [] := List.eq_nil_of_length_eq_zero hl; subst this; rfl
  | succ n ih =>
    intro l hl
    obtain ⟨l', b, rfl⟩ : ∃ l' b, l = l' ++ [b] := by
      have hne : l ≠ [] := by intro h; simp [h] at hl
      exact ⟨l.dropLast, l.getLast hne, (List.dropLast_concat_getLast hne).symm⟩
    have h2 := b.toNat_lt
    rw [takeL_snoc, putL, show (takeL l' * 256 + b.toNat) / 256 = takeL l' by omega, ih l' (by simpa using hl)]
    congr 2
    apply UInt8.toNat_inj.1
    simp
theorem byte_eq {a : Int} {b : Nat} (h : a.toNat % 256 = b % 256) : UInt8.ofNat a.toNat = UInt8.ofNat b := by
  apply UInt8.toNat_inj.1
  simpa using h
theorem arr1 {a0 b0 : UInt8} (h0 : a0 = b0) : (⟨#[a0]⟩ : ByteArray) = ⟨#[b0]⟩ := by
  subst h0; rfl
theorem arr2 {a0 a1 b0 b1 : UInt8} (h0 : a0 = b0) (h1 : a1 = b1) : (⟨#[a0, a1]⟩ : ByteArray) = ⟨#[b0, b1]⟩ := by
  subst h0 h1; rfl
theorem arr4 {a0 a1 a2 a3 b0 b1 b2 b3 : UInt8} (h0 : a0 = b0) (h1 : a1 = b1) (h2 : a2 = b2) (h3 : a3 = b3) : (⟨#[a0, a1, a2, a3]⟩ : ByteArray) = ⟨#[b0, b1, b2, b3]⟩ := by
  subst h0 h1 h2 h3; rfl
theorem arr8 {a0 a1 a2 a3 a4 a5 a6 a7 b0 b1 b2 b3 b4 b5 b6 b7 : UInt8} (h0 : a0 = b0) (h1 : a1 = b1) (h2 : a2 = b2) (h3 : a3 = b3) (h4 : a4 = b4) (h5 : a5 = b5) (h6 : a6 = b6) (h7 : a7 = b7) : (⟨#[a0, a1, a2, a3, a4, a5, a6, a7]⟩ : ByteArray) = ⟨#[b0, b1, b2, b3, b4, b5, b6, b7]⟩ := by
  subst h0 h1 h2 h3 h4 h5 h6 h7; rfl
theorem putL_cons (n v : Nat) : putL (n + 1) v = UInt8.ofNat (v / 256 ^ n) :: putL n v := by
  induction n generalizing v with
  | zero => simp [putL]
  | succ n ih =>
    rw [putL, ih (v / 256), putL, Nat.div_div_eq_div_mul, Nat.pow_succ, Nat.mul_comm (256 ^ n) 256]
    rfl
theorem putS_cons (n v : Nat) : (⟨#[UInt8.ofNat (v / 256 ^ n)]⟩ : ByteArray) ++ putS n v = putS (n + 1) v := by
  apply ByteArray.ext
  rw [ByteArray.data_append]
  simp [putS, putL_cons]
theorem takeL_cons (a : UInt8) (l : List UInt8) : takeL (a :: l) = a.toNat * 256 ^ l.length + takeL l := by
  suffices h : ∀ n (l : List UInt8), l.length = n → takeL (a :: l) = a.toNat * 256 ^ n + takeL l by exact h _ l rfl
  intro n
  induction n with
  | zero => intro l hl; have : l = [] := List.eq_nil_of_length_eq_zero hl; subst this; simp [takeL]
  | succ n ih =>
    intro l hl
    obtain ⟨l', b, rfl⟩ : ∃ l' b, l = l' ++ [b] := by
      have hne : l ≠ [] := by intro h; simp [h] at hl
      exact ⟨l.dropLast, l.getLast hne, (List.dropLast_concat_getLast hne).symm⟩
    rw [← List.cons_append, takeL_snoc, takeL_snoc, ih l' (by simpa using hl), Nat.pow_succ, Nat.add_mul, Nat.mul_assoc]
    omega
/-- of as many bytes the later ones are the greater number's -/
theorem less_take : ∀ l m : List UInt8, l.length = m.length → Op.bytesLess l m = decide (takeL l < takeL m)
  | [], [], _ => by simp [Op.bytesLess]
  | [], _ :: _, h => by simp at h
  | _ :: _, [], h => by simp at h
  | a :: l, b :: m, h => by
    have hl : l.length = m.length := by simpa using h
    have ih := less_take l m hl
    have t1 := takeL_lt l
    have t2 := takeL_lt m
    rw [Op.bytesLess, ih, takeL_cons, takeL_cons, hl]
    rw [hl] at t1
    generalize takeL l = x at *
    generalize takeL m = y at *
    generalize 256 ^ m.length = q at *
    rw [Bool.eq_iff_iff]
    simp only [Bool.or_eq_true, decide_eq_true_eq, Bool.and_eq_true, beq_iff_eq, UInt8.lt_iff_toNat_lt]
    rcases Nat.lt_trichotomy a.toNat b.toNat with k | k | k
    · have : (a.toNat + 1) * q ≤ b.toNat * q := Nat.mul_le_mul_right q k
      rw [Nat.add_mul] at this
      constructor
      · intro _; omega
      · intro _; exact Or.inl k
    · have e : a = b := UInt8.toNat_inj.1 k
      subst e
      constructor
      · rintro (h | ⟨_, h⟩) <;> omega
      · intro h; exact Or.inr ⟨rfl, by omega⟩
    · have : (b.toNat + 1) * q ≤ a.toNat * q := Nat.mul_le_mul_right q k
      rw [Nat.add_mul] at this
      constructor
      · rintro (h | ⟨h, _⟩)
        · omega
        · subst h; omega
      · intro h; omega
theorem less_put (n v u : Nat) (hv : v < 256 ^ n) (hu : u < 256 ^ n) : Op.bytesLess (putS n v).toList (putS n u).toList = decide (v < u) := by
  rw [ByteArray.toList_eq, ByteArray.toList_eq, putS_list, putS_list, less_take _ _ (by rw [putL_length, putL_length]), take_put n v hv, take_put n u hu]
theorem same_put (n v u : Nat) (hv : v < 256 ^ n) (hu : u < 256 ^ n) : ((putS n v).toList == (putS n u).toList) = decide (v = u) := by
  rw [ByteArray.toList_eq, ByteArray.toList_eq, putS_list, putS_list, Bool.eq_iff_iff]
  simp only [beq_iff_eq, decide_eq_true_eq]
  constructor
  · intro h
    rw [← take_put n v hv, h, take_put n u hu]
  · intro h; rw [h]
end Go.Proofs.YtllgkohgcicbhaaGreatDoor

/-
  Plain mathematics of bits in bytes: what num.Bits lays. No condition.
-/
namespace Go.Proofs.YtllgkohgcicbhaaGreatDoor

/-- eight bits, the first one the lowest -/
def oct (f : Nat → Bool) : Nat :=
  (f 0).toNat + 2 * (f 1).toNat + 4 * (f 2).toNat + 8 * (f 3).toNat + 16 * (f 4).toNat + 32 * (f 5).toNat + 64 * (f 6).toNat + 128 * (f 7).toNat
/-- byte j, of the first k bits -/
def bitK (l : List Bool) (k j : Nat) : Nat := oct fun i => decide (8 * j + i < k) && l.getD (8 * j + i) false
def bitsL (l : List Bool) : List UInt8 := (List.range ((l.length + 7) / 8)).map fun j => UInt8.ofNat (bitK l l.length j)
def bitsS (l : List Bool) : ByteArray := ⟨(bitsL l).toArray⟩

theorem oct_lt (f : Nat → Bool) : oct f < 256 := by
  have h : ∀ b : Bool, b.toNat ≤ 1 := fun b => by cases b <;> simp
  have := h (f 0); have := h (f 1); have := h (f 2); have := h (f 3); have := h (f 4); have := h (f 5); have := h (f 6); have := h (f 7)
  unfold oct; omega
theorem bitK_lt (l : List Bool) (k j : Nat) : bitK l k j < 256 := oct_lt _
theorem bitK_zero (l : List Bool) (j : Nat) : bitK l 0 j = 0 := by simp [bitK, oct]
/-- a byte beyond the bits is not touched -/
theorem bitK_far (l : List Bool) (k j : Nat) (h : k / 8 ≠ j) : bitK l (k + 1) j = bitK l k j := by
  have e : ∀ i, i < 8 → decide (8 * j + i < k + 1) = decide (8 * j + i < k) := fun i hi => by simp; omega
  unfold bitK oct
  simp only [e 0 (by omega), e 1 (by omega), e 2 (by omega), e 3 (by omega), e 4 (by omega), e 5 (by omega), e 6 (by omega), e 7 (by omega)]
theorem bitK_off (l : List Bool) (k j : Nat) (h : l.getD k false = false) : bitK l (k + 1) j = bitK l k j := by
  by_cases hj : k / 8 = j
  · have e : ∀ i, (decide (8 * j + i < k + 1) && l.getD (8 * j + i) false) = (decide (8 * j + i < k) && l.getD (8 * j + i) false) := fun i => by
      by_cases hi : 8 * j + i = k
      · rw [hi, h]; simp
      · have : decide (8 * j + i < k + 1) = decide (8 * j + i < k) := by simp; omega
        rw [this]
    unfold bitK
    simp only [e]
  · exact bitK_far l k j hj
theorem oct_low (f : Nat → Bool) (m : Nat) (hm : m < 8) (z : ∀ i, m ≤ i → f i = false) : oct f < 2 ^ m := by
  have h : ∀ b : Bool, b.toNat ≤ 1 := fun b => by cases b <;> simp
  have := h (f 0); have := h (f 1); have := h (f 2); have := h (f 3); have := h (f 4); have := h (f 5); have := h (f 6)
  unfold oct
  match m, hm with
  | 0, _ => simp [z]
  | 1, _ => simp [z 1, z 2, z 3, z 4, z 5, z 6, z 7]; omega
  | 2, _ => simp [z 2, z 3, z 4, z 5, z 6, z 7]; omega
  | 3, _ => simp [z 3, z 4, z 5, z 6, z 7]; omega
  | 4, _ => simp [z 4, z 5, z 6, z 7]; omega
  | 5, _ => simp [z 5, z 6, z 7]; omega
  | 6, _ => simp [z 6, z 7]; omega
  | 7, _ => simp [z 7]; omega
theorem oct_on (f g : Nat → Bool) (m : Nat) (hm : m < 8) (e : ∀ i, i ≠ m → f i = g i) (e1 : f m = true) (e0 : g m = false) : oct f = oct g + 2 ^ m := by
  unfold oct
  match m, hm with
  | 0, _ => rw [e1, e0, e 1 (by omega), e 2 (by omega), e 3 (by omega), e 4 (by omega), e 5 (by omega), e 6 (by omega), e 7 (by omega)]; simp; omega
  | 1, _ => rw [e1, e0, e 0 (by omega), e 2 (by omega), e 3 (by omega), e 4 (by omega), e 5 (by omega), e 6 (by omega), e 7 (by omega)]; simp; omega
  | 2, _ => rw [e1, e0, e 1 (by omega), e 0 (by omega), e 3 (by omega), e 4 (by omega), e 5 (by omega), e 6 (by omega), e 7 (by omega)]; simp; omega
  | 3, _ => rw [e1, e0, e 1 (by omega), e 2 (by omega), e 0 (by omega), e 4 (by omega), e 5 (by omega), e 6 (by omega), e 7 (by omega)]; simp; omega
  | 4, _ => rw [e1, e0, e 1 (by omega), e 2 (by omega), e 3 (by omega), e 0 (by omega), e 5 (by omega), e 6 (by omega), e 7 (by omega)]; simp; omega
  | 5, _ => rw [e1, e0, e 1 (by omega), e 2 (by omega), e 3 (by omega), e 4 (by omega), e 0 (by omega), e 6 (by omega), e 7 (by omega)]; simp; omega
  | 6, _ => rw [e1, e0, e 1 (by omega), e 2 (by omega), e 3 (by omega), e 4 (by omega), e 5 (by omega), e 0 (by omega), e 7 (by omega)]; simp; omega
  | 7, _ => rw [e1, e0, e 1 (by omega), e 2 (by omega), e 3 (by omega), e 4 (by omega), e 5 (by omega), e 6 (by omega), e 0 (by omega)]; simp
theorem bitK_low (l : List Bool) (k : Nat) : bitK l k (k / 8) < 2 ^ (k % 8) := by
  refine oct_low _ _ (Nat.mod_lt _ (by omega)) fun i hi => ?_
  have : ¬ 8 * (k / 8) + i < k := by omega
  simp [this]
theorem bitK_on (l : List Bool) (k : Nat) (h : l.getD k false = true) : bitK l (k + 1) (k / 8) = bitK l k (k / 8) + 2 ^ (k % 8) := by
  refine oct_on _ _ _ (Nat.mod_lt _ (by omega)) (fun i hi => ?_) ?_ ?_
  · have : decide (8 * (k / 8) + i < k + 1) = decide (8 * (k / 8) + i < k) := by simp; omega
    rw [this]
  · rw [show 8 * (k / 8) + k % 8 = k by omega, h]; simp
  · rw [show 8 * (k / 8) + k % 8 = k by omega]; simp
theorem or_bit (l : List Bool) (k : Nat) (h : l.getD k false = true) :
    bits .or .u8 (bitK l k (k / 8) : Int) (2 ^ (k % 8) % 256) = (bitK l (k + 1) (k / 8) : Int) := by
  have hm : k % 8 < 8 := Nat.mod_lt _ (by omega)
  have hp : 2 ^ (k % 8) < 256 := Nat.pow_lt_pow_right (a := 2) (n := 8) (by omega) hm
  have hc : ((2 : Int) ^ (k % 8) % 256) = ((2 ^ (k % 8) : Nat) : Int) := by
    have e : ((2 ^ (k % 8) : Nat) : Int) = (2 : Int) ^ (k % 8) := by rw [Int.natCast_pow]; rfl
    rw [← e]; clear e; generalize 2 ^ (k % 8) = q at hp ⊢; omega
  rw [hc, u8_or_nat _ _ (bitK_lt _ _ _) hp, Nat.or_comm, nat_join (k % 8) (2 ^ (k % 8)) _ (Nat.mod_self _) (bitK_low l k), bitK_on l k h]
  omega
end Go.Proofs.YtllgkohgcicbhaaGreatDoor

/-
  Plain facts of memory: a block that is known whole, and a slice of bools that reads as a list. No condition.
-/
namespace Go.Proofs.YtllgkohgcicbhaaGreatDoor
open Go.RowKit

/-- block g is just these cells, none of them frozen -/
def Box (w : World) (g : Nat) (t : TypeId) (cs : Array Value) : Prop := w.heap[g]? = some (.cells cs t (0, 0))

theorem Box.cell {w : World} {g : Nat} {t : TypeId} {cs : Array Value} (h : Box w g t cs) (i : Nat) : w.cell? ⟨g, i, none⟩ = cs[i]? := by
  unfold Box at h; simp [World.cell?, h]
theorem Box.free {w : World} {g : Nat} {t : TypeId} {cs : Array Value} (h : Box w g t cs) (i : Nat) : w.frozen? ⟨g, i, none⟩ = false := by
  unfold Box at h; simp [World.frozen?, h]
theorem Box.lt {w : World} {g : Nat} {t : TypeId} {cs : Array Value} (h : Box w g t cs) : g < w.heap.size := by
  unfold Box at h
  rcases Nat.lt_or_ge g w.heap.size with k | k
  · exact k
  · rw [Array.getElem?_eq_none k] at h; cases h
theorem Box.set {w : World} {g : Nat} {t : TypeId} {cs : Array Value} (h : Box w g t cs) (i : Nat) (u : Value) : Box (w.setCell ⟨g, i, none⟩ u) g t (cs.setIfInBounds i u) := by
  unfold Box at h ⊢; simp [World.setCell, Array.getElem?_modify, h]
theorem Box.apart {w : World} {g : Nat} {t : TypeId} {cs : Array Value} (h : Box w g t cs) {p : Addr} (hp : g ≠ p.block) (u : Value) : Box (w.setCell p u) g t cs :=
  (Below.heap_setCell w p u g hp).trans h
theorem Box.drew {w : World} {g : Nat} {t : TypeId} {cs : Array Value} (h : Box w g t cs) : Box w.drew g t cs := h
theorem Box.drewN {w : World} {g : Nat} {t : TypeId} {cs : Array Value} (h : Box w g t cs) (n : Nat) : Box (w.drewN n) g t cs := h
theorem Box.alloc {w : World} {g : Nat} {t : TypeId} {cs : Array Value} (h : Box w g t cs) (o : Obj) : Box (w.alloc o) g t cs :=
  (Below.heap_alloc w o g h.lt).trans h
theorem Box.below {w w' : World} {B g : Nat} {t : TypeId} {cs : Array Value} (h : Box w g t cs) (hb : Below B w w') (hg : g < B) : Box w' g t cs :=
  (hb.block g hg).trans h
theorem Box.new (w : World) (t : TypeId) (cs : Array Value) : Box (w.alloc (.cells cs t)) w.heap.size t cs := by
  unfold Box; show (w.heap.push _)[w.heap.size]? = _; simp
theorem Box.at_ {w : World} {g g' : Nat} {t : TypeId} {cs : Array Value} (h : Box w g t cs) (e : g = g') : Box w g' t cs := e ▸ h

/-- the slice '.slice A (l.length) _' reads as the bools l, and lies in old memory -/
def BoolsAt (w : World) (A : Option Addr) (l : List Bool) : Prop :=
  0 < l.length → ∃ b off, A = some ⟨b, off, none⟩ ∧ b < w.heap.size ∧ ∀ i (h : i < l.length), w.cell? ⟨b, off + i, none⟩ = some (.bool (l[i]'h))

theorem BoolsAt.below {w w' : World} {A : Option Addr} {l : List Bool} (h : BoolsAt w A l) (hb : Below w.heap.size w w') : BoolsAt w' A l := fun h0 => by
  obtain ⟨b, off, hA, hlt, hc⟩ := h h0
  exact ⟨b, off, hA, Nat.lt_of_lt_of_le hlt hb.size, fun i hi => (hb.cell (p := ⟨b, off + i, none⟩) hlt).trans (hc i hi)⟩
end Go.Proofs.YtllgkohgcicbhaaGreatDoor

/-
  Plain mathematics of taking bits: what num.TakeBits answers. No condition.
-/
namespace Go.Proofs.YtllgkohgcicbhaaGreatDoor

/-- byte j of a text, 0 beyond it -/
def byteAt (s : ByteArray) (j : Nat) : Nat := (s.data.toList.getD j 0).toNat
/-- bit i of a text, the first one the lowest of its byte -/
def bitAt (s : ByteArray) (i : Nat) : Bool := byteAt s (i / 8) / 2 ^ (i % 8) % 2 == 1
def bitsOf (s : ByteArray) (n : Nat) : List Bool := (List.range n).map (bitAt s)
/-- the bits of the last byte that aren't used are 0 -/
def tidy (s : ByteArray) (n : Nat) : Bool := n % 8 == 0 || byteAt s (n / 8) / 2 ^ (n % 8) == 0
/-- why not, the bits, and the rest -/
def tbE (s : ByteArray) (n : Int) : Int :=
  if n < 0 then 1 else if 64 < n then 1 else if (s.size : Int) < (n + 7) / 8 then 2 else if tidy s n.toNat = true then 0 else 3
def tbL (s : ByteArray) (n : Int) : List Bool := if tbE s n = 0 then bitsOf s n.toNat else []
def tbR (s : ByteArray) (n : Int) : ByteArray := if tbE s n = 0 then s.extract ((n.toNat + 7) / 8) s.size else ⟨#[]⟩

theorem byteAt_get (s : ByteArray) (j : Nat) (h : j < s.size) : byteAt s j = (s[j]'h).toNat := by
  unfold byteAt
  have hl : j < s.data.toList.length := by simpa using h
  rw [List.getD, List.getElem?_eq_getElem hl]
  rfl
theorem byteAt_lt (s : ByteArray) (j : Nat) : byteAt s j < 256 := UInt8.toNat_lt _
theorem bitsOf_length (s : ByteArray) (n : Nat) : (bitsOf s n).length = n := by simp [bitsOf]
theorem int_div_pow (x m : Nat) : ((x : Int) / 2 ^ m) = ((x / 2 ^ m : Nat) : Int) := by
  rw [Int.natCast_ediv, Int.natCast_pow]; rfl
/-- bit k, as Go tells it -/
theorem bit_go (s : ByteArray) (k : Nat) (h : k / 8 < s.size) :
    (bits .and .u8 (((s[k / 8]'h).toNat : Int) / 2 ^ (k % 8)) 1 == 1) = bitAt s k := by
  have hb := byteAt_lt s (k / 8)
  have hd : byteAt s (k / 8) / 2 ^ (k % 8) ≤ byteAt s (k / 8) := Nat.div_le_self _ _
  rw [← byteAt_get s _ h, int_div_pow]
  unfold bitAt
  generalize byteAt s (k / 8) / 2 ^ (k % 8) = y at hd ⊢
  have e := u8_and_nat y 1 (by omega) (by omega)
  rw [nat_mask1] at e
  rw [show (1 : Int) = ((1 : Nat) : Int) from rfl, e, Bool.eq_iff_iff]
  simp only [beq_iff_eq]
  omega
theorem tidy_go (s : ByteArray) (k : Nat) (h : k / 8 < s.size) (h8 : k % 8 ≠ 0) :
    ((((s[k / 8]'h).toNat : Int) / 2 ^ (k % 8)) != 0) = !tidy s k := by
  rw [← byteAt_get s _ h, int_div_pow]
  unfold tidy
  generalize byteAt s (k / 8) / 2 ^ (k % 8) = y
  have h8' : (k % 8 == 0) = false := by simpa using h8
  rw [h8', Bool.false_or, Bool.eq_iff_iff]
  simp
theorem bitsOf_succ (s : ByteArray) (n : Nat) : bitsOf s (n + 1) = bitsOf s n ++ [bitAt s n] := by
  simp [bitsOf, List.range_succ]
theorem bitAt_in (s : ByteArray) (i m : Nat) (h : m < 8) : bitAt s (8 * i + m) = (byteAt s i / 2 ^ m % 2 == 1) := by
  unfold bitAt
  rw [show (8 * i + m) / 8 = i by omega, show (8 * i + m) % 8 = m by omega]
theorem half_pow (x m : Nat) : x / 2 ^ m / 2 = x / 2 ^ (m + 1) := by
  rw [Nat.div_div_eq_div_mul, Nat.pow_succ]
/-- a bit beyond is set: not tidy -/
theorem tidy_no (s : ByteArray) (n i m : Nat) (hm : m < 8) (hi : i < (n + 7) / 8) (hn : n ≤ 8 * i + m) (hb : byteAt s i / 2 ^ m % 2 = 1) : tidy s n = false := by
  have e : i = n / 8 := by omega
  subst e
  have h8 : n % 8 ≠ 0 := by omega
  have hle : n % 8 ≤ m := by omega
  have h1 : byteAt s (n / 8) / 2 ^ (n % 8) ≠ 0 := by
    intro h
    have h2 : byteAt s (n / 8) / 2 ^ m ≤ byteAt s (n / 8) / 2 ^ (n % 8) := Nat.div_le_div_left (Nat.pow_le_pow_right (by omega) hle) (Nat.pow_pos (by omega))
    rw [h] at h2
    rw [Nat.le_zero.1 h2] at hb
    simp at hb
  simp [tidy, h8]
  have := h1
  rw [Ne, Nat.div_eq_zero_iff] at this
  have hp : 2 ^ (n % 8) ≠ 0 := Nat.ne_of_gt (Nat.pow_pos (by omega))
  omega
theorem zero_of_bits (x : Nat) : ∀ d, x < 2 ^ d → (∀ t, t < d → x / 2 ^ t % 2 = 0) → x = 0
  | 0, h, _ => by simpa using h
  | d + 1, h, hb => by
    have h0 := hb 0 (by omega)
    have ih := zero_of_bits (x / 2) d (by rw [Nat.pow_succ] at h; omega) (fun t ht => by
      have := hb (t + 1) (by omega)
      rw [Nat.pow_succ, Nat.mul_comm, ← Nat.div_div_eq_div_mul] at this
      exact this)
    simp at h0
    omega
/-- no bit beyond is set: tidy -/
theorem tidy_yes (s : ByteArray) (n : Nat) (h : ∀ t, t < 8 → n ≤ 8 * (n / 8) + t → byteAt s (n / 8) / 2 ^ t % 2 = 0) : tidy s n = true := by
  by_cases h8 : n % 8 = 0
  · simp [tidy, h8]
  have hx := byteAt_lt s (n / 8)
  have hz : byteAt s (n / 8) / 2 ^ (n % 8) = 0 := by
    refine zero_of_bits _ (8 - n % 8) ?_ (fun t ht => ?_)
    · apply Nat.div_lt_of_lt_mul
      rw [← Nat.pow_add, show n % 8 + (8 - n % 8) = 8 by omega]
      exact hx
    · rw [Nat.div_div_eq_div_mul, ← Nat.pow_add]
      exact h _ (by omega) (by omega)
  simp only [tidy, hz]
  simp
end Go.Proofs.YtllgkohgcicbhaaGreatDoor

/-
  Bits that were put are taken, and what is taken is put as it was: plain facts on what num.Bits and num.TakeBits answer. No condition.
-/
namespace Go.Proofs.YtllgkohgcicbhaaGreatDoor

theorem bitsS_data (l : List Bool) : (bitsS l).data.toList = bitsL l := rfl
theorem bitsL_length (l : List Bool) : (bitsL l).length = (l.length + 7) / 8 := by simp [bitsL]
theorem bytes_append (a b : ByteArray) : (a ++ b).data.toList = a.data.toList ++ b.data.toList := by rw [ByteArray.data_append, Array.toList_append]
theorem bytes_ext {a b : ByteArray} (h : a.data.toList = b.data.toList) : a = b := ByteArray.ext (Array.toList_inj.1 h)
theorem bytes_len (a : ByteArray) : a.data.toList.length = a.size := by simp
theorem bitsS_len (l : List Bool) : (bitsS l).size = (l.length + 7) / 8 := by rw [← bytes_len, bitsS_data, bitsL_length]

/-- bit i of eight -/
theorem oct_bit (f : Nat → Bool) (i : Nat) (h : i < 8) : (oct f / 2 ^ i % 2 == 1) = f i := by
  have b : ∀ b : Bool, b.toNat ≤ 1 := fun b => by cases b <;> simp
  have e : ∀ b : Bool, (b.toNat == 1) = b := fun b => by cases b <;> rfl
  have := b (f 0); have := b (f 1); have := b (f 2); have := b (f 3); have := b (f 4); have := b (f 5); have := b (f 6); have := b (f 7)
  rw [show oct f / 2 ^ i % 2 = (f i).toNat from ?_, e]
  unfold oct
  match i, h with
  | 0, _ => simp only [Nat.pow_zero, Nat.div_one]; omega
  | 1, _ => simp only [Nat.pow_one]; omega
  | 2, _ => simp only [show (2 : Nat) ^ 2 = 4 from rfl]; omega
  | 3, _ => simp only [show (2 : Nat) ^ 3 = 8 from rfl]; omega
  | 4, _ => simp only [show (2 : Nat) ^ 4 = 16 from rfl]; omega
  | 5, _ => simp only [show (2 : Nat) ^ 5 = 32 from rfl]; omega
  | 6, _ => simp only [show (2 : Nat) ^ 6 = 64 from rfl]; omega
  | 7, _ => simp only [show (2 : Nat) ^ 7 = 128 from rfl]; omega
theorem oct_ext {f g : Nat → Bool} (h : ∀ i, i < 8 → f i = g i) : oct f = oct g := by
  unfold oct
  rw [h 0 (by omega), h 1 (by omega), h 2 (by omega), h 3 (by omega), h 4 (by omega), h 5 (by omega), h 6 (by omega), h 7 (by omega)]
/-- eight bits of a byte are the byte -/
theorem oct_byte (x : Nat) (h : x < 256) : oct (fun i => x / 2 ^ i % 2 == 1) = x := by
  have e : ∀ n : Nat, (n % 2 == 1).toNat = n % 2 := fun n => by
    rcases Nat.mod_two_eq_zero_or_one n with h | h <;> simp [h]
  unfold oct
  simp only [e, Nat.pow_zero, Nat.div_one, Nat.pow_one, show (2 : Nat) ^ 2 = 4 from rfl, show (2 : Nat) ^ 3 = 8 from rfl, show (2 : Nat) ^ 4 = 16 from rfl, show (2 : Nat) ^ 5 = 32 from rfl, show (2 : Nat) ^ 6 = 64 from rfl, show (2 : Nat) ^ 7 = 128 from rfl]
  omega

theorem byteAt_bits (l : List Bool) (more : ByteArray) (j : Nat) (h : j < (l.length + 7) / 8) : byteAt (bitsS l ++ more) j = bitK l l.length j := by
  unfold byteAt
  rw [bytes_append, bitsS_data, List.getD, List.getElem?_append_left (by rw [bitsL_length]; exact h)]
  simp only [bitsL, List.getElem?_map, List.getElem?_range h, Option.map_some, Option.getD_some]
  have := bitK_lt l l.length j
  simp
  omega
theorem bitAt_bits (l : List Bool) (more : ByteArray) (i : Nat) (h : i < l.length) : bitAt (bitsS l ++ more) i = l.getD i false := by
  unfold bitAt
  rw [byteAt_bits l more _ (by omega), bitK, oct_bit _ _ (Nat.mod_lt _ (by omega)), show 8 * (i / 8) + i % 8 = i by omega, decide_eq_true h, Bool.true_and]
theorem bitsOf_bits (l : List Bool) (more : ByteArray) : bitsOf (bitsS l ++ more) l.length = l := by
  apply List.ext_getElem
  · rw [bitsOf_length]
  · intro i h1 h2
    simp only [bitsOf, List.getElem_map, List.getElem_range]
    rw [bitAt_bits l more i h2]
    simp [List.getD, h2]
theorem tidy_bits (l : List Bool) (more : ByteArray) : tidy (bitsS l ++ more) l.length = true := by
  by_cases h8 : l.length % 8 = 0
  · simp [tidy, h8]
  refine tidy_yes _ _ (fun t ht hn => ?_)
  have hj : l.length / 8 < (l.length + 7) / 8 := by omega
  rw [byteAt_bits l more _ hj, bitK]
  have := oct_bit (fun i => decide (8 * (l.length / 8) + i < l.length) && l.getD (8 * (l.length / 8) + i) false) t ht
  rw [show (decide (8 * (l.length / 8) + t < l.length) && l.getD (8 * (l.length / 8) + t) false) = false by simp; omega] at this
  have h2 := Nat.mod_two_eq_zero_or_one (oct (fun i => decide (8 * (l.length / 8) + i < l.length) && l.getD (8 * (l.length / 8) + i) false) / 2 ^ t)
  rcases h2 with h2 | h2
  · exact h2
  · rw [h2] at this; simp at this
theorem tbE_bits (l : List Bool) (more : ByteArray) (h : l.length ≤ 64) : tbE (bitsS l ++ more) l.length = 0 := by
  have hs : (bitsS l ++ more).size = (bitsS l).size + more.size := ByteArray.size_append
  have hl := bitsS_len l
  unfold tbE
  rw [if_neg (by omega), if_neg (by omega), if_neg (by omega), Int.toNat_natCast, if_pos (tidy_bits l more)]
theorem tbL_bits (l : List Bool) (more : ByteArray) (h : l.length ≤ 64) : tbL (bitsS l ++ more) l.length = l := by
  rw [tbL, if_pos (tbE_bits l more h), Int.toNat_natCast, bitsOf_bits]
theorem tbR_bits (l : List Bool) (more : ByteArray) (h : l.length ≤ 64) : tbR (bitsS l ++ more) l.length = more := by
  rw [tbR, if_pos (tbE_bits l more h), Int.toNat_natCast]
  apply bytes_ext
  have hs : (bitsS l ++ more).size = (bitsS l).size + more.size := ByteArray.size_append
  rw [Lib.extract_data, bytes_append, bitsS_data, List.drop_append_of_le_length (by rw [bitsL_length]; exact Nat.le_refl _), List.drop_of_length_le (by rw [bitsL_length]; exact Nat.le_refl _), List.nil_append]
  apply List.take_of_length_le
  rw [bytes_len, hs, bitsS_len]
  omega

/-- of what was taken: why it was -/
theorem tbE_parts {s : ByteArray} {n : Int} (h : tbE s n = 0) : ∃ k : Nat, n = k ∧ k ≤ 64 ∧ (k + 7) / 8 ≤ s.size ∧ tidy s k = true := by
  unfold tbE at h
  by_cases h0 : n < 0
  · rw [if_pos h0] at h; omega
  rw [if_neg h0] at h
  by_cases h1 : 64 < n
  · rw [if_pos h1] at h; omega
  rw [if_neg h1] at h
  obtain ⟨k, rfl⟩ := Int.eq_ofNat_of_zero_le (show 0 ≤ n by omega)
  by_cases h2 : (s.size : Int) < ((k : Int) + 7) / 8
  · rw [if_pos h2] at h; omega
  rw [if_neg h2, Int.toNat_natCast] at h
  cases ht : tidy s k
  · rw [ht] at h; simp at h
  · exact ⟨k, rfl, by omega, by omega, ht⟩
theorem bits_back {s : ByteArray} {k : Nat} (hs : (k + 7) / 8 ≤ s.size) (ht : tidy s k = true) : bitsS (bitsOf s k) ++ s.extract ((k + 7) / 8) s.size = s := by
  apply bytes_ext
  have hl := bytes_len s
  rw [bytes_append, bitsS_data, Lib.extract_data, List.take_of_length_le (l := s.data.toList.drop ((k + 7) / 8)) (by rw [List.length_drop]; omega)]
  have e : bitsL (bitsOf s k) = s.data.toList.take ((k + 7) / 8) := by
    apply List.ext_getElem
    · rw [bitsL_length, bitsOf_length, List.length_take]; omega
    · intro j h1 h2
      have hj : j < (k + 7) / 8 := by rw [bitsL_length, bitsOf_length] at h1; exact h1
      simp only [bitsL, List.getElem_map, List.getElem_range, List.getElem_take]
      rw [bitsOf_length]
      have hb : bitK (bitsOf s k) k j = byteAt s j := by
        rw [← oct_byte (byteAt s j) (byteAt_lt s j)]
        unfold bitK
        apply oct_ext
        intro i hi
        by_cases hin : 8 * j + i < k
        · rw [decide_eq_true hin, Bool.true_and, List.getD]
          simp only [bitsOf, List.getElem?_map, List.getElem?_range hin, Option.map_some, Option.getD_some]
          exact bitAt_in s j i hi
        · rw [decide_eq_false hin, Bool.false_and]
          cases hx : (byteAt s j / 2 ^ i % 2 == 1)
          · rfl
          · rw [tidy_no s k j i hi hj (by omega) (by simpa using hx)] at ht
            cases ht
      rw [hb, byteAt_get s j (by omega)]
      apply UInt8.toNat_inj.1
      simp
      rfl
  rw [e]
  exact List.take_append_drop _ _
end Go.Proofs.YtllgkohgcicbhaaGreatDoor

/-
  A struct of three or four cells in a block of its own: what is read there, what a store leaves there, and that it stays. No condition.
-/
namespace Go.Proofs.YtllgkohgcicbhaaGreatDoor
open Go.RowKit

/-- the block B holds just these cells -/
def Bx (W : World) (B : Nat) (t : TypeId) (l : List Value) : Prop := W.heap[B]? = some (.cells l.toArray t (0, 0))
theorem Bx.lt {W : World} {B : Nat} {t : TypeId} {l : List Value} (h : Bx W B t l) : B < W.heap.size := (Array.getElem?_eq_some_iff.1 h).1
theorem Bx.cell {W : World} {B : Nat} {t : TypeId} {l : List Value} (h : Bx W B t l) (i : Nat) (hi : i < l.length) : W.cell? ⟨B, i, none⟩ = some l[i] := by
  simp [World.cell?, show W.heap[B]? = _ from h, hi]
theorem Bx.frozen {W : World} {B : Nat} {t : TypeId} {l : List Value} (h : Bx W B t l) (i : Nat) : W.frozen? ⟨B, i, none⟩ = false := by
  simp [World.frozen?, show W.heap[B]? = _ from h]
theorem Bx.new (W : World) (t : TypeId) (l : List Value) : Bx (W.alloc (.cells l.toArray t)) W.heap.size t l := heap_alloc_new W _
theorem Bx.below {W W' : World} {n B : Nat} {t : TypeId} {l : List Value} (h : Bx W B t l) (hb : Below n W W') (hn : B < n) : Bx W' B t l := (hb.block B hn).trans h
theorem Bx.kept {W W' : World} {B : Nat} {t : TypeId} {l : List Value} (h : Bx W B t l) (hb : Below W.heap.size W W') : Bx W' B t l := h.below hb h.lt
theorem Bx.alloc {W : World} {B : Nat} {t : TypeId} {l : List Value} (h : Bx W B t l) (o : Obj) : Bx (W.alloc o) B t l := h.kept ((Below.refl _ _).alloc (Nat.le_refl _) _)
theorem Bx.set {W : World} {B : Nat} {t : TypeId} {l : List Value} (h : Bx W B t l) (i : Nat) (v : Value) : Bx (W.setCell ⟨B, i, none⟩ v) B t (l.set i v) := by
  obtain ⟨hlt, hk⟩ := Array.getElem?_eq_some_iff.1 h
  show (W.heap.modify B _)[B]? = _
  rw [Array.getElem?_eq_getElem (by rw [Array.size_modify]; exact hlt), Array.getElem_modify_self, hk]
  simp
theorem Bx.other {W : World} {B B' : Nat} {t : TypeId} {l : List Value} (h : Bx W B t l) (hne : B' ≠ B) (i : Nat) (v : Value) : Bx (W.setCell ⟨B', i, none⟩ v) B t l := by
  show (W.heap.modify B' _)[B]? = _
  rw [Array.getElem?_modify, if_neg hne]
  exact h
/-- what a store of a whole struct asks for, cell by cell -/
theorem Bx.store3 {W : World} {B : Nat} {t : TypeId} {a b c : Value} (h : Bx W B t [a, b, c]) (a' b' c' : Value) :
    W.cell? ⟨B, 0, none⟩ = some a ∧ W.frozen? ⟨B, 0, none⟩ = false ∧
    (W.setCell ⟨B, 0, none⟩ a').cell? ⟨B, 1, none⟩ = some b ∧ (W.setCell ⟨B, 0, none⟩ a').frozen? ⟨B, 1, none⟩ = false ∧
    ((W.setCell ⟨B, 0, none⟩ a').setCell ⟨B, 1, none⟩ b').cell? ⟨B, 2, none⟩ = some c ∧ ((W.setCell ⟨B, 0, none⟩ a').setCell ⟨B, 1, none⟩ b').frozen? ⟨B, 2, none⟩ = false ∧
    Bx (((W.setCell ⟨B, 0, none⟩ a').setCell ⟨B, 1, none⟩ b').setCell ⟨B, 2, none⟩ c') B t [a', b', c'] :=
  ⟨h.cell 0 (by simp), h.frozen 0, (h.set 0 a').cell 1 (by simp), (h.set 0 a').frozen 1, ((h.set 0 a').set 1 b').cell 2 (by simp), ((h.set 0 a').set 1 b').frozen 2, ((h.set 0 a').set 1 b').set 2 c'⟩
theorem below_store3 {n B : Nat} {w W : World} (h : Below n w W) (hn : n ≤ B) (a b c : Value) : Below n w (((W.setCell ⟨B, 0, none⟩ a).setCell ⟨B, 1, none⟩ b).setCell ⟨B, 2, none⟩ c) :=
  ((h.setCell (p := ⟨B, 0, none⟩) hn a).setCell (p := ⟨B, 1, none⟩) hn b).setCell (p := ⟨B, 2, none⟩) hn c
theorem Bx.store5 {W : World} {B : Nat} {t : TypeId} {a b c d e : Value} (h : Bx W B t [a, b, c, d, e]) (a' b' c' d' e' : Value) :
    W.cell? ⟨B, 0, none⟩ = some a ∧ W.frozen? ⟨B, 0, none⟩ = false ∧
    (W.setCell ⟨B, 0, none⟩ a').cell? ⟨B, 1, none⟩ = some b ∧ (W.setCell ⟨B, 0, none⟩ a').frozen? ⟨B, 1, none⟩ = false ∧
    ((W.setCell ⟨B, 0, none⟩ a').setCell ⟨B, 1, none⟩ b').cell? ⟨B, 2, none⟩ = some c ∧ ((W.setCell ⟨B, 0, none⟩ a').setCell ⟨B, 1, none⟩ b').frozen? ⟨B, 2, none⟩ = false ∧
    (((W.setCell ⟨B, 0, none⟩ a').setCell ⟨B, 1, none⟩ b').setCell ⟨B, 2, none⟩ c').cell? ⟨B, 3, none⟩ = some d ∧ (((W.setCell ⟨B, 0, none⟩ a').setCell ⟨B, 1, none⟩ b').setCell ⟨B, 2, none⟩ c').frozen? ⟨B, 3, none⟩ = false ∧
    ((((W.setCell ⟨B, 0, none⟩ a').setCell ⟨B, 1, none⟩ b').setCell ⟨B, 2, none⟩ c').setCell ⟨B, 3, none⟩ d').cell? ⟨B, 4, none⟩ = some e ∧ ((((W.setCell ⟨B, 0, none⟩ a').setCell ⟨B, 1, none⟩ b').setCell ⟨B, 2, none⟩ c').setCell ⟨B, 3, none⟩ d').frozen? ⟨B, 4, none⟩ = false ∧
    Bx (((((W.setCell ⟨B, 0, none⟩ a').setCell ⟨B, 1, none⟩ b').setCell ⟨B, 2, none⟩ c').setCell ⟨B, 3, none⟩ d').setCell ⟨B, 4, none⟩ e') B t [a', b', c', d', e'] :=
  ⟨h.cell 0 (by simp), h.frozen 0, (h.set 0 a').cell 1 (by simp), (h.set 0 a').frozen 1, ((h.set 0 a').set 1 b').cell 2 (by simp), ((h.set 0 a').set 1 b').frozen 2, (((h.set 0 a').set 1 b').set 2 c').cell 3 (by simp), (((h.set 0 a').set 1 b').set 2 c').frozen 3, ((((h.set 0 a').set 1 b').set 2 c').set 3 d').cell 4 (by simp), ((((h.set 0 a').set 1 b').set 2 c').set 3 d').frozen 4, ((((h.set 0 a').set 1 b').set 2 c').set 3 d').set 4 e'⟩
theorem below_store5 {n B : Nat} {w W : World} (h : Below n w W) (hn : n ≤ B) (a' b' c' d' e' : Value) : Below n w (((((W.setCell ⟨B, 0, none⟩ a').setCell ⟨B, 1, none⟩ b').setCell ⟨B, 2, none⟩ c').setCell ⟨B, 3, none⟩ d').setCell ⟨B, 4, none⟩ e') :=
  ((((h.setCell (p := ⟨B, 0, none⟩) hn a').setCell (p := ⟨B, 1, none⟩) hn b').setCell (p := ⟨B, 2, none⟩) hn c').setCell (p := ⟨B, 3, none⟩) hn d').setCell (p := ⟨B, 4, none⟩) hn e'
end Go.Proofs.YtllgkohgcicbhaaGreatDoor

/-
  A struct of two cells in a block of its own: what a store of the whole leaves there. No condition.
-/
namespace Go.Proofs.YtllgkohgcicbhaaGreatDoor
open Go.RowKit

theorem Bx.store2 {W : World} {B : Nat} {t : TypeId} {a b : Value} (h : Bx W B t [a, b]) (a' b' : Value) :
    W.cell? ⟨B, 0, none⟩ = some a ∧ W.frozen? ⟨B, 0, none⟩ = false ∧
    (W.setCell ⟨B, 0, none⟩ a').cell? ⟨B, 1, none⟩ = some b ∧ (W.setCell ⟨B, 0, none⟩ a').frozen? ⟨B, 1, none⟩ = false ∧
    Bx ((W.setCell ⟨B, 0, none⟩ a').setCell ⟨B, 1, none⟩ b') B t [a', b'] :=
  ⟨h.cell 0 (by simp), h.frozen 0, (h.set 0 a').cell 1 (by simp), (h.set 0 a').frozen 1, (h.set 0 a').set 1 b'⟩
theorem below_store2 {n B : Nat} {w W : World} (h : Below n w W) (hn : n ≤ B) (a b : Value) : Below n w ((W.setCell ⟨B, 0, none⟩ a).setCell ⟨B, 1, none⟩ b) :=
  (h.setCell (p := ⟨B, 0, none⟩) hn a).setCell (p := ⟨B, 1, none⟩) hn b
end Go.Proofs.YtllgkohgcicbhaaGreatDoor

/-
  Boxes of one cell: what they hold stays, whatever is made and whatever else is written; a function's results where some of them lie in cells. No condition.
-/
namespace Go.Proofs.YtllgkohgcicbhaaGreatDoor
open Go.RowKit

theorem boxed_below {w W : World} {n B : Nat} {t : TypeId} {v : Value} (h : Boxed w B t v) (hb : Below n w W) (hn : B < n) : Boxed W B t v := (hb.block B hn).trans h
theorem boxed_putObj {W : World} {l B : Nat} {t : TypeId} {o : Obj} (o' : Obj) (h : W.heap[l]? = some o) (hc : o.isCells = false) {v : Value} (hv : Boxed W B t v) : Boxed (W.putObj l o') B t v :=
  hv.kept (grownBy_putObj' W l o') (fun e => by
    obtain rfl : B = l := by simpa using e
    rw [show W.heap[B]? = _ from hv] at h
    cases h
    cases hc)
theorem grown_of_below {a b : World} (h : Below a.heap.size a b) (row : Option Nat) : a.grownBy b row := ⟨h.os, h.tape, h.output, h.size, fun k hk _ => h.block k hk⟩
theorem boxed_grown {A A' : World} {row : Option Nat} {n B : Nat} {t : TypeId} {v : Value} (h : Boxed A B t v) (hg : A.grownBy A' row) (hr : ∀ r, row = some r → n ≤ r ∧ ∃ o : Obj, A.heap[r]? = some o ∧ o.isCells = false) : Boxed A' B t v :=
  h.kept hg (fun e => by obtain ⟨-, o, ho, hc⟩ := hr B e.symm; rw [show A.heap[B]? = _ from h] at ho; cases ho; cases hc)
theorem below_grown {A A' w : World} {row : Option Nat} {n N : Nat} (h : Below n w A) (hn : n ≤ w.heap.size) (hN : n ≤ N) (hg : A.grownBy A' row) (hr : ∀ r, row = some r → N ≤ r ∧ ∃ o : Obj, A.heap[r]? = some o ∧ o.isCells = false) : Below n w A' :=
  h.grown hg (Nat.le_trans hn h.size) (fun k e => Nat.le_trans hN (hr k e).1)
theorem boxed_put {W : World} {D B : Nat} {t : TypeId} {v : Value} {o : Obj} (o' : Obj) (h : Boxed W B t v) (hK : W.heap[D]? = some o) (hc : o.isCells = false) : (W.putObj D o').cell? ⟨B, 0, none⟩ = some v := (boxed_putObj o' hK hc h).cell
theorem results_ctt {fn : Func} {p t u : Tmp} {ty : TypeId} (h : fn.results = #[.cell p ty, .tmp t, .tmp u]) (tmps : Array Value) (P : Program) (w : World) :
    (results fn tmps).run P w =
      ((asAddr (tmps.getD p undef)).run P w).andThen fun a w₁ => ((loadVar ty a).run P w₁).andThen fun v w₂ => .ok (.tuple #[v, tmps.getD t undef, tmps.getD u undef]) w₂ := by
  simp only [results, h]
  simp [Sem.run_bind, Result.andThen]
theorem results_ccc {fn : Func} {p q r : Tmp} {tp tq tr : TypeId} (h : fn.results = #[.cell p tp, .cell q tq, .cell r tr]) (tmps : Array Value) (P : Program) (w : World) :
    (results fn tmps).run P w =
      ((asAddr (tmps.getD p undef)).run P w).andThen fun a w₁ => ((loadVar tp a).run P w₁).andThen fun u w₂ => ((asAddr (tmps.getD q undef)).run P w₂).andThen fun b w₃ => ((loadVar tq b).run P w₃).andThen fun v w₄ => ((asAddr (tmps.getD r undef)).run P w₄).andThen fun c w₅ => ((loadVar tr c).run P w₅).andThen fun x w₆ => .ok (.tuple #[u, v, x]) w₆ := by
  simp only [results, h]
  simp [Sem.run_bind, Result.andThen]
theorem results_cttt {fn : Func} {p t u x : Tmp} {ty : TypeId} (h : fn.results = #[.cell p ty, .tmp t, .tmp u, .tmp x]) (tmps : Array Value) (P : Program) (w : World) :
    (results fn tmps).run P w =
      ((asAddr (tmps.getD p undef)).run P w).andThen fun a w₁ => ((loadVar ty a).run P w₁).andThen fun v w₂ => .ok (.tuple #[v, tmps.getD t undef, tmps.getD u undef, tmps.getD x undef]) w₂ := by
  simp only [results, h]
  simp [Sem.run_bind, Result.andThen]
end Go.Proofs.YtllgkohgcicbhaaGreatDoor

/-
  Rows of texts in memory: what a slice reads as, and that it stays so. No condition.
-/
namespace Go.Proofs.YtllgkohgcicbhaaGreatDoor
open Go.RowKit

/-- the slice '.slice A (l.length) _' reads as the values l, and lies in old memory -/
def ValsAt (w : World) (A : Option Addr) (l : List Value) : Prop :=
  0 < l.length → ∃ b off, A = some ⟨b, off, none⟩ ∧ b < w.heap.size ∧ ∀ i (h : i < l.length), w.cell? ⟨b, off + i, none⟩ = some (l[i]'h)

theorem ValsAt.below {w w' : World} {A : Option Addr} {l : List Value} (h : ValsAt w A l) (hb : Below w.heap.size w w') : ValsAt w' A l := fun h0 => by
  obtain ⟨b, off, hA, hlt, hc⟩ := h h0
  exact ⟨b, off, hA, Nat.lt_of_lt_of_le hlt hb.size, fun i hi => (hb.cell (p := ⟨b, off + i, none⟩) hlt).trans (hc i hi)⟩
theorem vals_of_row {w : World} {base : Nat} {e : TypeId} {v : Value} {l : List Value} {n : Nat} (h : w.ownsRow base e 1 v n l) : ∃ A c, v = .slice A n c ∧ ValsAt w A l := by
  obtain ⟨hlen, ⟨rfl, h0⟩ | ⟨g, cap, cur, rfl, hg, hb, hn, hc, hs, ht⟩⟩ := h
  · exact ⟨none, 0, by rw [h0], fun h => by omega⟩
  · refine ⟨_, cap, rfl, fun _ => ⟨g, 0, rfl, (Array.getElem?_eq_some_iff.1 hb).1, fun i hi => ?_⟩⟩
    have e1 : w.cell? ⟨g, 0 + i, none⟩ = cur[i]? := by simp [World.cell?, hb]
    rw [e1]
    have h2 : (List.take (n * 1) cur.toList)[i]? = some l[i] := by rw [ht]; exact List.getElem?_eq_getElem hi
    rw [List.getElem?_take] at h2
    split at h2
    · rw [← h2, Array.getElem?_toList]
    · cases h2
end Go.Proofs.YtllgkohgcicbhaaGreatDoor

/-
  A row of one's own that grows: nothing that was there is changed, and it stays while other things are made. No condition.
-/
namespace Go.Proofs.YtllgkohgcicbhaaGreatDoor
open Go.RowKit

theorem rowBelow {w wr w1 : World} {base : Nat} {e : TypeId} {size : Nat} {v : Value} {n : Nat} {xs : List Value} {tmp : Obj} (hn : base ≤ w.heap.size) (hrow : wr.ownsRow base e size v n xs) (hb : Below base w wr) (hg : (wr.alloc tmp).grownBy w1 v.ownBlock) : Below base w w1 :=
  (hb.alloc (Nat.le_trans hn hb.size) tmp).grown hg (by have := hb.size; simp; omega) (fun j ej => by
    rcases hrow.2 with ⟨rfl, _⟩ | ⟨g, cap, cur, rfl, hbg, _, _⟩
    · simp [Value.ownBlock] at ej
    · obtain rfl : g = j := by simpa [Value.ownBlock] using ej
      exact hbg)
theorem rowKept {W W' : World} {b : Nat} {e : TypeId} {size : Nat} {v : Value} {k : Nat} {xs : List Value} (h : W.ownsRow b e size v k xs) (hb : Below W.heap.size W W') : W'.ownsRow b e size v k xs :=
  h.kept (grown_of_below hb none) (by cases hv : v.ownBlock <;> simp)
/-- what a row of structs reads as, cell by cell -/
theorem vals_row {w : World} {base : Nat} {e : TypeId} {size : Nat} {v : Value} {l : List Value} {n : Nat} (h : w.ownsRow base e size v n l) : ∃ A c, v = .slice A n c ∧ ValsAt w A l ∧ l.length = n * size := by
  obtain ⟨hlen, ⟨rfl, h0⟩ | ⟨g, cap, cur, rfl, hg, hb, hn, hc, hs, ht⟩⟩ := h
  · exact ⟨none, 0, by rw [h0], fun h => by rw [hlen, h0] at h; omega, hlen⟩
  · refine ⟨_, cap, rfl, fun _ => ⟨g, 0, rfl, (Array.getElem?_eq_some_iff.1 hb).1, fun i hi => ?_⟩, hlen⟩
    have e1 : w.cell? ⟨g, 0 + i, none⟩ = cur[i]? := by simp [World.cell?, hb]
    rw [e1]
    have h2 : (List.take (n * size) cur.toList)[i]? = some l[i] := by rw [ht]; exact List.getElem?_eq_getElem hi
    rw [List.getElem?_take] at h2
    split at h2
    · rw [← h2, Array.getElem?_toList]
    · cases h2
/-- numbers as a row's values -/
def intVals (l : List Int) : List Value := l.map (Value.int .i64)
theorem intVals_snoc (l : List Int) (k : Int) : intVals (l ++ [k]) = intVals l ++ [.int .i64 k] := by simp [intVals]
end Go.Proofs.YtllgkohgcicbhaaGreatDoor

/-
  What stays by its type: blocks of other types than those that a call writes. No condition.
-/
namespace Go.Proofs.YtllgkohgcicbhaaGreatDoor
open Go.RowKit

/-- every block that is no row of cells, or one of a type of which p holds, is as it was -/
def Keeps (p : TypeId → Bool) (w w' : World) : Prop := ∀ (g : Nat) (o : Obj), w.heap[g]? = some o → (∀ cs t fz, o = .cells cs t fz → p t = true) → w'.heap[g]? = some o
theorem Keeps.refl (p : TypeId → Bool) (w : World) : Keeps p w w := fun _ _ h _ => h
theorem Keeps.trans {p : TypeId → Bool} {a b c : World} (h : Keeps p a b) (h' : Keeps p b c) : Keeps p a c := fun g o hg ho => h' g o (h g o hg ho) ho
theorem Keeps.below {p : TypeId → Bool} {w w' : World} (h : Below w.heap.size w w') : Keeps p w w' := fun g _ hg _ => (h.block g (Array.getElem?_eq_some_iff.1 hg).1).trans hg
theorem Keeps.setCell {p : TypeId → Bool} {w : World} {b : Nat} {cs : Array Value} {t : TypeId} {fz : Nat × Nat} (hb : w.heap[b]? = some (.cells cs t fz)) (hp : p t = false) (i : Nat) (v : Value) : Keeps p w (w.setCell ⟨b, i, none⟩ v) := fun g o hg ho => by
  have hne : g ≠ b := fun e => by
    subst e
    rw [hb] at hg
    have := ho cs t fz (Option.some.inj hg).symm
    rw [hp] at this
    cases this
  exact (Below.heap_setCell w ⟨b, i, none⟩ v g hne).trans hg
theorem Keeps.grown {p : TypeId → Bool} {w w' : World} {base : Nat} {e : TypeId} {size : Nat} {v : Value} {n : Nat} {xs : List Value} (hrow : w.ownsRow base e size v n xs) (hg : w.grownBy w' v.ownBlock) (hp : p e = false) : Keeps p w w' := fun g o hgo ho => by
  refine (hg.block g (Array.getElem?_eq_some_iff.1 hgo).1 (fun ej => ?_)).trans hgo
  rcases hrow.2 with ⟨rfl, _⟩ | ⟨g', cap, cur, rfl, -, hb, -, -⟩
  · simp [Value.ownBlock] at ej
  · obtain rfl : g' = g := by simpa [Value.ownBlock] using ej.symm
    rw [hb] at hgo
    have := ho cur e (0, 0) (Option.some.inj hgo).symm
    rw [hp] at this
    cases this
theorem Keeps.bx {p : TypeId → Bool} {w w' : World} (h : Keeps p w w') {B : Nat} {t : TypeId} {l : List Value} (hB : Bx w B t l) (hp : p t = true) : Bx w' B t l := h B _ hB (fun _ _ _ e => by cases e; exact hp)
theorem Keeps.boxed {p : TypeId → Bool} {w w' : World} (h : Keeps p w w') {B : Nat} {t : TypeId} {v : Value} (hB : Boxed w B t v) (hp : p t = true) : Boxed w' B t v := h B _ hB (fun _ _ _ e => by cases e; exact hp)
theorem Keeps.row {p : TypeId → Bool} {w w' : World} (h : Keeps p w w') {base : Nat} {e : TypeId} {size : Nat} {v : Value} {n : Nat} {xs : List Value} (hrow : w.ownsRow base e size v n xs) (hp : p e = true) : w'.ownsRow base e size v n xs := by
  refine ⟨hrow.1, ?_⟩
  rcases hrow.2 with h0 | ⟨g, cap, cur, hv, hg, hb, hr⟩
  · exact .inl h0
  · exact .inr ⟨g, cap, cur, hv, hg, h g _ hb (fun _ _ _ e => by cases e; exact hp), hr⟩
end Go.Proofs.YtllgkohgcicbhaaGreatDoor

/-
  append of a row of structs that came in, nil or not, to a row of one's own. No condition.
-/
namespace Go.Proofs.YtllgkohgcicbhaaGreatDoor
open Go.RowKit

theorem wpList_append_row {P : Program} {w : World} {ops : Array Oper} {rest : List Oper} {o : Oper} {a : Act} {Q : Exit → Act → World → Prop} (hgd : o.guard = none) (s x : Operand) (t : TypeId)
    (ho : o.op = .call { callee := .builtin .append, args := #[s, x], argTypes := #[t, t] })
    (base : Nat) (e : TypeId) (i : TypeInfo) (z : Value) (size bytes : Nat) (ht : P.underlying t = some (.slice e)) (hi : P.info? e = some i) (hz : i.zero = some z)
    (hsize : i.size = size) (hby : i.bytes = bytes) (hzs : z.cells.size = size) (hsz : 0 < size)
    (v : Value) (n : Nat) (xs : List Value) (hs : a.eval s = v) (hown : w.ownsRow base e size v n xs)
    (A : Option Addr) (m c : Nat) (news : List Value) (hx : a.eval x = .slice A m c) (hl : news.length = m * size) (hA : ValsAt w A news) (hnone : A = none → m = 0 ∧ c = 0) (h1 : ∀ u ∈ news, u.oneCell' = true)
    (h63 : n + m ≤ maxLen) (hbytes : (n + m) * bytes ≤ 140737488355328) (hbase : base ≤ w.heap.size)
    (h : ∀ v' w', w'.ownsRow base e size v' (n + m) (xs ++ news) → w.grownBy w' v.ownBlock → wpList P ops Q rest (a.put o.dst v') w') :
    wpList P ops Q (o :: rest) a w := by
  cases A with
  | none =>
    obtain ⟨rfl, rfl⟩ := hnone rfl
    have hn : news = [] := List.eq_nil_of_length_eq_zero (by omega)
    subst hn
    refine wpList_append_own_none hgd s x t ho base e i size ht hi v n xs hs hown hx ?_
    exact h v w (by simpa using hown) ⟨rfl, rfl, rfl, Nat.le_refl _, fun _ _ _ => rfl⟩
  | some ad =>
    refine wpList_append_own_at w hgd s x t ho base e i z size bytes ht hi hz hsize hby hzs hsz v n xs hs hown ad m c news hx hl ?_ h1 h63 hbytes hbase (fun v' w' q1 q2 _ _ => h v' w' q1 q2)
    intro j u hj
    obtain ⟨hlt, he⟩ := List.getElem?_eq_some_iff.1 hj
    obtain ⟨b, off, hab, -, hc⟩ := hA (by omega)
    cases hab
    have := hc j hlt
    rw [he] at this
    rw [Addr.add_mid]
    exact this
end Go.Proofs.YtllgkohgcicbhaaGreatDoor

/-
  The methods of the document's table, as plain mathematics: what is told of each class and id. No condition.
-/
namespace Go.Proofs.YtllgkohgcicbhaaGreatDoor

/-- a method: its class, id, signature, side, and how many replies it has -/
structure Met where
  c : Int
  i : Int
  v : ByteArray
  s : Int
  r : Int
def mets : List Met :=
  [⟨10, 10, ⟨#[111, 111, 84, 76, 76]⟩, 2, 1⟩,
   ⟨10, 11, ⟨#[84, 83, 76, 83]⟩, 1, 0⟩,
   ⟨10, 20, ⟨#[76]⟩, 2, 1⟩,
   ⟨10, 21, ⟨#[76]⟩, 1, 0⟩,
   ⟨10, 30, ⟨#[115, 108, 115]⟩, 2, 1⟩,
   ⟨10, 31, ⟨#[115, 108, 115]⟩, 1, 0⟩,
   ⟨10, 40, ⟨#[83, 83, 98]⟩, 1, 1⟩,
   ⟨10, 41, ⟨#[83]⟩, 2, 0⟩,
   ⟨10, 50, ⟨#[115, 83, 115, 115]⟩, 3, 1⟩,
   ⟨10, 51, ⟨#[]⟩, 3, 0⟩,
   ⟨10, 60, ⟨#[83]⟩, 2, 0⟩,
   ⟨10, 61, ⟨#[]⟩, 2, 0⟩,
   ⟨20, 10, ⟨#[83]⟩, 1, 1⟩,
   ⟨20, 11, ⟨#[76]⟩, 2, 0⟩,
   ⟨20, 20, ⟨#[98]⟩, 3, 1⟩,
   ⟨20, 21, ⟨#[98]⟩, 3, 0⟩,
   ⟨20, 40, ⟨#[115, 83, 115, 115]⟩, 3, 1⟩,
   ⟨20, 41, ⟨#[]⟩, 3, 0⟩,
   ⟨40, 10, ⟨#[115, 83, 83, 98, 98, 98, 98, 98, 84]⟩, 1, 1⟩,
   ⟨40, 11, ⟨#[]⟩, 2, 0⟩,
   ⟨40, 20, ⟨#[115, 83, 98, 98]⟩, 1, 1⟩,
   ⟨40, 21, ⟨#[]⟩, 2, 0⟩,
   ⟨50, 10, ⟨#[115, 83, 98, 98, 98, 98, 98, 84]⟩, 1, 1⟩,
   ⟨50, 11, ⟨#[83, 108, 108]⟩, 2, 0⟩,
   ⟨50, 20, ⟨#[115, 83, 83, 83, 98, 84]⟩, 1, 1⟩,
   ⟨50, 21, ⟨#[]⟩, 2, 0⟩,
   ⟨50, 30, ⟨#[115, 83, 98]⟩, 1, 1⟩,
   ⟨50, 31, ⟨#[108]⟩, 2, 0⟩,
   ⟨50, 40, ⟨#[115, 83, 98, 98, 98]⟩, 1, 1⟩,
   ⟨50, 41, ⟨#[108]⟩, 2, 0⟩,
   ⟨50, 50, ⟨#[115, 83, 83, 83, 84]⟩, 1, 1⟩,
   ⟨50, 51, ⟨#[]⟩, 2, 0⟩,
   ⟨60, 10, ⟨#[108, 115, 98]⟩, 1, 1⟩,
   ⟨60, 11, ⟨#[]⟩, 2, 0⟩,
   ⟨60, 20, ⟨#[115, 83, 83, 98, 98, 98, 98, 84]⟩, 1, 1⟩,
   ⟨60, 21, ⟨#[83]⟩, 2, 0⟩,
   ⟨60, 30, ⟨#[83, 98]⟩, 1, 1⟩,
   ⟨60, 31, ⟨#[83]⟩, 2, 0⟩,
   ⟨60, 40, ⟨#[115, 83, 83, 98, 98]⟩, 1, 0⟩,
   ⟨60, 50, ⟨#[115, 83, 83, 83]⟩, 2, 0⟩,
   ⟨60, 60, ⟨#[83, 113, 98, 83, 83]⟩, 2, 0⟩,
   ⟨60, 70, ⟨#[115, 83, 98]⟩, 1, 2⟩,
   ⟨60, 71, ⟨#[113, 98, 83, 83, 108]⟩, 2, 0⟩,
   ⟨60, 72, ⟨#[83]⟩, 2, 0⟩,
   ⟨60, 80, ⟨#[113, 98]⟩, 3, 0⟩,
   ⟨60, 90, ⟨#[113, 98]⟩, 1, 0⟩,
   ⟨60, 100, ⟨#[98]⟩, 1, 0⟩,
   ⟨60, 110, ⟨#[98]⟩, 1, 1⟩,
   ⟨60, 111, ⟨#[]⟩, 2, 0⟩,
   ⟨60, 120, ⟨#[113, 98, 98]⟩, 3, 0⟩,
   ⟨85, 10, ⟨#[98]⟩, 1, 1⟩,
   ⟨85, 11, ⟨#[]⟩, 2, 0⟩,
   ⟨90, 10, ⟨#[]⟩, 1, 1⟩,
   ⟨90, 11, ⟨#[]⟩, 2, 0⟩,
   ⟨90, 20, ⟨#[]⟩, 1, 1⟩,
   ⟨90, 21, ⟨#[]⟩, 2, 0⟩,
   ⟨90, 30, ⟨#[]⟩, 1, 1⟩,
   ⟨90, 31, ⟨#[]⟩, 2, 0⟩]
def noMet : Met := ⟨0, 0, ⟨#[]⟩, 0, 0⟩
def cellsMet (m : Met) : List Value := [.int .i64 m.c, .int .i64 m.i, .string m.v, .int .i64 m.s, .int .i64 m.r]
def encMet (m : Met) : Value := .agg #[.int .i64 m.c, .int .i64 m.i, .string m.v, .int .i64 m.s, .int .i64 m.r]
def rowMet (l : List Met) : List Value := l.flatMap cellsMet

/-- is it the one at that class and id; is it the one that is answered by it -/
def isAt (c i : Int) (m : Met) : Bool := m.c == c && m.i == i
def hitBy (c i : Int) (m : Met) (k : Nat) : Bool := m.c == c && m.i + 1 + (k : Int) == i
def isBy (c i : Int) (m : Met) : Bool := (List.range m.r.toNat).any (hitBy c i m)
def fst (p : Met → Bool) : Met := (mets.find? p).getD noMet
def sIs (c i : Int) : Bool := mets.any (isAt c i)
def sOf (c i : Int) : ByteArray := (fst (isAt c i)).v
def sSide (c i : Int) : Int := (fst (isAt c i)).s
def sNum (c i : Int) : Int := (fst (isAt c i)).r
def sAsks (c i : Int) : Int := (fst (isBy c i)).i
def sReps (c i : Int) : List Int := (List.range (sNum c i).toNat).map fun (k : Nat) => i + 1 + (k : Int)
def sCont (c i : Int) : Bool := c == 60 && (i == 40 || i == 50 || i == 60 || i == 71)

theorem mets_all {p : Met → Prop} {q : Met → Bool} (hq : ∀ m, q m = true → p m) (h : mets.all q = true) : ∀ m ∈ mets, p m := fun m hm => hq m (List.all_eq_true.1 h m hm)
theorem fst_mem {p : Met → Bool} {m : Met} (h : mets.find? p = some m) : fst p = m ∧ m ∈ mets ∧ p m = true := ⟨by rw [fst, h]; rfl, List.mem_of_find?_eq_some h, List.find?_some h⟩
theorem fst_none {p : Met → Bool} (h : mets.find? p = none) : fst p = noMet ∧ ∀ m ∈ mets, p m = false := ⟨by rw [fst, h]; rfl, fun m hm => by simpa using List.find?_eq_none.1 h m hm⟩
end Go.Proofs.YtllgkohgcicbhaaGreatDoor

/-
  The document's table as the text that it is given as: where its numbers, sides and signatures stand, and that they are those of the methods. No condition.
-/
namespace Go.Proofs.YtllgkohgcicbhaaGreatDoor

/-- the text -/
def refText : ByteArray := ⟨((([49, 48, 58, 49, 48, 83, 111, 111, 84, 76, 76, 44, 49, 49, 67, 84, 83, 76, 83, 44, 50, 48, 83, 76, 44, 50, 49, 67, 76, 44, 51, 48, 83, 115, 108, 115, 44, 51, 49, 67, 115, 108, 115, 44, 52, 48, 67, 83].append [83, 98, 44, 52, 49, 83, 83, 44, 53, 48, 66, 115, 83, 115, 115, 44, 53, 49, 66, 44, 54, 48, 83, 83, 44, 54, 49, 83, 59, 50, 48, 58, 49, 48, 67, 83, 44, 49, 49, 83, 76, 44, 50, 48, 66, 98, 44, 50]).append ([49, 66, 98, 44, 52, 48, 66, 115, 83, 115, 115, 44, 52, 49, 66, 59, 52, 48, 58, 49, 48, 67, 115, 83, 83, 98, 98, 98, 98, 98, 84, 44, 49, 49, 83, 44, 50, 48, 67, 115, 83, 98, 98, 44, 50, 49, 83, 59].append [53, 48, 58, 49, 48, 67, 115, 83, 98, 98, 98, 98, 98, 84, 44, 49, 49, 83, 83, 108, 108, 44, 50, 48, 67, 115, 83, 83, 83, 98, 84, 44, 50, 49, 83, 44, 51, 48, 67, 115, 83, 98, 44, 51, 49, 83, 108, 44])).append (([52, 48, 67, 115, 83, 98, 98, 98, 44, 52, 49, 83, 108, 44, 53, 48, 67, 115, 83, 83, 83, 84, 44, 53, 49, 83, 59, 54, 48, 58, 49, 48, 67, 108, 115, 98, 44, 49, 49, 83, 44, 50, 48, 67, 115, 83, 83, 98].append [98, 98, 98, 84, 44, 50, 49, 83, 83, 44, 51, 48, 67, 83, 98, 44, 51, 49, 83, 83, 44, 52, 48, 67, 115, 83, 83, 98, 98, 44, 53, 48, 83, 115, 83, 83, 83, 44, 54, 48, 83, 83, 113, 98, 83, 83, 44, 55]).append ([48, 67, 115, 83, 98, 44, 55, 49, 83, 113, 98, 83, 83, 108, 44, 55, 50, 83, 83, 44, 56, 48, 66, 113, 98, 44, 57, 48, 67, 113, 98, 44, 49, 48, 48, 67, 98, 44, 49, 49, 48, 67, 98, 44, 49, 49, 49, 83].append [44, 49, 50, 48, 66, 113, 98, 98, 59, 56, 53, 58, 49, 48, 67, 98, 44, 49, 49, 83, 59, 57, 48, 58, 49, 48, 67, 44, 49, 49, 83, 44, 50, 48, 67, 44, 50, 49, 83, 44, 51, 48, 67, 44, 51, 49, 83, 59]))).toArray⟩
def refB (j : Nat) : UInt8 := refText.data.toList.getD j 0
def refI (j : Nat) : Int := ((refB j).toNat : Int)
/-- a number with a class behind it, or a method: where its number begins, where that ends, where all of it ends; the class and the number of methods ahead of it; is it a class -/
structure RTok where
  p : Nat
  q : Nat
  e : Nat
  c : Int
  r : Nat
  cl : Bool
def rtoks : List RTok := [⟨0, 2, 2, 0, 0, true⟩, ⟨3, 5, 11, 10, 0, false⟩, ⟨12, 14, 19, 10, 1, false⟩, ⟨20, 22, 24, 10, 2, false⟩, ⟨25, 27, 29, 10, 3, false⟩, ⟨30, 32, 36, 10, 4, false⟩, ⟨37, 39, 43, 10, 5, false⟩, ⟨44, 46, 50, 10, 6, false⟩, ⟨51, 53, 55, 10, 7, false⟩, ⟨56, 58, 63, 10, 8, false⟩, ⟨64, 66, 67, 10, 9, false⟩, ⟨68, 70, 72, 10, 10, false⟩, ⟨73, 75, 76, 10, 11, false⟩, ⟨77, 79, 79, 10, 12, true⟩, ⟨80, 82, 84, 20, 12, false⟩, ⟨85, 87, 89, 20, 13, false⟩, ⟨90, 92, 94, 20, 14, false⟩, ⟨95, 97, 99, 20, 15, false⟩, ⟨100, 102, 107, 20, 16, false⟩, ⟨108, 110, 111, 20, 17, false⟩, ⟨112, 114, 114, 20, 18, true⟩, ⟨115, 117, 127, 40, 18, false⟩, ⟨128, 130, 131, 40, 19, false⟩, ⟨132, 134, 139, 40, 20, false⟩, ⟨140, 142, 143, 40, 21, false⟩, ⟨144, 146, 146, 40, 22, true⟩, ⟨147, 149, 158, 50, 22, false⟩, ⟨159, 161, 165, 50, 23, false⟩, ⟨166, 168, 175, 50, 24, false⟩, ⟨176, 178, 179, 50, 25, false⟩, ⟨180, 182, 186, 50, 26, false⟩, ⟨187, 189, 191, 50, 27, false⟩, ⟨192, 194, 200, 50, 28, false⟩, ⟨201, 203, 205, 50, 29, false⟩, ⟨206, 208, 214, 50, 30, false⟩, ⟨215, 217, 218, 50, 31, false⟩, ⟨219, 221, 221, 50, 32, true⟩, ⟨222, 224, 228, 60, 32, false⟩, ⟨229, 231, 232, 60, 33, false⟩, ⟨233, 235, 244, 60, 34, false⟩, ⟨245, 247, 249, 60, 35, false⟩, ⟨250, 252, 255, 60, 36, false⟩, ⟨256, 258, 260, 60, 37, false⟩, ⟨261, 263, 269, 60, 38, false⟩, ⟨270, 272, 277, 60, 39, false⟩, ⟨278, 280, 286, 60, 40, false⟩, ⟨287, 289, 293, 60, 41, false⟩, ⟨294, 296, 302, 60, 42, false⟩, ⟨303, 305, 307, 60, 43, false⟩, ⟨308, 310, 313, 60, 44, false⟩, ⟨314, 316, 319, 60, 45, false⟩, ⟨320, 323, 325, 60, 46, false⟩, ⟨326, 329, 331, 60, 47, false⟩, ⟨332, 335, 336, 60, 48, false⟩, ⟨337, 340, 344, 60, 49, false⟩, ⟨345, 347, 347, 60, 50, true⟩, ⟨348, 350, 352, 85, 50, false⟩, ⟨353, 355, 356, 85, 51, false⟩, ⟨357, 359, 359, 85, 52, true⟩, ⟨360, 362, 363, 90, 52, false⟩, ⟨364, 366, 367, 90, 53, false⟩, ⟨368, 370, 371, 90, 54, false⟩, ⟨372, 374, 375, 90, 55, false⟩, ⟨376, 378, 379, 90, 56, false⟩, ⟨380, 382, 383, 90, 57, false⟩, ⟨384, 384, 384, 90, 58, true⟩]
/-- the number that stands in the k bytes from p on -/
def valTo (p : Nat) : Nat → Int
  | 0 => 0
  | k + 1 => 10 * valTo p k + (refI (p + k) - 48)
def sigTo (q k : Nat) : ByteArray := ⟨((refText.data.toList.drop (q + 1)).take k).toArray⟩
def sideI (s : Int) : Int := if s = 1 then 67 else if s = 2 then 83 else 66

def RStep (t u : RTok) : Prop :=
  (t.p ≤ t.q ∧ t.q < 384) ∧ (∀ k, k < t.q - t.p → 48 ≤ refI (t.p + k) ∧ refI (t.p + k) ≤ 57 ∧ 0 ≤ valTo t.p k ∧ valTo t.p k ≤ 10000) ∧ 57 < refI t.q ∧
  (t.cl = true → refI t.q = 58 ∧ u.p = t.q + 1 ∧ u.c = valTo t.p (t.q - t.p) ∧ u.r = t.r) ∧
  (t.cl = false → refI t.q ≠ 58 ∧ t.q < t.e ∧ t.e < 384 ∧ (∀ k, k < t.e - (t.q + 1) → refI (t.q + 1 + k) ≠ 44 ∧ refI (t.q + 1 + k) ≠ 59) ∧ (refI t.e = 44 ∨ refI t.e = 59) ∧
    u.p = t.e + 1 ∧ u.c = t.c ∧ u.r = t.r + 1 ∧ t.r < 58 ∧ (mets.getD t.r noMet).c = t.c ∧ (mets.getD t.r noMet).i = valTo t.p (t.q - t.p) ∧ sideI (mets.getD t.r noMet).s = refI t.q ∧ (mets.getD t.r noMet).v = sigTo t.q (t.e - (t.q + 1)))
instance (t u : RTok) : Decidable (RStep t u) := by unfold RStep; infer_instance
def rsteps : List (RTok × RTok) := rtoks.zip rtoks.tail
theorem rsteps_ok : ∀ x ∈ rsteps, RStep x.1 x.2 := by decide +kernel
theorem rtoks_length : rtoks.length = 66 := by decide
theorem rtoks_first : rtoks[0]? = some ⟨0, 2, 2, 0, 0, true⟩ := by rfl
theorem rtoks_last : rtoks[65]? = some ⟨384, 384, 384, 90, 58, true⟩ := by rfl
theorem rstep_at (j : Nat) (h : j < 65) : RStep (rtoks[j]'(by rw [rtoks_length]; omega)) (rtoks[j + 1]'(by rw [rtoks_length]; omega)) := by
  have hl : j < rsteps.length := by simp [rsteps, rtoks_length]; exact h
  have := rsteps_ok rsteps[j] (List.getElem_mem hl)
  simpa [rsteps] using this
theorem refText_size : refText.size = 384 := by kernel_rfl
theorem ba_at (T : ByteArray) (k : Nat) (h : k < T.size) : T[k] = T.data.toList.getD k 0 := by
  show T.data[k] = _
  rw [List.getD_eq_getElem?_getD, Array.getElem?_toList, Array.getElem?_eq_getElem h]
  rfl
theorem refText_at (k : Nat) (h : k < refText.size) : refText[k] = refB k := ba_at refText k h
theorem refI_le (k : Nat) : 0 ≤ refI k ∧ refI k ≤ 255 := by
  unfold refI
  have := (refB k).toNat_lt
  omega
theorem list_next (l : List UInt8) (q k : Nat) (h : q + 1 + k < l.length) : (⟨((l.drop (q + 1)).take (k + 1)).toArray⟩ : ByteArray) = ⟨((l.drop (q + 1)).take k).toArray⟩ ++ ⟨#[l.getD (q + 1 + k) 0]⟩ := by
  have e : (l.drop (q + 1))[k]? = some (l.getD (q + 1 + k) 0) := by
    rw [List.getElem?_drop, List.getD_eq_getElem?_getD, List.getElem?_eq_getElem h]
    rfl
  apply ByteArray.ext
  apply Array.ext'
  simp only [ByteArray.data_append, Array.toList_append]
  rw [List.take_add_one, e]
  rfl
theorem refText_length : refText.data.toList.length = 384 := by kernel_rfl
theorem sigTo_succ (q k : Nat) (h : q + 1 + k < 384) : sigTo q (k + 1) = sigTo q k ++ ⟨#[refB (q + 1 + k)]⟩ := list_next refText.data.toList q k (by rw [refText_length]; exact h)
theorem list_some (l : List UInt8) (k : Nat) : (⟨(l.take k).toArray⟩ : ByteArray).size ≤ k := by
  show (l.take k).toArray.size ≤ k
  simp
  omega
theorem sigTo_size (q k : Nat) : (sigTo q k).size ≤ k := list_some _ k
end Go.Proofs.YtllgkohgcicbhaaGreatDoor
