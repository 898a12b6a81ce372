/-
  Several texts joined in one file: each says at its own head, below, what it proves, and its conditions.
-/
import Derived.Laws.BytesArg
import Derived.Laws.Strings
import Derived.Laws.BitsAllLaws
import Derived.Below
import Derived.WalkSmall
import Derived.Lib.Strings
/-
  Plain mathematics of numbers as bytes: what num.Put lays and num.Take takes, over lists of bytes. No condition.
-/
namespace Go.Proofs.YtkdiccedkjbpeaaGreatDoorR

/-- the last n bytes of v, the highest first -/
def putL : Nat → Nat → List UInt8
  | 0, _ => []
  | n + 1, v => putL n (v / 256) ++ [UInt8.ofNat v]
def putS (n v : Nat) : ByteArray := ⟨(putL n v).toArray⟩

theorem putL_length (n v : Nat) : (putL n v).length = n := by
  induction n generalizing v with
  | zero => rfl
  | succ n ih => simp [putL, ih]
theorem putS_size (n v : Nat) : (putS n v).size = n := by
  simp [putS, ByteArray.size, putL_length]
theorem putS_list (n v : Nat) : (putS n v).data.toList = putL n v := rfl

/-- the number of bytes, the highest first -/
def takeL (l : List UInt8) : Nat := l.foldl (fun a b => a * 256 + b.toNat) 0

theorem takeL_snoc (l : List UInt8) (b : UInt8) : takeL (l ++ [b]) = takeL l * 256 + b.toNat := by
  simp [takeL]
theorem takeL_lt (l : List UInt8) : takeL l < 256 ^ l.length := by
  suffices h : ∀ n (l : List UInt8), l.length = n → takeL l < 256 ^ n by exact h _ l rfl
  intro n
  induction n with
  | zero => intro l hl; have : l = [] := List.eq_nil_of_length_eq_zero hl; subst this; simp [takeL]
  | succ n ih =>
    intro l hl
    obtain ⟨l', b, rfl⟩ : ∃ l' b, l = l' ++ [b] := by
      have hne : l ≠ [] := by intro h; simp [h] at hl
      exact ⟨l.dropLast, l.getLast hne, (List.dropLast_concat_getLast hne).symm⟩
    have h1 := ih l' (by simpa using hl)
    have h2 := b.toNat_lt
    rw [takeL_snoc, Nat.pow_succ]
    omega
theorem take_put (n v : Nat) (h : v < 256 ^ n) : takeL (putL n v) = v := by
  induction n generalizing v with
  | zero => simp at h; subst h; rfl
  | succ n ih =>
    rw [Nat.pow_succ] at h
    rw [putL, takeL_snoc, ih (v / 256) (by omega)]
    simp
    omega
theorem put_take (l : List UInt8) : putL l.length (takeL l) = l := by
  suffices h : ∀ n (l : List UInt8), l.length = n → putL n (takeL l) = l by exact h _ l rfl
  intro n
  induction n with
  | zero => intro l hl; have : l = [] := List.eq_nil_of_length_eq_zero hl; subst this; rfl
  | succ n ih =>
    intro l hl
    obtain ⟨l', b, rfl⟩ : ∃ l' b, l = l' ++ [b] := by
      have hne : l ≠ [] := by intro h; simp [h] at hl
      exact ⟨l.dropLast, l.getLast hne, (List.dropLast_concat_getLast hne).symm⟩
    have h2 := b.toNat_lt
    rw [takeL_snoc, putL, show (takeL l' * 256 + b.toNat) / 256 = takeL l' by omega, ih l' (by simpa using hl)]
    congr 2
    apply UInt8.toNat_inj.1
    simp
theorem byte_eq {a : Int} {b : Nat} (h : a.toNat % 256 = b % 256) : UInt8.ofNat a.toNat = UInt8.ofNat b := by
  apply UInt8.toNat_inj.1
  simpa using h
theorem arr1 {a0 b0 : UInt8} (h0 : a0 = b0) : (⟨#[a0]⟩ : ByteArray) = ⟨#[b0]⟩ := by
  subst h0; rfl
theorem arr2 {a0 a1 b0 b1 : UInt8} (h0 : a0 = b0) (h1 : a1 = b1) : (⟨#[a0, a1]⟩ : ByteArray) = ⟨#[b0, b1]⟩ := by
  subst h0 h1; rfl
theorem arr4 {a0 a1 a2 a3 b0 b1 b2 b3 : UInt8} (h0 : a0 = b0) (h1 : a1 = b1) (h2 : a2 = b2) (h3 : a3 = b3) : (⟨#[a0, a1, a2, a3]⟩ : ByteArray) = ⟨#[b0, b1, b2, b3]⟩ := by
  subst h0 h1 h2 h3; rfl
theorem arr8 {a0 a1 a2 a3 a4 a5 a6 a7 b0 b1 b2 b3 b4 b5 b6 b7 : UInt8} (h0 : a0 = b0) (h1 : a1 = b1) (h2 : a2 = b2) (h3 : a3 = b3) (h4 : a4 = b4) (h5 : a5 = b5) (h6 : a6 = b6) (h7 : a7 = b7) : (⟨#[a0, a1, a2, a3, a4, a5, a6, a7]⟩ : ByteArray) = ⟨#[b0, b1, b2, b3, b4, b5, b6, b7]⟩ := by
  subst h0 h1 h2 h3 h4 h5 h6 h7; rfl
theorem putL_cons (n v : Nat) : putL (n + 1) v = UInt8.ofNat (v / 256 ^ n) :: putL n v := by
  induction n generalizing v with
  | zero => simp [putL]
  | succ n ih =>
    rw [putL, ih (v / 256), putL, Nat.div_div_eq_div_mul, Nat.pow_succ, Nat.mul_comm (256 ^ n) 256]
    rfl
theorem putS_cons (n v : Nat) : (⟨#[UInt8.ofNat (v / 256 ^ n)]⟩ : ByteArray) ++ putS n v = putS (n + 1) v := by
  apply ByteArray.ext
  rw [ByteArray.data_append]
  simp [putS, putL_cons]
theorem takeL_cons (a : UInt8) (l : List UInt8) : takeL (a :: l) = a.toNat * 256 ^ l.length + takeL l := by
  suffices h : ∀ n (l : List UInt8), l.length = n → takeL (a :: l) = a.toNat * 256 ^ n + takeL l by exact h _ l rfl
  intro n
  induction n with
  | zero => intro l hl; have : l = [] := List.eq_nil_of_length_eq_zero hl; subst this; simp [takeL]
  | succ n ih =>
    intro l hl
    obtain ⟨l', b, rfl⟩ : ∃ l' b, l = l' ++ [b] := by
      have hne : l ≠ [] := by intro h; simp [h] at hl
      exact ⟨l.dropLast, l.getLast hne, (List.dropLast_concat_getLast hne).symm⟩
    rw [← List.cons_append, takeL_snoc, takeL_snoc, ih l' (by simpa using hl), Nat.pow_succ, Nat.add_mul, Nat.mul_assoc]
    omega
/-- of as many bytes the later ones are the greater number's -/
theorem less_take : ∀ l m : List UInt8, l.length = m.length → Op.bytesLess l m = decide (takeL l < takeL m)
  | [], [], _ => by simp [Op.bytesLess]
  | [], _ :: _, h => by simp at h
  | _ :: _, [], h => by simp at h
  | a :: l, b :: m, h => by
    have hl : l.length = m.length := by simpa using h
    have ih := less_take l m hl
    have t1 := takeL_lt l
    have t2 := takeL_lt m
    rw [Op.bytesLess, ih, takeL_cons, takeL_cons, hl]
    rw [hl] at t1
    generalize takeL l = x at *
    generalize takeL m = y at *
    generalize 256 ^ m.length = q at *
    rw [Bool.eq_iff_iff]
    simp only [Bool.or_eq_true, decide_eq_true_eq, Bool.and_eq_true, beq_iff_eq, UInt8.lt_iff_toNat_lt]
    rcases Nat.lt_trichotomy a.toNat b.toNat with k | k | k
    · have : (a.toNat + 1) * q ≤ b.toNat * q := Nat.mul_le_mul_right q k
      rw [Nat.add_mul] at this
      constructor
      · intro _; omega
      · intro _; exact Or.inl k
    · have e : a = b := UInt8.toNat_inj.1 k
      subst e
      constructor
      · rintro (h | ⟨_, h⟩) <;> omega
      · intro h; exact Or.inr ⟨rfl, by omega⟩
    · have : (b.toNat + 1) * q ≤ a.toNat * q := Nat.mul_le_mul_right q k
      rw [Nat.add_mul] at this
      constructor
      · rintro (h | ⟨h, _⟩)
        · omega
        · subst h; omega
      · intro h; omega
theorem less_put (n v u : Nat) (hv : v < 256 ^ n) (hu : u < 256 ^ n) : Op.bytesLess (putS n v).toList (putS n u).toList = decide (v < u) := by
  rw [ByteArray.toList_eq, ByteArray.toList_eq, putS_list, putS_list, less_take _ _ (by rw [putL_length, putL_length]), take_put n v hv, take_put n u hu]
theorem same_put (n v u : Nat) (hv : v < 256 ^ n) (hu : u < 256 ^ n) : ((putS n v).toList == (putS n u).toList) = decide (v = u) := by
  rw [ByteArray.toList_eq, ByteArray.toList_eq, putS_list, putS_list, Bool.eq_iff_iff]
  simp only [beq_iff_eq, decide_eq_true_eq]
  constructor
  · intro h
    rw [← take_put n v hv, h, take_put n u hu]
  · intro h; rw [h]
end Go.Proofs.YtkdiccedkjbpeaaGreatDoorR

/-
  Plain mathematics of bits in bytes: what num.Bits lays. No condition.
-/
namespace Go.Proofs.YtkdiccedkjbpeaaGreatDoorR

/-- eight bits, the first one the lowest -/
def oct (f : Nat → Bool) : Nat :=
  (f 0).toNat + 2 * (f 1).toNat + 4 * (f 2).toNat + 8 * (f 3).toNat + 16 * (f 4).toNat + 32 * (f 5).toNat + 64 * (f 6).toNat + 128 * (f 7).toNat
/-- byte j, of the first k bits -/
def bitK (l : List Bool) (k j : Nat) : Nat := oct fun i => decide (8 * j + i < k) && l.getD (8 * j + i) false
def bitsL (l : List Bool) : List UInt8 := (List.range ((l.length + 7) / 8)).map fun j => UInt8.ofNat (bitK l l.length j)
def bitsS (l : List Bool) : ByteArray := ⟨(bitsL l).toArray⟩

theorem oct_lt (f : Nat → Bool) : oct f < 256 := by
  have h : ∀ b : Bool, b.toNat ≤ 1 := fun b => by cases b <;> simp
  have := h (f 0); have := h (f 1); have := h (f 2); have := h (f 3); have := h (f 4); have := h (f 5); have := h (f 6); have := h (f 7)
  unfold oct; omega
theorem bitK_lt (l : List Bool) (k j : Nat) : bitK l k j < 256 := oct_lt _
theorem bitK_zero (l : List Bool) (j : Nat) : bitK l 0 j = 0 := by simp [bitK, oct]
/-- a byte beyond the bits is not touched -/
theorem bitK_far (l : List Bool) (k j : Nat) (h : k / 8 ≠ j) : bitK l (k + 1) j = bitK l k j := by
  have e : ∀ i, i < 8 → decide (8 * j + i < k + 1) = decide (8 * j + i < k) := fun i hi => by simp; omega
  unfold bitK oct
  simp only [e 0 (by omega), e 1 (by omega), e 2 (by omega), e 3 (by omega), e 4 (by omega), e 5 (by omega), e 6 (by omega), e 7 (by omega)]
theorem bitK_off (l : List Bool) (k j : Nat) (h : l.getD k false = false) : bitK l (k + 1) j = bitK l k j := by
  by_cases hj : k / 8 = j
  · have e : ∀ i, (decide (8 * j + i < k + 1) && l.getD (8 * j + i) false) = (decide (8 * j + i < k) && l.getD (8 * j + i) false) := fun i => by
      by_cases hi : 8 * j + i = k
      · rw [hi, h]; simp
      · have : decide (8 * j + i < k + 1) = decide (8 * j + i < k) := by simp; omega
        rw [this]
    unfold bitK
    simp only [e]
  · exact bitK_far l k j hj
theorem oct_low (f : Nat → Bool) (m : Nat) (hm : m < 8) (z : ∀ i, m ≤ i → f i = false) : oct f < 2 ^ m := by
  have h : ∀ b : Bool, b.toNat ≤ 1 := fun b => by cases b <;> simp
  have := h (f 0); have := h (f 1); have := h (f 2); have := h (f 3); have := h (f 4); have := h (f 5); have := h (f 6)
  unfold oct
  match m, hm with
  | 0, _ => simp [z]
  | 1, _ => simp [z 1, z 2, z 3, z 4, z 5, z 6, z 7]; omega
  | 2, _ => simp [z 2, z 3, z 4, z 5, z 6, z 7]; omega
  | 3, _ => simp [z 3, z 4, z 5, z 6, z 7]; omega
  | 4, _ => simp [z 4, z 5, z 6, z 7]; omega
  | 5, _ => simp [z 5, z 6, z 7]; omega
  | 6, _ => simp [z 6, z 7]; omega
  | 7, _ => simp [z 7]; omega
theorem oct_on (f g : Nat → Bool) (m : Nat) (hm : m < 8) (e : ∀ i, i ≠ m → f i = g i) (e1 : f m = true) (e0 : g m = false) : oct f = oct g + 2 ^ m := by
  unfold oct
  match m, hm with
  | 0, _ => rw [e1, e0, e 1 (by omega), e 2 (by omega), e 3 (by omega), e 4 (by omega), e 5 (by omega), e 6 (by omega), e 7 (by omega)]; simp; omega
  | 1, _ => rw [e1, e0, e 0 (by omega), e 2 (by omega), e 3 (by omega), e 4 (by omega), e 5 (by omega), e 6 (by omega), e 7 (by omega)]; simp; omega
  | 2, _ => rw [e1, e0, e 1 (by omega), e 0 (by omega), e 3 (by omega), e 4 (by omega), e 5 (by omega), e 6 (by omega), e 7 (by omega)]; simp; omega
  | 3, _ => rw [e1, e0, e 1 (by omega), e 2 (by omega), e 0 (by omega), e 4 (by omega), e 5 (by omega), e 6 (by omega), e 7 (by omega)]; simp; omega
  | 4, _ => rw [e1, e0, e 1 (by omega), e 2 (by omega), e 3 (by omega), e 0 (by omega), e 5 (by omega), e 6 (by omega), e 7 (by omega)]; simp; omega
  | 5, _ => rw [e1, e0, e 1 (by omega), e 2 (by omega), e 3 (by omega), e 4 (by omega), e 0 (by omega), e 6 (by omega), e 7 (by omega)]; simp; omega
  | 6, _ => rw [e1, e0, e 1 (by omega), e 2 (by omega), e 3 (by omega), e 4 (by omega), e 5 (by omega), e 0 (by omega), e 7 (by omega)]; simp; omega
  | 7, _ => rw [e1, e0, e 1 (by omega), e 2 (by omega), e 3 (by omega), e 4 (by omega), e 5 (by omega), e 6 (by omega), e 0 (by omega)]; simp
theorem bitK_low (l : List Bool) (k : Nat) : bitK l k (k / 8) < 2 ^ (k % 8) := by
  refine oct_low _ _ (Nat.mod_lt _ (by omega)) fun i hi => ?_
  have : ¬ 8 * (k / 8) + i < k := by omega
  simp [this]
theorem bitK_on (l : List Bool) (k : Nat) (h : l.getD k false = true) : bitK l (k + 1) (k / 8) = bitK l k (k / 8) + 2 ^ (k % 8) := by
  refine oct_on _ _ _ (Nat.mod_lt _ (by omega)) (fun i hi => ?_) ?_ ?_
  · have : decide (8 * (k / 8) + i < k + 1) = decide (8 * (k / 8) + i < k) := by simp; omega
    rw [this]
  · rw [show 8 * (k / 8) + k % 8 = k by omega, h]; simp
  · rw [show 8 * (k / 8) + k % 8 = k by omega]; simp
theorem or_bit (l : List Bool) (k : Nat) (h : l.getD k false = true) :
    bits .or .u8 (bitK l k (k / 8) : Int) (2 ^ (k % 8) % 256) = (bitK l (k + 1) (k / 8) : Int) := by
  have hm : k % 8 < 8 := Nat.mod_lt _ (by omega)
  have hp : 2 ^ (k % 8) < 256 := Nat.pow_lt_pow_right (a := 2) (n := 8) (by omega) hm
  have hc : ((2 : Int) ^ (k % 8) % 256) = ((2 ^ (k % 8) : Nat) : Int) := by
    have e : ((2 ^ (k % 8) : Nat) : Int) = (2 : Int) ^ (k % 8) := by rw [Int.natCast_pow]; rfl
    rw [← e]; clear e; generalize 2 ^ (k % 8) = q at hp ⊢; omega
  rw [hc, u8_or_nat _ _ (bitK_lt _ _ _) hp, Nat.or_comm, nat_join (k % 8) (2 ^ (k % 8)) _ (Nat.mod_self _) (bitK_low l k), bitK_on l k h]
  omega
end Go.Proofs.YtkdiccedkjbpeaaGreatDoorR

/-
  Plain facts of memory: a block that is known whole, and a slice of bools that reads as a list. No condition.
-/
namespace Go.Proofs.YtkdiccedkjbpeaaGreatDoorR
open Go.RowKit

/-- block g is just these cells, none of them frozen -/
def Box (w : World) (g : Nat) (t : TypeId) (cs : Array Value) : Prop := w.heap[g]? = some (.cells cs t (0, 0))

theorem Box.cell {w : World} {g : Nat} {t : TypeId} {cs : Array Value} (h : Box w g t cs) (i : Nat) : w.cell? ⟨g, i, none⟩ = cs[i]? := by
  unfold Box at h; simp [World.cell?, h]
theorem Box.free {w : World} {g : Nat} {t : TypeId} {cs : Array Value} (h : Box w g t cs) (i : Nat) : w.frozen? ⟨g, i, none⟩ = false := by
  unfold Box at h; simp [World.frozen?, h]
theorem Box.lt {w : World} {g : Nat} {t : TypeId} {cs : Array Value} (h : Box w g t cs) : g < w.heap.size := by
  unfold Box at h
  rcases Nat.lt_or_ge g w.heap.size with k | k
  · exact k
  · rw [Array.getElem?_eq_none k] at h; cases h
theorem Box.set {w : World} {g : Nat} {t : TypeId} {cs : Array Value} (h : Box w g t cs) (i : Nat) (u : Value) : Box (w.setCell ⟨g, i, none⟩ u) g t (cs.setIfInBounds i u) := by
  unfold Box at h ⊢; simp [World.setCell, Array.getElem?_modify, h]
theorem Box.apart {w : World} {g : Nat} {t : TypeId} {cs : Array Value} (h : Box w g t cs) {p : Addr} (hp : g ≠ p.block) (u : Value) : Box (w.setCell p u) g t cs :=
  (Below.heap_setCell w p u g hp).trans h
theorem Box.drew {w : World} {g : Nat} {t : TypeId} {cs : Array Value} (h : Box w g t cs) : Box w.drew g t cs := h
theorem Box.drewN {w : World} {g : Nat} {t : TypeId} {cs : Array Value} (h : Box w g t cs) (n : Nat) : Box (w.drewN n) g t cs := h
theorem Box.alloc {w : World} {g : Nat} {t : TypeId} {cs : Array Value} (h : Box w g t cs) (o : Obj) : Box (w.alloc o) g t cs :=
  (Below.heap_alloc w o g h.lt).trans h
theorem Box.below {w w' : World} {B g : Nat} {t : TypeId} {cs : Array Value} (h : Box w g t cs) (hb : Below B w w') (hg : g < B) : Box w' g t cs :=
  (hb.block g hg).trans h
theorem Box.new (w : World) (t : TypeId) (cs : Array Value) : Box (w.alloc (.cells cs t)) w.heap.size t cs := by
  unfold Box; show (w.heap.push _)[w.heap.size]? = _; simp
theorem Box.at_ {w : World} {g g' : Nat} {t : TypeId} {cs : Array Value} (h : Box w g t cs) (e : g = g') : Box w g' t cs := e ▸ h

/-- the slice '.slice A (l.length) _' reads as the bools l, and lies in old memory -/
def BoolsAt (w : World) (A : Option Addr) (l : List Bool) : Prop :=
  0 < l.length → ∃ b off, A = some ⟨b, off, none⟩ ∧ b < w.heap.size ∧ ∀ i (h : i < l.length), w.cell? ⟨b, off + i, none⟩ = some (.bool (l[i]'h))

theorem BoolsAt.below {w w' : World} {A : Option Addr} {l : List Bool} (h : BoolsAt w A l) (hb : Below w.heap.size w w') : BoolsAt w' A l := fun h0 => by
  obtain ⟨b, off, hA, hlt, hc⟩ := h h0
  exact ⟨b, off, hA, Nat.lt_of_lt_of_le hlt hb.size, fun i hi => (hb.cell (p := ⟨b, off + i, none⟩) hlt).trans (hc i hi)⟩
end Go.Proofs.YtkdiccedkjbpeaaGreatDoorR

/-
  Plain mathematics of taking bits: what num.TakeBits answers. No condition.
-/
namespace Go.Proofs.YtkdiccedkjbpeaaGreatDoorR

/-- byte j of a text, 0 beyond it -/
def byteAt (s : ByteArray) (j : Nat) : Nat := (s.data.toList.getD j 0).toNat
/-- bit i of a text, the first one the lowest of its byte -/
def bitAt (s : ByteArray) (i : Nat) : Bool := byteAt s (i / 8) / 2 ^ (i % 8) % 2 == 1
def bitsOf (s : ByteArray) (n : Nat) : List Bool := (List.range n).map (bitAt s)
/-- the bits of the last byte that aren't used are 0 -/
def tidy (s : ByteArray) (n : Nat) : Bool := n % 8 == 0 || byteAt s (n / 8) / 2 ^ (n % 8) == 0
/-- why not, the bits, and the rest -/
def tbE (s : ByteArray) (n : Int) : Int :=
  if n < 0 then 1 else if 64 < n then 1 else if (s.size : Int) < (n + 7) / 8 then 2 else if tidy s n.toNat = true then 0 else 3
def tbL (s : ByteArray) (n : Int) : List Bool := if tbE s n = 0 then bitsOf s n.toNat else []
def tbR (s : ByteArray) (n : Int) : ByteArray := if tbE s n = 0 then s.extract ((n.toNat + 7) / 8) s.size else ⟨#[]⟩

theorem byteAt_get (s : ByteArray) (j : Nat) (h : j < s.size) : byteAt s j = (s[j]'h).toNat := by
  unfold byteAt
  have hl : j < s.data.toList.length := by simpa using h
  rw [List.getD, List.getElem?_eq_getElem hl]
  rfl
theorem byteAt_lt (s : ByteArray) (j : Nat) : byteAt s j < 256 := UInt8.toNat_lt _
theorem bitsOf_length (s : ByteArray) (n : Nat) : (bitsOf s n).length = n := by simp [bitsOf]
theorem int_div_pow (x m : Nat) : ((x : Int) / 2 ^ m) = ((x / 2 ^ m : Nat) : Int) := by
  rw [Int.natCast_ediv, Int.natCast_pow]; rfl
/-- bit k, as Go tells it -/
theorem bit_go (s : ByteArray) (k : Nat) (h : k / 8 < s.size) :
    (bits .and .u8 (((s[k / 8]'h).toNat : Int) / 2 ^ (k % 8)) 1 == 1) = bitAt s k := by
  have hb := byteAt_lt s (k / 8)
  have hd : byteAt s (k / 8) / 2 ^ (k % 8) ≤ byteAt s (k / 8) := Nat.div_le_self _ _
  rw [← byteAt_get s _ h, int_div_pow]
  unfold bitAt
  generalize byteAt s (k / 8) / 2 ^ (k % 8) = y at hd ⊢
  have e := u8_and_nat y 1 (by omega) (by omega)
  rw [nat_mask1] at e
  rw [show (1 : Int) = ((1 : Nat) : Int) from rfl, e, Bool.eq_iff_iff]
  simp only [beq_iff_eq]
  omega
theorem tidy_go (s : ByteArray) (k : Nat) (h : k / 8 < s.size) (h8 : k % 8 ≠ 0) :
    ((((s[k / 8]'h).toNat : Int) / 2 ^ (k % 8)) != 0) = !tidy s k := by
  rw [← byteAt_get s _ h, int_div_pow]
  unfold tidy
  generalize byteAt s (k / 8) / 2 ^ (k % 8) = y
  have h8' : (k % 8 == 0) = false := by simpa using h8
  rw [h8', Bool.false_or, Bool.eq_iff_iff]
  simp
theorem bitsOf_succ (s : ByteArray) (n : Nat) : bitsOf s (n + 1) = bitsOf s n ++ [bitAt s n] := by
  simp [bitsOf, List.range_succ]
theorem bitAt_in (s : ByteArray) (i m : Nat) (h : m < 8) : bitAt s (8 * i + m) = (byteAt s i / 2 ^ m % 2 == 1) := by
  unfold bitAt
  rw [show (8 * i + m) / 8 = i by omega, show (8 * i + m) % 8 = m by omega]
theorem half_pow (x m : Nat) : x / 2 ^ m / 2 = x / 2 ^ (m + 1) := by
  rw [Nat.div_div_eq_div_mul, Nat.pow_succ]
/-- a bit beyond is set: not tidy -/
theorem tidy_no (s : ByteArray) (n i m : Nat) (hm : m < 8) (hi : i < (n + 7) / 8) (hn : n ≤ 8 * i + m) (hb : byteAt s i / 2 ^ m % 2 = 1) : tidy s n = false := by
  have e : i = n / 8 := by omega
  subst e
  have h8 : n % 8 ≠ 0 := by omega
  have hle : n % 8 ≤ m := by omega
  have h1 : byteAt s (n / 8) / 2 ^ (n % 8) ≠ 0 := by
    intro h
    have h2 : byteAt s (n / 8) / 2 ^ m ≤ byteAt s (n / 8) / 2 ^ (n % 8) := Nat.div_le_div_left (Nat.pow_le_pow_right (by omega) hle) (Nat.pow_pos (by omega))
    rw [h] at h2
    rw [Nat.le_zero.1 h2] at hb
    simp at hb
  simp [tidy, h8]
  have := h1
  rw [Ne, Nat.div_eq_zero_iff] at this
  have hp : 2 ^ (n % 8) ≠ 0 := Nat.ne_of_gt (Nat.pow_pos (by omega))
  omega
theorem zero_of_bits (x : Nat) : ∀ d, x < 2 ^ d → (∀ t, t < d → x / 2 ^ t % 2 = 0) → x = 0
  | 0, h, _ => by simpa using h
  | d + 1, h, hb => by
    have h0 := hb 0 (by omega)
    have ih := zero_of_bits (x / 2) d (by rw [Nat.pow_succ] at h; omega) (fun t ht => by
      have := hb (t + 1) (by omega)
      rw [Nat.pow_succ, Nat.mul_comm, ← Nat.div_div_eq_div_mul] at this
      exact this)
    simp at h0
    omega
/-- no bit beyond is set: tidy -/
theorem tidy_yes (s : ByteArray) (n : Nat) (h : ∀ t, t < 8 → n ≤ 8 * (n / 8) + t → byteAt s (n / 8) / 2 ^ t % 2 = 0) : tidy s n = true := by
  by_cases h8 : n % 8 = 0
  · simp [tidy, h8]
  have hx := byteAt_lt s (n / 8)
  have hz : byteAt s (n / 8) / 2 ^ (n % 8) = 0 := by
    refine zero_of_bits _ (8 - n % 8) ?_ (fun t ht => ?_)
    · apply Nat.div_lt_of_lt_mul
      rw [← Nat.pow_add, show n % 8 + (8 - n % 8) = 8 by omega]
      exact hx
    · rw [Nat.div_div_eq_div_mul, ← Nat.pow_add]
      exact h _ (by omega) (by omega)
  simp only [tidy, hz]
  simp
end Go.Proofs.YtkdiccedkjbpeaaGreatDoorR

/-
  Bits that were put are taken, and what is taken is put as it was: plain facts on what num.Bits and num.TakeBits answer. No condition.
-/
namespace Go.Proofs.YtkdiccedkjbpeaaGreatDoorR

theorem bitsS_data (l : List Bool) : (bitsS l).data.toList = bitsL l := rfl
theorem bitsL_length (l : List Bool) : (bitsL l).length = (l.length + 7) / 8 := by simp [bitsL]
theorem bytes_append (a b : ByteArray) : (a ++ b).data.toList = a.data.toList ++ b.data.toList := by rw [ByteArray.data_append, Array.toList_append]
theorem bytes_ext {a b : ByteArray} (h : a.data.toList = b.data.toList) : a = b := ByteArray.ext (Array.toList_inj.1 h)
theorem bytes_len (a : ByteArray) : a.data.toList.length = a.size := by simp
theorem bitsS_len (l : List Bool) : (bitsS l).size = (l.length + 7) / 8 := by rw [← bytes_len, bitsS_data, bitsL_length]

/-- bit i of eight -/
theorem oct_bit (f : Nat → Bool) (i : Nat) (h : i < 8) : (oct f / 2 ^ i % 2 == 1) = f i := by
  have b : ∀ b : Bool, b.toNat ≤ 1 := fun b => by cases b <;> simp
  have e : ∀ b : Bool, (b.toNat == 1) = b := fun b => by cases b <;> rfl
  have := b (f 0); have := b (f 1); have := b (f 2); have := b (f 3); have := b (f 4); have := b (f 5); have := b (f 6); have := b (f 7)
  rw [show oct f / 2 ^ i % 2 = (f i).toNat from ?_, e]
  unfold oct
  match i, h with
  | 0, _ => simp only [Nat.pow_zero, Nat.div_one]; omega
  | 1, _ => simp only [Nat.pow_one]; omega
  | 2, _ => simp only [show (2 : Nat) ^ 2 = 4 from rfl]; omega
  | 3, _ => simp only [show (2 : Nat) ^ 3 = 8 from rfl]; omega
  | 4, _ => simp only [show (2 : Nat) ^ 4 = 16 from rfl]; omega
  | 5, _ => simp only [show (2 : Nat) ^ 5 = 32 from rfl]; omega
  | 6, _ => simp only [show (2 : Nat) ^ 6 = 64 from rfl]; omega
  | 7, _ => simp only [show (2 : Nat) ^ 7 = 128 from rfl]; omega
theorem oct_ext {f g : Nat → Bool} (h : ∀ i, i < 8 → f i = g i) : oct f = oct g := by
  unfold oct
  rw [h 0 (by omega), h 1 (by omega), h 2 (by omega), h 3 (by omega), h 4 (by omega), h 5 (by omega), h 6 (by omega), h 7 (by omega)]
/-- eight bits of a byte are the byte -/
theorem oct_byte (x : Nat) (h : x < 256) : oct (fun i => x / 2 ^ i % 2 == 1) = x := by
  have e : ∀ n : Nat, (n % 2 == 1).toNat = n % 2 := fun n => by
    rcases Nat.mod_two_eq_zero_or_one n with h | h <;> simp [h]
  unfold oct
  simp only [e, Nat.pow_zero, Nat.div_one, Nat.pow_one, show (2 : Nat) ^ 2 = 4 from rfl, show (2 : Nat) ^ 3 = 8 from rfl, show (2 : Nat) ^ 4 = 16 from rfl, show (2 : Nat) ^ 5 = 32 from rfl, show (2 : Nat) ^ 6 = 64 from rfl, show (2 : Nat) ^ 7 = 128 from rfl]
  omega

theorem byteAt_bits (l : List Bool) (more : ByteArray) (j : Nat) (h : j < (l.length + 7) / 8) : byteAt (bitsS l ++ more) j = bitK l l.length j := by
  unfold byteAt
  rw [bytes_append, bitsS_data, List.getD, List.getElem?_append_left (by rw [bitsL_length]; exact h)]
  simp only [bitsL, List.getElem?_map, List.getElem?_range h, Option.map_some, Option.getD_some]
  have := bitK_lt l l.length j
  simp
  omega
theorem bitAt_bits (l : List Bool) (more : ByteArray) (i : Nat) (h : i < l.length) : bitAt (bitsS l ++ more) i = l.getD i false := by
  unfold bitAt
  rw [byteAt_bits l more _ (by omega), bitK, oct_bit _ _ (Nat.mod_lt _ (by omega)), show 8 * (i / 8) + i % 8 = i by omega, decide_eq_true h, Bool.true_and]
theorem bitsOf_bits (l : List Bool) (more : ByteArray) : bitsOf (bitsS l ++ more) l.length = l := by
  apply List.ext_getElem
  · rw [bitsOf_length]
  · intro i h1 h2
    simp only [bitsOf, List.getElem_map, List.getElem_range]
    rw [bitAt_bits l more i h2]
    simp [List.getD, h2]
theorem tidy_bits (l : List Bool) (more : ByteArray) : tidy (bitsS l ++ more) l.length = true := by
  by_cases h8 : l.length % 8 = 0
  · simp [tidy, h8]
  refine tidy_yes _ _ (fun t ht hn => ?_)
  have hj : l.length / 8 < (l.length + 7) / 8 := by omega
  rw [byteAt_bits l more _ hj, bitK]
  have := oct_bit (fun i => decide (8 * (l.length / 8) + i < l.length) && l.getD (8 * (l.length / 8) + i) false) t ht
  rw [show (decide (8 * (l.length / 8) + t < l.length) && l.getD (8 * (l.length / 8) + t) false) = false by simp; omega] at this
  have h2 := Nat.mod_two_eq_zero_or_one (oct (fun i => decide (8 * (l.length / 8) + i < l.length) && l.getD (8 * (l.length / 8) + i) false) / 2 ^ t)
  rcases h2 with h2 | h2
  · exact h2
  · rw [h2] at this; simp at this
theorem tbE_bits (l : List Bool) (more : ByteArray) (h : l.length ≤ 64) : tbE (bitsS l ++ more) l.length = 0 := by
  have hs : (bitsS l ++ more).size = (bitsS l).size + more.size := ByteArray.size_append
  have hl := bitsS_len l
  unfold tbE
  rw [if_neg (by omega), if_neg (by omega), if_neg (by omega), Int.toNat_natCast, if_pos (tidy_bits l more)]
theorem tbL_bits (l : List Bool) (more : ByteArray) (h : l.length ≤ 64) : tbL (bitsS l ++ more) l.length = l := by
  rw [tbL, if_pos (tbE_bits l more h), Int.toNat_natCast, bitsOf_bits]
theorem tbR_bits (l : List Bool) (more : ByteArray) (h : l.length ≤ 64) : tbR (bitsS l ++ more) l.length = more := by
  rw [tbR, if_pos (tbE_bits l more h), Int.toNat_natCast]
  apply bytes_ext
  have hs : (bitsS l ++ more).size = (bitsS l).size + more.size := ByteArray.size_append
  rw [Lib.extract_data, bytes_append, bitsS_data, List.drop_append_of_le_length (by rw [bitsL_length]; exact Nat.le_refl _), List.drop_of_length_le (by rw [bitsL_length]; exact Nat.le_refl _), List.nil_append]
  apply List.take_of_length_le
  rw [bytes_len, hs, bitsS_len]
  omega

/-- of what was taken: why it was -/
theorem tbE_parts {s : ByteArray} {n : Int} (h : tbE s n = 0) : ∃ k : Nat, n = k ∧ k ≤ 64 ∧ (k + 7) / 8 ≤ s.size ∧ tidy s k = true := by
  unfold tbE at h
  by_cases h0 : n < 0
  · rw [if_pos h0] at h; omega
  rw [if_neg h0] at h
  by_cases h1 : 64 < n
  · rw [if_pos h1] at h; omega
  rw [if_neg h1] at h
  obtain ⟨k, rfl⟩ := Int.eq_ofNat_of_zero_le (show 0 ≤ n by omega)
  by_cases h2 : (s.size : Int) < ((k : Int) + 7) / 8
  · rw [if_pos h2] at h; omega
  rw [if_neg h2, Int.toNat_natCast] at h
  cases ht : tidy s k
  · rw [ht] at h; simp at h
  · exact ⟨k, rfl, by omega, by omega, ht⟩
theorem bits_back {s : ByteArray} {k : Nat} (hs : (k + 7) / 8 ≤ s.size) (ht : tidy s k = true) : bitsS (bitsOf s k) ++ s.extract ((k + 7) / 8) s.size = s := by
  apply bytes_ext
  have hl := bytes_len s
  rw [bytes_append, bitsS_data, Lib.extract_data, List.take_of_length_le (l := s.data.toList.drop ((k + 7) / 8)) (by rw [List.length_drop]; omega)]
  have e : bitsL (bitsOf s k) = s.data.toList.take ((k + 7) / 8) := by
    apply List.ext_getElem
    · rw [bitsL_length, bitsOf_length, List.length_take]; omega
    · intro j h1 h2
      have hj : j < (k + 7) / 8 := by rw [bitsL_length, bitsOf_length] at h1; exact h1
      simp only [bitsL, List.getElem_map, List.getElem_range, List.getElem_take]
      rw [bitsOf_length]
      have hb : bitK (bitsOf s k) k j = byteAt s j := by
        rw [← oct_byte (byteAt s j) (byteAt_lt s j)]
        unfold bitK
        apply oct_ext
        intro i hi
        by_cases hin : 8 * j + i < k
        · rw [decide_eq_true hin, Bool.true_and, List.getD]
          simp only [bitsOf, List.getElem?_map, List.getElem?_range hin, Option.map_some, Option.getD_some]
          exact bitAt_in s j i hi
        · rw [decide_eq_false hin, Bool.false_and]
          cases hx : (byteAt s j / 2 ^ i % 2 == 1)
          · rfl
          · rw [tidy_no s k j i hi hj (by omega) (by simpa using hx)] at ht
            cases ht
      rw [hb, byteAt_get s j (by omega)]
      apply UInt8.toNat_inj.1
      simp
      rfl
  rw [e]
  exact List.take_append_drop _ _
end Go.Proofs.YtkdiccedkjbpeaaGreatDoorR
