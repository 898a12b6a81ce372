/-
  Plain mathematics of taking bits: what num.TakeBits answers. No condition.
-/
import Derived.Test.YtmpfkommeakgbaaDoorPBits
import Derived.Test.YtmpfkommeakgbaaDoorPNum
namespace Go.Proofs.YtmpfkommeakgbaaDoor

/-- byte j of a text, 0 beyond it -/
def byteAt (s : ByteArray) (j : Nat) : Nat := (s.data.toList.getD j 0).toNat
/-- bit i of a text, the first one the lowest of its byte -/
def bitAt (s : ByteArray) (i : Nat) : Bool := byteAt s (i / 8) / 2 ^ (i % 8) % 2 == 1
def bitsOf (s : ByteArray) (n : Nat) : List Bool := (List.range n).map (bitAt s)
/-- the bits of the last byte that aren't used are 0 -/
def tidy (s : ByteArray) (n : Nat) : Bool := n % 8 == 0 || byteAt s (n / 8) / 2 ^ (n % 8) == 0
/-- why not, the bits, and the rest -/
def tbE (s : ByteArray) (n : Int) : Int :=
  if n < 0 then 1 else if 64 < n then 1 else if (s.size : Int) < (n + 7) / 8 then 2 else if tidy s n.toNat = true then 0 else 3
def tbL (s : ByteArray) (n : Int) : List Bool := if tbE s n = 0 then bitsOf s n.toNat else []
def tbR (s : ByteArray) (n : Int) : ByteArray := if tbE s n = 0 then s.extract ((n.toNat + 7) / 8) s.size else ⟨#[]⟩

theorem byteAt_get (s : ByteArray) (j : Nat) (h : j < s.size) : byteAt s j = (s[j]'h).toNat := by
  unfold byteAt
  have hl : j < s.data.toList.length := by simpa using h
  rw [List.getD, List.getElem?_eq_getElem hl]
  rfl
theorem byteAt_lt (s : ByteArray) (j : Nat) : byteAt s j < 256 := UInt8.toNat_lt _
theorem bitsOf_length (s : ByteArray) (n : Nat) : (bitsOf s n).length = n := by simp [bitsOf]
theorem int_div_pow (x m : Nat) : ((x : Int) / 2 ^ m) = ((x / 2 ^ m : Nat) : Int) := by
  rw [Int.natCast_ediv, Int.natCast_pow]; rfl
/-- bit k, as Go tells it -/
theorem bit_go (s : ByteArray) (k : Nat) (h : k / 8 < s.size) :
    (bits .and .u8 (((s[k / 8]'h).toNat : Int) / 2 ^ (k % 8)) 1 == 1) = bitAt s k := by
  have hb := byteAt_lt s (k / 8)
  have hd : byteAt s (k / 8) / 2 ^ (k % 8) ≤ byteAt s (k / 8) := Nat.div_le_self _ _
  rw [← byteAt_get s _ h, int_div_pow]
  unfold bitAt
  generalize byteAt s (k / 8) / 2 ^ (k % 8) = y at hd ⊢
  have e := u8_and_nat y 1 (by omega) (by omega)
  rw [nat_mask1] at e
  rw [show (1 : Int) = ((1 : Nat) : Int) from rfl, e, Bool.eq_iff_iff]
  simp only [beq_iff_eq]
  omega
theorem tidy_go (s : ByteArray) (k : Nat) (h : k / 8 < s.size) (h8 : k % 8 ≠ 0) :
    ((((s[k / 8]'h).toNat : Int) / 2 ^ (k % 8)) != 0) = !tidy s k := by
  rw [← byteAt_get s _ h, int_div_pow]
  unfold tidy
  generalize byteAt s (k / 8) / 2 ^ (k % 8) = y
  have h8' : (k % 8 == 0) = false := by simpa using h8
  rw [h8', Bool.false_or, Bool.eq_iff_iff]
  simp
theorem bitsOf_succ (s : ByteArray) (n : Nat) : bitsOf s (n + 1) = bitsOf s n ++ [bitAt s n] := by
  simp [bitsOf, List.range_succ]
theorem bitAt_in (s : ByteArray) (i m : Nat) (h : m < 8) : bitAt s (8 * i + m) = (byteAt s i / 2 ^ m % 2 == 1) := by
  unfold bitAt
  rw [show (8 * i + m) / 8 = i by omega, show (8 * i + m) % 8 = m by omega]
theorem half_pow (x m : Nat) : x / 2 ^ m / 2 = x / 2 ^ (m + 1) := by
  rw [Nat.div_div_eq_div_mul, Nat.pow_succ]
/-- a bit beyond is set: not tidy -/
theorem tidy_no (s : ByteArray) (n i m : Nat) (hm : m < 8) (hi : i < (n + 7) / 8) (hn : n ≤ 8 * i + m) (hb : byteAt s i / 2 ^ m % 2 = 1) : tidy s n = false := by
  have e : i = n / 8 := by omega
  subst e
  have h8 : n % 8 ≠ 0 := by omega
  have hle : n % 8 ≤ m := by omega
  have h1 : byteAt s (n / 8) / 2 ^ (n % 8) ≠ 0 := by
    intro h
    have h2 : byteAt s (n / 8) / 2 ^ m ≤ byteAt s (n / 8) / 2 ^ (n % 8) := Nat.div_le_div_left (Nat.pow_le_pow_right (by omega) hle) (Nat.pow_pos (by omega))
    rw [h] at h2
    rw [Nat.le_zero.1 h2] at hb
    simp at hb
  simp [tidy, h8]
  have := h1
  rw [Ne, Nat.div_eq_zero_iff] at this
  have hp : 2 ^ (n % 8) ≠ 0 := Nat.ne_of_gt (Nat.pow_pos (by omega))
  omega
theorem zero_of_bits (x : Nat) : ∀ d, x < 2 ^ d → (∀ t, t < d → x / 2 ^ t % 2 = 0) → x = 0
  | 0, h, _ => by simpa using h
  | d + 1, h, hb => by
    have h0 := hb 0 (by omega)
    have ih := zero_of_bits (x / 2) d (by rw [Nat.pow_succ] at h; omega) (fun t ht => by
      have := hb (t + 1) (by omega)
      rw [Nat.pow_succ, Nat.mul_comm, ← Nat.div_div_eq_div_mul] at this
      exact this)
    simp at h0
    omega
/-- no bit beyond is set: tidy -/
theorem tidy_yes (s : ByteArray) (n : Nat) (h : ∀ t, t < 8 → n ≤ 8 * (n / 8) + t → byteAt s (n / 8) / 2 ^ t % 2 = 0) : tidy s n = true := by
  by_cases h8 : n % 8 = 0
  · simp [tidy, h8]
  have hx := byteAt_lt s (n / 8)
  have hz : byteAt s (n / 8) / 2 ^ (n % 8) = 0 := by
    refine zero_of_bits _ (8 - n % 8) ?_ (fun t ht => ?_)
    · apply Nat.div_lt_of_lt_mul
      rw [← Nat.pow_add, show n % 8 + (8 - n % 8) = 8 by omega]
      exact hx
    · rw [Nat.div_div_eq_div_mul, ← Nat.pow_add]
      exact h _ (by omega) (by omega)
  simp only [tidy, hz]
  simp
end Go.Proofs.YtmpfkommeakgbaaDoor
