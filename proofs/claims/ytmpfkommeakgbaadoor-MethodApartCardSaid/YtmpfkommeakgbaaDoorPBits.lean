/-
  Plain mathematics of bits in bytes: what num.Bits lays. No condition.
-/
import Derived.Laws.BitsAllLaws
namespace Go.Proofs.YtmpfkommeakgbaaDoor

/-- eight bits, the first one the lowest -/
def oct (f : Nat → Bool) : Nat :=
  (f 0).toNat + 2 * (f 1).toNat + 4 * (f 2).toNat + 8 * (f 3).toNat + 16 * (f 4).toNat + 32 * (f 5).toNat + 64 * (f 6).toNat + 128 * (f 7).toNat
/-- byte j, of the first k bits -/
def bitK (l : List Bool) (k j : Nat) : Nat := oct fun i => decide (8 * j + i < k) && l.getD (8 * j + i) false
def bitsL (l : List Bool) : List UInt8 := (List.range ((l.length + 7) / 8)).map fun j => UInt8.ofNat (bitK l l.length j)
def bitsS (l : List Bool) : ByteArray := ⟨(bitsL l).toArray⟩

theorem oct_lt (f : Nat → Bool) : oct f < 256 := by
  have h : ∀ b : Bool, b.toNat ≤ 1 := fun b => by cases b <;> simp
  have := h (f 0); have := h (f 1); have := h (f 2); have := h (f 3); have := h (f 4); have := h (f 5); have := h (f 6); have := h (f 7)
  unfold oct; omega
theorem bitK_lt (l : List Bool) (k j : Nat) : bitK l k j < 256 := oct_lt _
theorem bitK_zero (l : List Bool) (j : Nat) : bitK l 0 j = 0 := by simp [bitK, oct]
/-- a byte beyond the bits is not touched -/
theorem bitK_far (l : List Bool) (k j : Nat) (h : k / 8 ≠ j) : bitK l (k + 1) j = bitK l k j := by
  have e : ∀ i, i < 8 → decide (8 * j + i < k + 1) = decide (8 * j + i < k) := fun i hi => by simp; omega
  unfold bitK oct
  simp only [e 0 (by omega), e 1 (by omega), e 2 (by omega), e 3 (by omega), e 4 (by omega), e 5 (by omega), e 6 (by omega), e 7 (by omega)]
theorem bitK_off (l : List Bool) (k j : Nat) (h : l.getD k false = false) : bitK l (k + 1) j = bitK l k j := by
  by_cases hj : k / 8 = j
  · have e : ∀ i, (decide (8 * j + i < k + 1) && l.getD (8 * j + i) false) = (decide (8 * j + i < k) && l.getD (8 * j + i) false) := fun i => by
      by_cases hi : 8 * j + i = k
      · rw [hi, h]; simp
      · have : decide (8 * j + i < k + 1) = decide (8 * j + i < k) := by simp; omega
        rw [this]
    unfold bitK
    simp only [e]
  · exact bitK_far l k j hj
theorem oct_low (f : Nat → Bool) (m : Nat) (hm : m < 8) (z : ∀ i, m ≤ i → f i = false) : oct f < 2 ^ m := by
  have h : ∀ b : Bool, b.toNat ≤ 1 := fun b => by cases b <;> simp
  have := h (f 0); have := h (f 1); have := h (f 2); have := h (f 3); have := h (f 4); have := h (f 5); have := h (f 6)
  unfold oct
  match m, hm with
  | 0, _ => simp [z]
  | 1, _ => simp [z 1, z 2, z 3, z 4, z 5, z 6, z 7]; omega
  | 2, _ => simp [z 2, z 3, z 4, z 5, z 6, z 7]; omega
  | 3, _ => simp [z 3, z 4, z 5, z 6, z 7]; omega
  | 4, _ => simp [z 4, z 5, z 6, z 7]; omega
  | 5, _ => simp [z 5, z 6, z 7]; omega
  | 6, _ => simp [z 6, z 7]; omega
  | 7, _ => simp [z 7]; omega
theorem oct_on (f g : Nat → Bool) (m : Nat) (hm : m < 8) (e : ∀ i, i ≠ m → f i = g i) (e1 : f m = true) (e0 : g m = false) : oct f = oct g + 2 ^ m := by
  unfold oct
  match m, hm with
  | 0, _ => rw [e1, e0, e 1 (by omega), e 2 (by omega), e 3 (by omega), e 4 (by omega), e 5 (by omega), e 6 (by omega), e 7 (by omega)]; simp; omega
  | 1, _ => rw [e1, e0, e 0 (by omega), e 2 (by omega), e 3 (by omega), e 4 (by omega), e 5 (by omega), e 6 (by omega), e 7 (by omega)]; simp; omega
  | 2, _ => rw [e1, e0, e 1 (by omega), e 0 (by omega), e 3 (by omega), e 4 (by omega), e 5 (by omega), e 6 (by omega), e 7 (by omega)]; simp; omega
  | 3, _ => rw [e1, e0, e 1 (by omega), e 2 (by omega), e 0 (by omega), e 4 (by omega), e 5 (by omega), e 6 (by omega), e 7 (by omega)]; simp; omega
  | 4, _ => rw [e1, e0, e 1 (by omega), e 2 (by omega), e 3 (by omega), e 0 (by omega), e 5 (by omega), e 6 (by omega), e 7 (by omega)]; simp; omega
  | 5, _ => rw [e1, e0, e 1 (by omega), e 2 (by omega), e 3 (by omega), e 4 (by omega), e 0 (by omega), e 6 (by omega), e 7 (by omega)]; simp; omega
  | 6, _ => rw [e1, e0, e 1 (by omega), e 2 (by omega), e 3 (by omega), e 4 (by omega), e 5 (by omega), e 0 (by omega), e 7 (by omega)]; simp; omega
  | 7, _ => rw [e1, e0, e 1 (by omega), e 2 (by omega), e 3 (by omega), e 4 (by omega), e 5 (by omega), e 6 (by omega), e 0 (by omega)]; simp
theorem bitK_low (l : List Bool) (k : Nat) : bitK l k (k / 8) < 2 ^ (k % 8) := by
  refine oct_low _ _ (Nat.mod_lt _ (by omega)) fun i hi => ?_
  have : ¬ 8 * (k / 8) + i < k := by omega
  simp [this]
theorem bitK_on (l : List Bool) (k : Nat) (h : l.getD k false = true) : bitK l (k + 1) (k / 8) = bitK l k (k / 8) + 2 ^ (k % 8) := by
  refine oct_on _ _ _ (Nat.mod_lt _ (by omega)) (fun i hi => ?_) ?_ ?_
  · have : decide (8 * (k / 8) + i < k + 1) = decide (8 * (k / 8) + i < k) := by simp; omega
    rw [this]
  · rw [show 8 * (k / 8) + k % 8 = k by omega, h]; simp
  · rw [show 8 * (k / 8) + k % 8 = k by omega]; simp
theorem or_bit (l : List Bool) (k : Nat) (h : l.getD k false = true) :
    bits .or .u8 (bitK l k (k / 8) : Int) (2 ^ (k % 8) % 256) = (bitK l (k + 1) (k / 8) : Int) := by
  have hm : k % 8 < 8 := Nat.mod_lt _ (by omega)
  have hp : 2 ^ (k % 8) < 256 := Nat.pow_lt_pow_right (a := 2) (n := 8) (by omega) hm
  have hc : ((2 : Int) ^ (k % 8) % 256) = ((2 ^ (k % 8) : Nat) : Int) := by
    have e : ((2 ^ (k % 8) : Nat) : Int) = (2 : Int) ^ (k % 8) := by rw [Int.natCast_pow]; rfl
    rw [← e]; clear e; generalize 2 ^ (k % 8) = q at hp ⊢; omega
  rw [hc, u8_or_nat _ _ (bitK_lt _ _ _) hp, Nat.or_comm, nat_join (k % 8) (2 ^ (k % 8)) _ (Nat.mod_self _) (bitK_low l k), bitK_on l k h]
  omega
end Go.Proofs.YtmpfkommeakgbaaDoor
