/-
  Bits that were put are taken, and what is taken is put as it was: plain facts on what num.Bits and num.TakeBits answer. No condition.
-/
import Derived.Test.YtmpfkommeakgbaaDoorPTake
import Derived.Lib.Strings
namespace Go.Proofs.YtmpfkommeakgbaaDoor

theorem bitsS_data (l : List Bool) : (bitsS l).data.toList = bitsL l := rfl
theorem bitsL_length (l : List Bool) : (bitsL l).length = (l.length + 7) / 8 := by simp [bitsL]
theorem bytes_append (a b : ByteArray) : (a ++ b).data.toList = a.data.toList ++ b.data.toList := by rw [ByteArray.data_append, Array.toList_append]
theorem bytes_ext {a b : ByteArray} (h : a.data.toList = b.data.toList) : a = b := ByteArray.ext (Array.toList_inj.1 h)
theorem bytes_len (a : ByteArray) : a.data.toList.length = a.size := by simp
theorem bitsS_len (l : List Bool) : (bitsS l).size = (l.length + 7) / 8 := by rw [← bytes_len, bitsS_data, bitsL_length]

/-- bit i of eight -/
theorem oct_bit (f : Nat → Bool) (i : Nat) (h : i < 8) : (oct f / 2 ^ i % 2 == 1) = f i := by
  have b : ∀ b : Bool, b.toNat ≤ 1 := fun b => by cases b <;> simp
  have e : ∀ b : Bool, (b.toNat == 1) = b := fun b => by cases b <;> rfl
  have := b (f 0); have := b (f 1); have := b (f 2); have := b (f 3); have := b (f 4); have := b (f 5); have := b (f 6); have := b (f 7)
  rw [show oct f / 2 ^ i % 2 = (f i).toNat from ?_, e]
  unfold oct
  match i, h with
  | 0, _ => simp only [Nat.pow_zero, Nat.div_one]; omega
  | 1, _ => simp only [Nat.pow_one]; omega
  | 2, _ => simp only [show (2 : Nat) ^ 2 = 4 from rfl]; omega
  | 3, _ => simp only [show (2 : Nat) ^ 3 = 8 from rfl]; omega
  | 4, _ => simp only [show (2 : Nat) ^ 4 = 16 from rfl]; omega
  | 5, _ => simp only [show (2 : Nat) ^ 5 = 32 from rfl]; omega
  | 6, _ => simp only [show (2 : Nat) ^ 6 = 64 from rfl]; omega
  | 7, _ => simp only [show (2 : Nat) ^ 7 = 128 from rfl]; omega
theorem oct_ext {f g : Nat → Bool} (h : ∀ i, i < 8 → f i = g i) : oct f = oct g := by
  unfold oct
  rw [h 0 (by omega), h 1 (by omega), h 2 (by omega), h 3 (by omega), h 4 (by omega), h 5 (by omega), h 6 (by omega), h 7 (by omega)]
/-- eight bits of a byte are the byte -/
theorem oct_byte (x : Nat) (h : x < 256) : oct (fun i => x / 2 ^ i % 2 == 1) = x := by
  have e : ∀ n : Nat, (n % 2 == 1).toNat = n % 2 := fun n => by
    rcases Nat.mod_two_eq_zero_or_one n with h | h <;> simp [h]
  unfold oct
  simp only [e, Nat.pow_zero, Nat.div_one, Nat.pow_one, show (2 : Nat) ^ 2 = 4 from rfl, show (2 : Nat) ^ 3 = 8 from rfl, show (2 : Nat) ^ 4 = 16 from rfl, show (2 : Nat) ^ 5 = 32 from rfl, show (2 : Nat) ^ 6 = 64 from rfl, show (2 : Nat) ^ 7 = 128 from rfl]
  omega

theorem byteAt_bits (l : List Bool) (more : ByteArray) (j : Nat) (h : j < (l.length + 7) / 8) : byteAt (bitsS l ++ more) j = bitK l l.length j := by
  unfold byteAt
  rw [bytes_append, bitsS_data, List.getD, List.getElem?_append_left (by rw [bitsL_length]; exact h)]
  simp only [bitsL, List.getElem?_map, List.getElem?_range h, Option.map_some, Option.getD_some]
  have := bitK_lt l l.length j
  simp
  omega
theorem bitAt_bits (l : List Bool) (more : ByteArray) (i : Nat) (h : i < l.length) : bitAt (bitsS l ++ more) i = l.getD i false := by
  unfold bitAt
  rw [byteAt_bits l more _ (by omega), bitK, oct_bit _ _ (Nat.mod_lt _ (by omega)), show 8 * (i / 8) + i % 8 = i by omega, decide_eq_true h, Bool.true_and]
theorem bitsOf_bits (l : List Bool) (more : ByteArray) : bitsOf (bitsS l ++ more) l.length = l := by
  apply List.ext_getElem
  · rw [bitsOf_length]
  · intro i h1 h2
    simp only [bitsOf, List.getElem_map, List.getElem_range]
    rw [bitAt_bits l more i h2]
    simp [List.getD, h2]
theorem tidy_bits (l : List Bool) (more : ByteArray) : tidy (bitsS l ++ more) l.length = true := by
  by_cases h8 : l.length % 8 = 0
  · simp [tidy, h8]
  refine tidy_yes _ _ (fun t ht hn => ?_)
  have hj : l.length / 8 < (l.length + 7) / 8 := by omega
  rw [byteAt_bits l more _ hj, bitK]
  have := oct_bit (fun i => decide (8 * (l.length / 8) + i < l.length) && l.getD (8 * (l.length / 8) + i) false) t ht
  rw [show (decide (8 * (l.length / 8) + t < l.length) && l.getD (8 * (l.length / 8) + t) false) = false by simp; omega] at this
  have h2 := Nat.mod_two_eq_zero_or_one (oct (fun i => decide (8 * (l.length / 8) + i < l.length) && l.getD (8 * (l.length / 8) + i) false) / 2 ^ t)
  rcases h2 with h2 | h2
  · exact h2
  · rw [h2] at this; simp at this
theorem tbE_bits (l : List Bool) (more : ByteArray) (h : l.length ≤ 64) : tbE (bitsS l ++ more) l.length = 0 := by
  have hs : (bitsS l ++ more).size = (bitsS l).size + more.size := ByteArray.size_append
  have hl := bitsS_len l
  unfold tbE
  rw [if_neg (by omega), if_neg (by omega), if_neg (by omega), Int.toNat_natCast, if_pos (tidy_bits l more)]
theorem tbL_bits (l : List Bool) (more : ByteArray) (h : l.length ≤ 64) : tbL (bitsS l ++ more) l.length = l := by
  rw [tbL, if_pos (tbE_bits l more h), Int.toNat_natCast, bitsOf_bits]
theorem tbR_bits (l : List Bool) (more : ByteArray) (h : l.length ≤ 64) : tbR (bitsS l ++ more) l.length = more := by
  rw [tbR, if_pos (tbE_bits l more h), Int.toNat_natCast]
  apply bytes_ext
  have hs : (bitsS l ++ more).size = (bitsS l).size + more.size := ByteArray.size_append
  rw [Lib.extract_data, bytes_append, bitsS_data, List.drop_append_of_le_length (by rw [bitsL_length]; exact Nat.le_refl _), List.drop_of_length_le (by rw [bitsL_length]; exact Nat.le_refl _), List.nil_append]
  apply List.take_of_length_le
  rw [bytes_len, hs, bitsS_len]
  omega

/-- of what was taken: why it was -/
theorem tbE_parts {s : ByteArray} {n : Int} (h : tbE s n = 0) : ∃ k : Nat, n = k ∧ k ≤ 64 ∧ (k + 7) / 8 ≤ s.size ∧ tidy s k = true := by
  unfold tbE at h
  by_cases h0 : n < 0
  · rw [if_pos h0] at h; omega
  rw [if_neg h0] at h
  by_cases h1 : 64 < n
  · rw [if_pos h1] at h; omega
  rw [if_neg h1] at h
  obtain ⟨k, rfl⟩ := Int.eq_ofNat_of_zero_le (show 0 ≤ n by omega)
  by_cases h2 : (s.size : Int) < ((k : Int) + 7) / 8
  · rw [if_pos h2] at h; omega
  rw [if_neg h2, Int.toNat_natCast] at h
  cases ht : tidy s k
  · rw [ht] at h; simp at h
  · exact ⟨k, rfl, by omega, by omega, ht⟩
theorem bits_back {s : ByteArray} {k : Nat} (hs : (k + 7) / 8 ≤ s.size) (ht : tidy s k = true) : bitsS (bitsOf s k) ++ s.extract ((k + 7) / 8) s.size = s := by
  apply bytes_ext
  have hl := bytes_len s
  rw [bytes_append, bitsS_data, Lib.extract_data, List.take_of_length_le (l := s.data.toList.drop ((k + 7) / 8)) (by rw [List.length_drop]; omega)]
  have e : bitsL (bitsOf s k) = s.data.toList.take ((k + 7) / 8) := by
    apply List.ext_getElem
    · rw [bitsL_length, bitsOf_length, List.length_take]; omega
    · intro j h1 h2
      have hj : j < (k + 7) / 8 := by rw [bitsL_length, bitsOf_length] at h1; exact h1
      simp only [bitsL, List.getElem_map, List.getElem_range, List.getElem_take]
      rw [bitsOf_length]
      have hb : bitK (bitsOf s k) k j = byteAt s j := by
        rw [← oct_byte (byteAt s j) (byteAt_lt s j)]
        unfold bitK
        apply oct_ext
        intro i hi
        by_cases hin : 8 * j + i < k
        · rw [decide_eq_true hin, Bool.true_and, List.getD]
          simp only [bitsOf, List.getElem?_map, List.getElem?_range hin, Option.map_some, Option.getD_some]
          exact bitAt_in s j i hi
        · rw [decide_eq_false hin, Bool.false_and]
          cases hx : (byteAt s j / 2 ^ i % 2 == 1)
          · rfl
          · rw [tidy_no s k j i hi hj (by omega) (by simpa using hx)] at ht
            cases ht
      rw [hb, byteAt_get s j (by omega)]
      apply UInt8.toNat_inj.1
      simp
      rfl
  rw [e]
  exact List.take_append_drop _ _
end Go.Proofs.YtmpfkommeakgbaaDoor
