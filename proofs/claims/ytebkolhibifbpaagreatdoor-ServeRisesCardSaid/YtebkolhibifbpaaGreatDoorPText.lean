/-
  What texts' bytes are, and the texts of bytes, as plain functions; what was laid is taken, and what is taken is laid as it was. No condition.
-/
import Derived.Test.YtebkolhibifbpaaGreatDoorPBack
import Derived.Test.YtebkolhibifbpaaGreatDoorJWNum
namespace Go.Proofs.YtebkolhibifbpaaGreatDoor

/-- a text's bytes, its length in k bytes: may it be, the error, the bytes -/
def layOk (k : Int) (s : ByteArray) : Bool := putOk k s.size
def layE (k : Int) (s : ByteArray) : Int := putE k s.size
def layR (k : Int) (s : ByteArray) : ByteArray := if layOk k s = true then putR k s.size ++ s else ⟨#[]⟩
/-- the text that bytes begin with: is there one, the error, the text, the rest -/
def ttOk (k : Int) (s : ByteArray) : Bool := takeOk s k && skipOk (takeR s k) (takeV s k)
def ttE (k : Int) (s : ByteArray) : Int := if takeOk s k = true then skipE (takeR s k) (takeV s k) else takeE s k
def ttA (k : Int) (s : ByteArray) : ByteArray := if takeOk s k = true then skipA (takeR s k) (takeV s k) else ⟨#[]⟩
def ttR (k : Int) (s : ByteArray) : ByteArray := if takeOk s k = true then skipB (takeR s k) (takeV s k) else ⟨#[]⟩

theorem layOk_one (s : ByteArray) : layOk 1 s = decide (s.size ≤ 255) := by
  simp [layOk, putOk, isW]; omega
theorem layOk_four (s : ByteArray) : layOk 4 s = decide (s.size < 4294967296) := by
  simp [layOk, putOk, isW]; omega
theorem layE_zero (k : Int) (s : ByteArray) : (layE k s == 0) = layOk k s := putE_zero _ _
theorem layE_of {k : Int} {s : ByteArray} (h : layOk k s = true) : layE k s = 0 := putE_of h
theorem layE_not {k : Int} {s : ByteArray} (h : layOk k s = false) : (layE k s != 0) = true ∧ (layE k s == 0) = false := putE_not h
theorem layR_of {k : Int} {s : ByteArray} (h : layOk k s = true) : layR k s = putR k s.size ++ s := by rw [layR, if_pos h]
theorem layR_size {k : Int} {s : ByteArray} (h : layOk k s = true) : ((layR k s).size : Int) = s.size + k := by
  rw [layR_of h, ByteArray.size_append]
  have := putR_size h
  omega
theorem layR_le (k : Int) (s : ByteArray) : (layR k s).size ≤ s.size + 8 := by
  cases h : layOk k s
  · rw [layR, h]; exact Nat.zero_le _
  · have h1 := layR_size h
    have h2 := isW_nat (putOk_w h)
    omega

theorem skip_front (a more : ByteArray) : skipOk (a ++ more) a.size = true ∧ skipA (a ++ more) a.size = a ∧ skipB (a ++ more) a.size = more := by
  have h : skipOk (a ++ more) a.size = true := by simp [skipOk, ByteArray.size_append]; omega
  refine ⟨h, ?_, ?_⟩
  · rw [skipA, if_pos h]
    apply ba_ext
    rw [Lib.extract_data, ba_append]
    simp
  · rw [skipB, if_pos h]
    apply ba_ext
    rw [Lib.extract_data, ba_append]
    simp
    exact List.take_of_length_le (by rw [ba_len]; exact Nat.le_refl _)
/-- what was laid is taken -/
theorem tt_lay {k : Int} {s : ByteArray} (h : layOk k s = true) (more : ByteArray) : ttE k (layR k s ++ more) = 0 ∧ ttA k (layR k s ++ more) = s ∧ ttR k (layR k s ++ more) = more := by
  have e : layR k s ++ more = putR k s.size ++ (s ++ more) := by rw [layR_of h, ByteArray.append_assoc]
  have h1 := take_put_ok h (s ++ more)
  have h2 := take_put_v h (by omega) (s ++ more)
  have h3 := take_put_r h (s ++ more)
  obtain ⟨g1, g2, g3⟩ := skip_front s more
  rw [e]
  refine ⟨?_, ?_, ?_⟩
  · rw [ttE, if_pos h1, h2, h3, skipE, if_pos g1]
  · rw [ttA, if_pos h1, h2, h3, g2]
  · rw [ttR, if_pos h1, h2, h3, g3]

theorem ttE_zero (k : Int) (s : ByteArray) : (ttE k s == 0) = ttOk k s := by
  cases h : takeOk s k
  · have := (takeE_not h).2
    simp [ttE, ttOk, h] at this ⊢
    exact this
  · cases g : skipOk (takeR s k) (takeV s k) <;> simp [ttE, ttOk, h, g, skipE]
theorem ttE_of {k : Int} {s : ByteArray} (h : ttOk k s = true) : ttE k s = 0 := by have := ttE_zero k s; rw [h] at this; simpa using this
theorem ttE_not {k : Int} {s : ByteArray} (h : ttOk k s = false) : (ttE k s != 0) = true ∧ (ttE k s == 0) = false := by
  have := ttE_zero k s
  rw [h] at this
  exact ⟨by simp [bne, this], this⟩
theorem ttOk_parts {k : Int} {s : ByteArray} (h : ttOk k s = true) : takeOk s k = true ∧ takeV s k ≤ (takeR s k).size := by
  simp [ttOk, skipOk] at h
  exact h
theorem takeR_size {s : ByteArray} {n : Int} (h : takeOk s n = true) : ((takeR s n).size : Int) + n = s.size := by
  obtain ⟨h1, h2⟩ := takeOk_w h
  have h3 := (isW_nat h1).1
  rw [takeR, if_pos h, ByteArray.size_extract]
  omega
theorem ttA_size {k : Int} {s : ByteArray} (h : ttOk k s = true) : ((ttA k s).size : Int) = takeV s k := by
  obtain ⟨h1, h2⟩ := ttOk_parts h
  have h0 := takeV_nonneg s k
  rw [ttA, if_pos h1, skipA, if_pos (by simp [skipOk]; exact h2), ByteArray.size_extract]
  omega
theorem ttA_ttR {k : Int} {s : ByteArray} (h : ttOk k s = true) : ttA k s ++ ttR k s = takeR s k := by
  obtain ⟨h1, h2⟩ := ttOk_parts h
  have h0 := takeV_nonneg s k
  have h3 : skipOk (takeR s k) (takeV s k) = true := by simp [skipOk]; exact h2
  rw [ttA, ttR, if_pos h1, if_pos h1, skipA, skipB, if_pos h3, if_pos h3]
  apply ba_ext
  rw [ba_append, Lib.extract_data, Lib.extract_data]
  simp only [List.drop_zero, Nat.sub_zero]
  rw [List.take_of_length_le (l := List.drop _ _) (by rw [List.length_drop, ba_len]; omega)]
  exact List.take_append_drop _ _
/-- what is taken is laid as it was -/
theorem lay_tt {k : Int} {s : ByteArray} (h : ttOk k s = true) : layOk k (ttA k s) = true ∧ layR k (ttA k s) ++ ttR k s = s := by
  obtain ⟨h1, h2⟩ := ttOk_parts h
  have e := ttA_size h
  have h3 : layOk k (ttA k s) = true := by rw [layOk, e]; exact put_take_ok h1
  refine ⟨h3, ?_⟩
  rw [layR_of h3, e, ByteArray.append_assoc, ttA_ttR h]
  exact put_take_s h1
theorem tt_sizes {k : Int} {s : ByteArray} (h : ttOk k s = true) : ((ttA k s).size : Int) + (ttR k s).size + k = s.size := by
  have h1 := congrArg ByteArray.size (ttA_ttR h)
  rw [ByteArray.size_append] at h1
  have h2 := takeR_size (ttOk_parts h).1
  omega
theorem takeR_le (s : ByteArray) (k : Int) : (takeR s k).size ≤ s.size := by
  unfold takeR
  split
  · rw [ByteArray.size_extract]; omega
  · exact Nat.zero_le _
theorem ttA_le (k : Int) (s : ByteArray) : (ttA k s).size ≤ s.size := by
  unfold ttA skipA
  have := takeR_le s k
  split
  · split
    · rw [ByteArray.size_extract]; omega
    · exact Nat.zero_le _
  · exact Nat.zero_le _
theorem ttR_le (k : Int) (s : ByteArray) : (ttR k s).size ≤ s.size := by
  unfold ttR skipB
  have := takeR_le s k
  split
  · split
    · rw [ByteArray.size_extract]; omega
    · exact Nat.zero_le _
  · exact Nat.zero_le _
end Go.Proofs.YtebkolhibifbpaaGreatDoor
