/-
  What was put is taken, and what is taken is put as it was: plain facts on what num.Put and num.Take answer. No condition.
-/
import Derived.Test.YtebkolhibifbpaaGreatDoorJWNum
import Derived.Lib.Strings
namespace Go.Proofs.YtebkolhibifbpaaGreatDoor

theorem ba_ext {a b : ByteArray} (h : a.data.toList = b.data.toList) : a = b := ByteArray.ext (Array.toList_inj.1 h)
theorem ba_append (a b : ByteArray) : (a ++ b).data.toList = a.data.toList ++ b.data.toList := by rw [ByteArray.data_append, Array.toList_append]
theorem ba_len (a : ByteArray) : a.data.toList.length = a.size := by simp

theorem putOk_nat {n v : Int} (h : putOk n v = true) (h0 : 0 ≤ v) : v.toNat < 256 ^ n.toNat := by
  have := putOk_lt h
  have e : ((256 ^ n.toNat : Nat) : Int) = 256 ^ n.toNat := by rw [Int.natCast_pow]; rfl
  omega
theorem isW_nat {n : Int} (h : isW n = true) : ((n.toNat : Nat) : Int) = n ∧ n.toNat ≤ 8 := by
  have := isW_cases h; omega
theorem putR_of {n v : Int} (h : putOk n v = true) : putR n v = putS n.toNat v.toNat := by simp [putR, h]
theorem putE_of {n v : Int} (h : putOk n v = true) : putE n v = 0 := by simp [putE, h, putOk_w h]
theorem putE_not {n v : Int} (h : putOk n v = false) : (putE n v != 0) = true ∧ (putE n v == 0) = false := by
  have := putE_zero n v
  rw [h] at this
  exact ⟨by simp [bne, this], this⟩
theorem putR_size {n v : Int} (h : putOk n v = true) : ((putR n v).size : Int) = n := by
  rw [putR_of h, putS_size]; exact (isW_nat (putOk_w h)).1

theorem take_put_ok {n v : Int} (h : putOk n v = true) (more : ByteArray) : takeOk (putR n v ++ more) n = true := by
  have h1 := putR_size h
  have h2 : (putR n v ++ more).size = (putR n v).size + more.size := ByteArray.size_append
  simp [takeOk, putOk_w h]
  omega
theorem take_put_v {n v : Int} (h : putOk n v = true) (h0 : 0 ≤ v) (more : ByteArray) : takeV (putR n v ++ more) n = v := by
  rw [takeV, if_pos (take_put_ok h more), ba_append, putR_of h, putS_list, List.take_append_of_le_length (by rw [putL_length]; exact Nat.le_refl _), List.take_of_length_le (by rw [putL_length]; exact Nat.le_refl _), take_put _ _ (putOk_nat h h0)]
  omega
theorem take_put_r {n v : Int} (h : putOk n v = true) (more : ByteArray) : takeR (putR n v ++ more) n = more := by
  rw [takeR, if_pos (take_put_ok h more)]
  apply ba_ext
  rw [Lib.extract_data, ba_append, putR_of h, putS_list]
  have hl : (putL n.toNat v.toNat).length = n.toNat := putL_length _ _
  rw [List.drop_append_of_le_length (by omega), List.drop_of_length_le (by omega), List.nil_append]
  apply List.take_of_length_le
  have h2 : (putS n.toNat v.toNat ++ more).size = (putS n.toNat v.toNat).size + more.size := ByteArray.size_append
  rw [ba_len, h2, putS_size]
  omega
theorem take_put_e {n v : Int} (h : putOk n v = true) (more : ByteArray) : takeE (putR n v ++ more) n = 0 := by
  simp [takeE, take_put_ok h more, putOk_w h]

theorem takeOk_w {s : ByteArray} {n : Int} (h : takeOk s n = true) : isW n = true ∧ n ≤ s.size := by simpa [takeOk] using h
theorem takeE_of {s : ByteArray} {n : Int} (h : takeOk s n = true) : takeE s n = 0 := by simp [takeE, h, (takeOk_w h).1]
theorem takeE_not {s : ByteArray} {n : Int} (h : takeOk s n = false) : (takeE s n != 0) = true ∧ (takeE s n == 0) = false := by
  have := takeE_zero s n
  rw [h] at this
  exact ⟨by simp [bne, this], this⟩
theorem takeV_nonneg (s : ByteArray) (n : Int) : 0 ≤ takeV s n := by
  unfold takeV; split <;> omega
theorem takeV_pow {s : ByteArray} {n : Int} (h : takeOk s n = true) : (takeV s n).toNat < 256 ^ n.toNat := by
  obtain ⟨h1, h2⟩ := takeOk_w h
  have h3 := takeL_lt (s.data.toList.take n.toNat)
  have h4 : (s.data.toList.take n.toNat).length = n.toNat := by rw [List.length_take, ba_len]; omega
  rw [h4] at h3
  rw [takeV, if_pos h]
  omega
theorem takeV_lt (s : ByteArray) (n : Int) : takeV s n < 18446744073709551616 := by
  cases h : takeOk s n
  · simp [takeV, h]
  · have h1 := takeV_pow h
    have h2 := (isW_nat (takeOk_w h).1).2
    have h3 : 256 ^ n.toNat ≤ 256 ^ 8 := Nat.pow_le_pow_right (by omega) h2
    have h4 : (256 : Nat) ^ 8 = 18446744073709551616 := by decide
    omega
theorem put_take_ok {s : ByteArray} {n : Int} (h : takeOk s n = true) : putOk n (takeV s n) = true := by
  have h1 := takeV_pow h
  have e : ((256 ^ n.toNat : Nat) : Int) = 256 ^ n.toNat := by rw [Int.natCast_pow]; rfl
  have h0 := takeV_nonneg s n
  simp [putOk, (takeOk_w h).1]
  omega
theorem put_take_s {s : ByteArray} {n : Int} (h : takeOk s n = true) : putR n (takeV s n) ++ takeR s n = s := by
  obtain ⟨h1, h2⟩ := takeOk_w h
  rw [putR_of (put_take_ok h), takeV, if_pos h, takeR, if_pos h]
  apply ba_ext
  rw [ba_append, putS_list, Lib.extract_data, Int.toNat_natCast]
  have h4 : (s.data.toList.take n.toNat).length = n.toNat := by rw [List.length_take, ba_len]; omega
  have h5 := put_take (s.data.toList.take n.toNat)
  rw [h4] at h5
  rw [h5, List.take_of_length_le (l := s.data.toList.drop n.toNat) (by rw [List.length_drop, ba_len]; omega)]
  exact List.take_append_drop _ _
end Go.Proofs.YtebkolhibifbpaaGreatDoor
