/-
  Several texts joined in one file: each says at its own head, below, what it proves, and its conditions.
-/
import Derived.Test.YtkdiccedkjbpeaaGreatDoorRJWNum
import Derived.Test.YtkdiccedkjbpeaaGreatDoorRKA
import Derived.Test.YtkdiccedkjbpeaaGreatDoorRJTab1
/-
  The four widths as tests. No condition.
-/
namespace Go.Proofs.YtkdiccedkjbpeaaGreatDoorR

theorem isW_tests {n : Int} (h : isW n = false) : (n != 1) = true ∧ (n != 2) = true ∧ (n != 4) = true ∧ (n != 8) = true := by
  simp [isW] at h
  simp
  omega
end Go.Proofs.YtkdiccedkjbpeaaGreatDoorR

/-
  The document's own answers for layer 1, Take of interchangeref01, are what num.Take answers; nothing that was there is changed. No condition.
-/
namespace Go.Proofs.YtkdiccedkjbpeaaGreatDoorR
open Go.RowKit

theorem add_byte (x b : Nat) (hb : b < 256) (hx : x < 72057594037927936) :
    IntKind.u64.wrap (256 * (x : Int) + IntKind.u64.wrap (b : Int)) = ((x * 256 + b : Nat) : Int) := by
  rw [IntWalk.u64_in (b : Int) (by omega), IntWalk.u64_in _ (by omega)]
  omega
theorem rtake_arg (s : ByteArray) (n : Int) (w : World) (hn : isW n = false) :
    Calls Tryz.prog 116 #[.string s, .int .i64 n] w fun e w' => e = .returned (.tuple #[.int .u64 0, .string ⟨#[]⟩, .int .i64 1]) ∧ w = w' := by
  obtain ⟨t1, t2, t3, t4⟩ := isW_tests hn
  go_enter Tryz.func116, Tryz.ntmps116
  go_wp2
  go_ret3
  exact ⟨rfl, rfl⟩

set_option maxHeartbeats 400000 in
theorem rtake_1 (s : ByteArray) (w : World) :
    Calls Tryz.prog 116 #[.string s, .int .i64 1] w fun e w' => e = .returned (.tuple #[.int .u64 (takeV s 1), .string (takeR s 1), .int .i64 (takeE s 1)]) ∧ Below w.heap.size w w' := by
  by_cases hs : s.size < 1
  · have hok : takeOk s 1 = false := by simp [takeOk, isW]; omega
    have hd : decide ((s.size : Int) < 1) = true := by simp; omega
    go_enter Tryz.func116, Tryz.ntmps116
    go_wp2
    go_ret3
    exact ⟨by simp [takeV, takeR, takeE, hok, isW], Below.refl _ _⟩
  · have hok : takeOk s 1 = true := by simp [takeOk, isW]; omega
    have hd : decide ((s.size : Int) < 1) = false := by simp; omega
    have Hok := Lib.hid hok
    clear hok
    go_enter Tryz.func116, Tryz.ntmps116
    go_wp2
    go_loop [7, 8] (fun v i => ∃ k : Nat, k ≤ 1 ∧ i = .int .i64 k ∧ v = .int .u64 (takeL (s.data.toList.take k))) (fun _ i => 1 - (intOf i).toNat)
    case atStart => exact ⟨0, by omega, rfl, rfl⟩
    case round =>
      obtain ⟨k, hk, rfl, rfl⟩ := hrel
      by_cases hlt : k < 1
      · have HS := Lib.hid (take_succ s k (by omega))
        have hb1 : takeL (s.data.toList.take k) < 72057594037927936 := by
          have h := takeL_lt (s.data.toList.take k)
          have hl : (s.data.toList.take k).length ≤ 7 := by have := List.length_take_le k s.data.toList; omega
          exact Nat.lt_of_lt_of_le h (by have := Nat.pow_le_pow_right (n := 256) (by omega) hl; simpa using this)
        have hb : (takeL (s.data.toList.take k) : Int) * 256 ≤ 18446744073709551360 := by omega
        have hlt' : decide (k < 1) = true := by simpa using hlt
        go_wp2
        go_round
        case rel => exact ⟨k + 1, by omega, by go_num, by rw [HS.out, ← add_byte _ _ (by exact UInt8.toNat_lt _) hb1]⟩
        case measure => simp [intOf]; omega
      · obtain rfl : k = 1 := by omega
        go_wp2
        go_quiet (fail)
        go_wp2
        go_ret3
        refine ⟨?_, below_drewN (Below.refl _ _) _⟩
        simp [takeV, takeR, takeE, Hok.out, isW]

set_option maxHeartbeats 400000 in
theorem rtake_2 (s : ByteArray) (w : World) :
    Calls Tryz.prog 116 #[.string s, .int .i64 2] w fun e w' => e = .returned (.tuple #[.int .u64 (takeV s 2), .string (takeR s 2), .int .i64 (takeE s 2)]) ∧ Below w.heap.size w w' := by
  by_cases hs : s.size < 2
  · have hok : takeOk s 2 = false := by simp [takeOk, isW]; omega
    have hd : decide ((s.size : Int) < 2) = true := by simp; omega
    go_enter Tryz.func116, Tryz.ntmps116
    go_wp2
    go_ret3
    exact ⟨by simp [takeV, takeR, takeE, hok, isW], Below.refl _ _⟩
  · have hok : takeOk s 2 = true := by simp [takeOk, isW]; omega
    have hd : decide ((s.size : Int) < 2) = false := by simp; omega
    have Hok := Lib.hid hok
    clear hok
    go_enter Tryz.func116, Tryz.ntmps116
    go_wp2
    go_loop [7, 8] (fun v i => ∃ k : Nat, k ≤ 2 ∧ i = .int .i64 k ∧ v = .int .u64 (takeL (s.data.toList.take k))) (fun _ i => 2 - (intOf i).toNat)
    case atStart => exact ⟨0, by omega, rfl, rfl⟩
    case round =>
      obtain ⟨k, hk, rfl, rfl⟩ := hrel
      by_cases hlt : k < 2
      · have HS := Lib.hid (take_succ s k (by omega))
        have hb1 : takeL (s.data.toList.take k) < 72057594037927936 := by
          have h := takeL_lt (s.data.toList.take k)
          have hl : (s.data.toList.take k).length ≤ 7 := by have := List.length_take_le k s.data.toList; omega
          exact Nat.lt_of_lt_of_le h (by have := Nat.pow_le_pow_right (n := 256) (by omega) hl; simpa using this)
        have hb : (takeL (s.data.toList.take k) : Int) * 256 ≤ 18446744073709551360 := by omega
        have hlt' : decide (k < 2) = true := by simpa using hlt
        go_wp2
        go_round
        case rel => exact ⟨k + 1, by omega, by go_num, by rw [HS.out, ← add_byte _ _ (by exact UInt8.toNat_lt _) hb1]⟩
        case measure => simp [intOf]; omega
      · obtain rfl : k = 2 := by omega
        go_wp2
        go_quiet (fail)
        go_wp2
        go_ret3
        refine ⟨?_, below_drewN (Below.refl _ _) _⟩
        simp [takeV, takeR, takeE, Hok.out, isW]

set_option maxHeartbeats 400000 in
theorem rtake_4 (s : ByteArray) (w : World) :
    Calls Tryz.prog 116 #[.string s, .int .i64 4] w fun e w' => e = .returned (.tuple #[.int .u64 (takeV s 4), .string (takeR s 4), .int .i64 (takeE s 4)]) ∧ Below w.heap.size w w' := by
  by_cases hs : s.size < 4
  · have hok : takeOk s 4 = false := by simp [takeOk, isW]; omega
    have hd : decide ((s.size : Int) < 4) = true := by simp; omega
    go_enter Tryz.func116, Tryz.ntmps116
    go_wp2
    go_ret3
    exact ⟨by simp [takeV, takeR, takeE, hok, isW], Below.refl _ _⟩
  · have hok : takeOk s 4 = true := by simp [takeOk, isW]; omega
    have hd : decide ((s.size : Int) < 4) = false := by simp; omega
    have Hok := Lib.hid hok
    clear hok
    go_enter Tryz.func116, Tryz.ntmps116
    go_wp2
    go_loop [7, 8] (fun v i => ∃ k : Nat, k ≤ 4 ∧ i = .int .i64 k ∧ v = .int .u64 (takeL (s.data.toList.take k))) (fun _ i => 4 - (intOf i).toNat)
    case atStart => exact ⟨0, by omega, rfl, rfl⟩
    case round =>
      obtain ⟨k, hk, rfl, rfl⟩ := hrel
      by_cases hlt : k < 4
      · have HS := Lib.hid (take_succ s k (by omega))
        have hb1 : takeL (s.data.toList.take k) < 72057594037927936 := by
          have h := takeL_lt (s.data.toList.take k)
          have hl : (s.data.toList.take k).length ≤ 7 := by have := List.length_take_le k s.data.toList; omega
          exact Nat.lt_of_lt_of_le h (by have := Nat.pow_le_pow_right (n := 256) (by omega) hl; simpa using this)
        have hb : (takeL (s.data.toList.take k) : Int) * 256 ≤ 18446744073709551360 := by omega
        have hlt' : decide (k < 4) = true := by simpa using hlt
        go_wp2
        go_round
        case rel => exact ⟨k + 1, by omega, by go_num, by rw [HS.out, ← add_byte _ _ (by exact UInt8.toNat_lt _) hb1]⟩
        case measure => simp [intOf]; omega
      · obtain rfl : k = 4 := by omega
        go_wp2
        go_quiet (fail)
        go_wp2
        go_ret3
        refine ⟨?_, below_drewN (Below.refl _ _) _⟩
        simp [takeV, takeR, takeE, Hok.out, isW]

set_option maxHeartbeats 400000 in
theorem rtake_8 (s : ByteArray) (w : World) :
    Calls Tryz.prog 116 #[.string s, .int .i64 8] w fun e w' => e = .returned (.tuple #[.int .u64 (takeV s 8), .string (takeR s 8), .int .i64 (takeE s 8)]) ∧ Below w.heap.size w w' := by
  by_cases hs : s.size < 8
  · have hok : takeOk s 8 = false := by simp [takeOk, isW]; omega
    have hd : decide ((s.size : Int) < 8) = true := by simp; omega
    go_enter Tryz.func116, Tryz.ntmps116
    go_wp2
    go_ret3
    exact ⟨by simp [takeV, takeR, takeE, hok, isW], Below.refl _ _⟩
  · have hok : takeOk s 8 = true := by simp [takeOk, isW]; omega
    have hd : decide ((s.size : Int) < 8) = false := by simp; omega
    have Hok := Lib.hid hok
    clear hok
    go_enter Tryz.func116, Tryz.ntmps116
    go_wp2
    go_loop [7, 8] (fun v i => ∃ k : Nat, k ≤ 8 ∧ i = .int .i64 k ∧ v = .int .u64 (takeL (s.data.toList.take k))) (fun _ i => 8 - (intOf i).toNat)
    case atStart => exact ⟨0, by omega, rfl, rfl⟩
    case round =>
      obtain ⟨k, hk, rfl, rfl⟩ := hrel
      by_cases hlt : k < 8
      · have HS := Lib.hid (take_succ s k (by omega))
        have hb1 : takeL (s.data.toList.take k) < 72057594037927936 := by
          have h := takeL_lt (s.data.toList.take k)
          have hl : (s.data.toList.take k).length ≤ 7 := by have := List.length_take_le k s.data.toList; omega
          exact Nat.lt_of_lt_of_le h (by have := Nat.pow_le_pow_right (n := 256) (by omega) hl; simpa using this)
        have hb : (takeL (s.data.toList.take k) : Int) * 256 ≤ 18446744073709551360 := by omega
        have hlt' : decide (k < 8) = true := by simpa using hlt
        go_wp2
        go_round
        case rel => exact ⟨k + 1, by omega, by go_num, by rw [HS.out, ← add_byte _ _ (by exact UInt8.toNat_lt _) hb1]⟩
        case measure => simp [intOf]; omega
      · obtain rfl : k = 8 := by omega
        go_wp2
        go_quiet (fail)
        go_wp2
        go_ret3
        refine ⟨?_, below_drewN (Below.refl _ _) _⟩
        simp [takeV, takeR, takeE, Hok.out, isW]

theorem rtake_any (s : ByteArray) (n : Int) (w : World) :
    Calls Tryz.prog 116 #[.string s, .int .i64 n] w fun e w' => e = .returned (.tuple #[.int .u64 (takeV s n), .string (takeR s n), .int .i64 (takeE s n)]) ∧ Below w.heap.size w w' := by
  cases hn : isW n
  · refine (rtake_arg s n w hn).mono ?_
    rintro e w' ⟨rfl, rfl⟩
    exact ⟨by simp [takeR, takeV, takeE, takeOk, hn], Below.refl _ _⟩
  · rcases isW_cases hn with rfl | rfl | rfl | rfl
    · exact rtake_1 s w
    · exact rtake_2 s w
    · exact rtake_4 s w
    · exact rtake_8 s w

end Go.Proofs.YtkdiccedkjbpeaaGreatDoorR

/-
  The document's own TakeShort of interchangeref02 is what the plain functions of PText say; nothing that was there is changed. No condition but that a text has fewer than 2^62 bytes.
-/
namespace Go.Proofs.YtkdiccedkjbpeaaGreatDoorR
open Go.RowKit

/-- a short text by its parts: the first byte is the length -/
theorem take_first (s : ByteArray) (h : 0 < s.size) : takeOk s 1 = true ∧ takeV s 1 = ((s[0]'h).toNat : Int) ∧ takeR s 1 = s.extract 1 s.size := by
  have h1 : takeOk s 1 = true := by simp [takeOk, isW]; omega
  refine ⟨h1, ?_, ?_⟩
  · rw [takeV, if_pos h1]
    have e : s.data.toList.take (Int.toNat 1) = s.data.toList.take (0 + 1) := rfl
    rw [e, take_succ s 0 h, List.take_zero]
    show (((0 * 256 + (s[0]'h).toNat : Nat)) : Int) = _
    omega
  · rw [takeR, if_pos h1]; rfl
theorem extract_extract (s : ByteArray) (a b : Nat) : (s.extract 1 s.size).extract a b = s.extract (1 + a) (min (1 + b) s.size) := by
  apply ba_ext
  rw [Lib.extract_data, Lib.extract_data, Lib.extract_data, List.drop_take, List.take_take, List.drop_drop]
  congr 1
  omega

theorem rtakeShort_any (s : ByteArray) (w : World) (hs : s.size < 4611686018427387904) :
    Calls Tryz.prog 117 #[.string s] w fun e w' => e = .returned (.tuple #[.string (ttA 1 s), .string (ttR 1 s), .int .i64 (ttE 1 s)]) ∧ Below w.heap.size w w' := by
  by_cases h0 : 0 < s.size
  · obtain ⟨h1, h2, h3⟩ := take_first s h0
    have hr : (s.extract 1 s.size).size = s.size - 1 := by rw [ByteArray.size_extract]; omega
    have hb := UInt8.toNat_lt (s[0]'h0)
    by_cases hc : 1 + (s[0]'h0).toNat ≤ s.size
    · have H := Lib.hid (show ttA 1 s = s.extract 1 (1 + (s[0]'h0).toNat) ∧ ttR 1 s = s.extract (1 + (s[0]'h0).toNat) s.size ∧ ttE 1 s = 0 by
        have g : skipOk (takeR s 1) (takeV s 1) = true := by rw [h2, h3, skipOk, hr]; simp; omega
        rw [ttA, ttR, ttE, if_pos h1, if_pos h1, if_pos h1, skipA, skipB, skipE, if_pos g, if_pos g, if_pos g, h2, h3, extract_extract, extract_extract, hr]
        refine ⟨?_, ?_, rfl⟩
        · rw [Nat.min_eq_left (by omega)]; rfl
        · rw [Nat.min_eq_right (by omega)]; rfl)
      clear h1 h2 h3 hr
      go_enter Tryz.func117, Tryz.ntmps117
      go_wp2
      go_quiet (fail)
      go_wp2
      go_ret3
      refine ⟨?_, below_drewN (Below.refl _ _) _⟩
      rw [H.out.1, H.out.2.1, H.out.2.2]
      rfl
    · have H := Lib.hid (show ttA 1 s = ⟨#[]⟩ ∧ ttR 1 s = ⟨#[]⟩ ∧ ttE 1 s = 2 by
        have g : skipOk (takeR s 1) (takeV s 1) = false := by rw [h2, h3, skipOk, hr]; simp; omega
        simp [ttA, ttR, ttE, h1, skipA, skipB, skipE, g])
      clear h1 h2 h3 hr
      go_enter Tryz.func117, Tryz.ntmps117
      go_wp2
      go_ret3
      refine ⟨?_, Below.refl _ _⟩
      rw [H.out.1, H.out.2.1, H.out.2.2]
      rfl
  · have H := Lib.hid (show ttA 1 s = ⟨#[]⟩ ∧ ttR 1 s = ⟨#[]⟩ ∧ ttE 1 s = 2 by
      have g : takeOk s 1 = false := by simp [takeOk, isW]; omega
      simp [ttA, ttR, ttE, g, takeE, isW])
    go_enter Tryz.func117, Tryz.ntmps117
    go_wp2
    go_ret3
    refine ⟨?_, Below.refl _ _⟩
    rw [H.out.1, H.out.2.1, H.out.2.2]
    rfl

end Go.Proofs.YtkdiccedkjbpeaaGreatDoorR

/-
  The document's own inside and size of interchangeref03 are what the plain functions of PTab say; nothing that was there is changed. Conditions: texts of fewer than 2^62 bytes.
-/
namespace Go.Proofs.YtkdiccedkjbpeaaGreatDoorR
open Go.RowKit

set_option maxRecDepth 100000 in
theorem rinside_any (s : ByteArray) (w : World) (hs : s.size < 4611686018427387904) :
    Calls Tryz.prog 107 #[.string s] w fun e w' => e = .returned (.tuple #[.string (ttA 4 s), .string (ttR 4 s), .int .i64 (ttE 4 s)]) ∧ Below w.heap.size w w' := by
  have hl := takeR_le s 4
  have h0 := takeV_nonneg s 4
  have h4 := takeV_lt s 4
  go_enter Tryz.func107, Tryz.ntmps107
  go_wp2_with fail
  refine (rtake_any s 4 w).mono ?_
  rintro e w1 ⟨rfl, hb⟩
  cases h : takeOk s 4
  · obtain ⟨t1, -⟩ := takeE_not h
    have H := Lib.hid (show ttA 4 s = ⟨#[]⟩ ∧ ttR 4 s = ⟨#[]⟩ ∧ ttE 4 s = 2 by
      refine ⟨by rw [ttA, if_neg (by simp [h])], by rw [ttR, if_neg (by simp [h])], ?_⟩
      exact ttE_four (by rw [ttOk, h]; rfl))
    clear h
    generalize takeV s 4 = a at h0 h4 ⊢
    generalize takeR s 4 = b at hl ⊢
    generalize takeE s 4 = x at t1 ⊢
    go_wp2
    go_ret3
    refine ⟨?_, hb⟩
    rw [H.out.1, H.out.2.1, H.out.2.2]
    rfl
  · rw [takeE_of h]
    have HA := Lib.hid (show ttA 4 s = skipA (takeR s 4) (takeV s 4) ∧ ttR 4 s = skipB (takeR s 4) (takeV s 4) ∧ ttE 4 s = skipE (takeR s 4) (takeV s 4) from ⟨by rw [ttA, if_pos h], by rw [ttR, if_pos h], by rw [ttE, if_pos h]⟩)
    clear h
    generalize takeV s 4 = v at h0 h4 HA ⊢
    generalize takeR s 4 = b at hl HA ⊢
    obtain ⟨k, rfl⟩ := Int.eq_ofNat_of_zero_le h0
    clear h0 h4
    by_cases hc : k ≤ b.size
    · have hk : skipOk b (k : Int) = true := by simp [skipOk]; omega
      have H := Lib.hid (show ttA 4 s = b.extract 0 k ∧ ttR 4 s = b.extract k b.size ∧ ttE 4 s = 0 by
        rw [HA.out.1, HA.out.2.1, HA.out.2.2, skipA, skipB, skipE, if_pos hk, if_pos hk, if_pos hk]
        exact ⟨rfl, rfl, rfl⟩)
      clear HA hk
      go_wp2
      go_quiet (fail)
      go_wp2
      go_ret3
      refine ⟨?_, below_drewN hb _⟩
      rw [H.out.1, H.out.2.1, H.out.2.2]
      rfl
    · have hk : skipOk b (k : Int) = false := by simp [skipOk]; omega
      have H := Lib.hid (show ttA 4 s = ⟨#[]⟩ ∧ ttR 4 s = ⟨#[]⟩ ∧ ttE 4 s = 2 by
        rw [HA.out.1, HA.out.2.1, HA.out.2.2, skipA, skipB, skipE, if_neg (by simp [hk]), if_neg (by simp [hk]), if_neg (by simp [hk])]
        exact ⟨rfl, rfl, rfl⟩)
      clear HA hk
      go_wp2
      go_ret3
      refine ⟨?_, hb⟩
      rw [H.out.1, H.out.2.1, H.out.2.2]
      rfl

/-- how many bytes a value of a kind has; -1: not always as many -/
def sizeK (c : Int) : Int := if 0 ≤ kindV c then kindV c else -1
set_option maxHeartbeats 2000000 in
theorem rsize_any (c : Int) (w : World) :
    Calls Tryz.prog 123 #[.int .u8 c] w fun e w' => e = .returned (.int .i64 (sizeK c)) ∧ w = w' := by
  by_cases h : c = 86 ∨ c = 116 ∨ c = 98 ∨ c = 66 ∨ c = 115 ∨ c = 117 ∨ c = 73 ∨ c = 105 ∨ c = 102 ∨ c = 68 ∨ c = 108 ∨ c = 100 ∨ c = 84
  · rcases h with rfl | rfl | rfl | rfl | rfl | rfl | rfl | rfl | rfl | rfl | rfl | rfl | rfl
    · have H := Lib.hid (show sizeK 86 = 0 by decide)
      go_enter Tryz.func123, Tryz.ntmps123
      go_wp2
      go_ret
      exact ⟨by rw [H.out]; rfl, rfl⟩
    · have H := Lib.hid (show sizeK 116 = 1 by decide)
      go_enter Tryz.func123, Tryz.ntmps123
      go_wp2
      go_ret
      exact ⟨by rw [H.out]; rfl, rfl⟩
    · have H := Lib.hid (show sizeK 98 = 1 by decide)
      go_enter Tryz.func123, Tryz.ntmps123
      go_wp2
      go_ret
      exact ⟨by rw [H.out]; rfl, rfl⟩
    · have H := Lib.hid (show sizeK 66 = 1 by decide)
      go_enter Tryz.func123, Tryz.ntmps123
      go_wp2
      go_ret
      exact ⟨by rw [H.out]; rfl, rfl⟩
    · have H := Lib.hid (show sizeK 115 = 2 by decide)
      go_enter Tryz.func123, Tryz.ntmps123
      go_wp2
      go_ret
      exact ⟨by rw [H.out]; rfl, rfl⟩
    · have H := Lib.hid (show sizeK 117 = 2 by decide)
      go_enter Tryz.func123, Tryz.ntmps123
      go_wp2
      go_ret
      exact ⟨by rw [H.out]; rfl, rfl⟩
    · have H := Lib.hid (show sizeK 73 = 4 by decide)
      go_enter Tryz.func123, Tryz.ntmps123
      go_wp2
      go_ret
      exact ⟨by rw [H.out]; rfl, rfl⟩
    · have H := Lib.hid (show sizeK 105 = 4 by decide)
      go_enter Tryz.func123, Tryz.ntmps123
      go_wp2
      go_ret
      exact ⟨by rw [H.out]; rfl, rfl⟩
    · have H := Lib.hid (show sizeK 102 = 4 by decide)
      go_enter Tryz.func123, Tryz.ntmps123
      go_wp2
      go_ret
      exact ⟨by rw [H.out]; rfl, rfl⟩
    · have H := Lib.hid (show sizeK 68 = 5 by decide)
      go_enter Tryz.func123, Tryz.ntmps123
      go_wp2
      go_ret
      exact ⟨by rw [H.out]; rfl, rfl⟩
    · have H := Lib.hid (show sizeK 108 = 8 by decide)
      go_enter Tryz.func123, Tryz.ntmps123
      go_wp2
      go_ret
      exact ⟨by rw [H.out]; rfl, rfl⟩
    · have H := Lib.hid (show sizeK 100 = 8 by decide)
      go_enter Tryz.func123, Tryz.ntmps123
      go_wp2
      go_ret
      exact ⟨by rw [H.out]; rfl, rfl⟩
    · have H := Lib.hid (show sizeK 84 = 8 by decide)
      go_enter Tryz.func123, Tryz.ntmps123
      go_wp2
      go_ret
      exact ⟨by rw [H.out]; rfl, rfl⟩
  · have hs : sizeK c = -1 := by
      unfold sizeK kindV
      repeat' split
      all_goals omega
    have t1 : (c == 86) = false := by rw [beq_eq_false_iff_ne]; omega
    have t2 : (c == 116) = false := by rw [beq_eq_false_iff_ne]; omega
    have t3 : (c == 98) = false := by rw [beq_eq_false_iff_ne]; omega
    have t4 : (c == 66) = false := by rw [beq_eq_false_iff_ne]; omega
    have t5 : (c == 115) = false := by rw [beq_eq_false_iff_ne]; omega
    have t6 : (c == 117) = false := by rw [beq_eq_false_iff_ne]; omega
    have t7 : (c == 73) = false := by rw [beq_eq_false_iff_ne]; omega
    have t8 : (c == 105) = false := by rw [beq_eq_false_iff_ne]; omega
    have t9 : (c == 102) = false := by rw [beq_eq_false_iff_ne]; omega
    have t10 : (c == 68) = false := by rw [beq_eq_false_iff_ne]; omega
    have t11 : (c == 108) = false := by rw [beq_eq_false_iff_ne]; omega
    have t12 : (c == 100) = false := by rw [beq_eq_false_iff_ne]; omega
    have t13 : (c == 84) = false := by rw [beq_eq_false_iff_ne]; omega
    have H := Lib.hid hs
    clear h hs
    go_enter Tryz.func123, Tryz.ntmps123
    go_wp2
    go_ret
    exact ⟨by rw [H.out]; rfl, rfl⟩
end Go.Proofs.YtkdiccedkjbpeaaGreatDoorR

/-
  The document's own row and value of interchangeref03 are what the plain functions of PTab say, by induction on a text's size; nothing that was there is changed. Conditions: texts of fewer than 2^62 bytes.
-/
namespace Go.Proofs.YtkdiccedkjbpeaaGreatDoorR
open Go.RowKit

/-- the document's value answers as PTab's val, of texts of at most n bytes -/
def RVal (n : Nat) : Prop := ∀ (s : ByteArray) (depth : Int) (w : World), s.size ≤ n → s.size < 4611686018427387904 → 0 ≤ depth → depth ≤ 32 →
  Calls Tryz.prog 118 #[.string s, .int .i64 depth] w fun e w' => ∃ r d, e = .returned (.tuple #[.string r, .int .i64 d, .int .i64 (val s (32 - depth)).err]) ∧ ((val s (32 - depth)).err = 0 → r = (val s (32 - depth)).rest ∧ d = depth + (val s (32 - depth)).deep) ∧ Below w.heap.size w w'
/-- a row's answer -/
def RRow (kf : Bool) (n : Nat) : Prop := ∀ (b : ByteArray) (depth : Int) (w : World), b.size ≤ n → b.size < 4611686018427387904 → 0 ≤ depth → depth ≤ 32 →
  Calls Tryz.prog 108 #[.string b, .int .i64 depth, .bool kf] w fun e w' => ∃ d, e = .returned (.tuple #[.int .i64 d, .int .i64 (wErr (items kf b (32 - depth)).2)]) ∧ ((items kf b (32 - depth)).2 = 0 → d = depth + deepest (items kf b (32 - depth)).1) ∧ Below w.heap.size w w'

theorem wErr_cases (x : Int) : (x = 2 ∧ wErr x = 3) ∨ (x ≠ 2 ∧ wErr x = x) := by
  unfold wErr
  split
  · exact .inl ⟨by assumption, rfl⟩
  · exact .inr ⟨by assumption, rfl⟩

set_option maxRecDepth 100000 in
set_option maxHeartbeats 2000000 in
theorem rrow_of (n : Nat) (hv : RVal n) : RRow false n := by
  intro body depth w hn hs h0 h32
  have hstart := deepest_nonneg (items false body (32 - depth)).1
  go_enter Tryz.func108, Tryz.ntmps108
  go_wp2
  go_loopw [0, 8] (fun b d wr => ∃ (r : ByteArray) (k : Int), b = .string r ∧ d = .int .i64 k ∧ r.size ≤ body.size ∧ depth ≤ k ∧ k ≤ 32 ∧ Hid ((items false r (32 - depth)).2 = (items false body (32 - depth)).2 ∧ max k (depth + deepest (items false r (32 - depth)).1) = depth + deepest (items false body (32 - depth)).1) ∧ Below w.heap.size w wr) (fun b _ _ => tabLen b)
  case atStart => exact ⟨body, depth, rfl, rfl, Nat.le_refl _, by omega, by omega, Lib.hid ⟨rfl, by omega⟩, Below.refl _ _⟩
  case round =>
    obtain ⟨r, k, rfl, rfl, hr1, hk0, hk1, HI, hbr⟩ := hrel
    by_cases hz : r.size = 0
    · have H : Hid (wErr (items false body (32 - depth)).2 = 0 ∧ k = depth + deepest (items false body (32 - depth)).1) := Lib.hid (by
        have h := HI.out
        rw [items_nil false _ hz] at h
        rw [← h.1, ← h.2]
        refine ⟨rfl, ?_⟩
        simp [deepest]; omega)
      clear HI
      go_wp2
      go_ret2
      exact ⟨k, by rw [H.out.1]; rfl, fun _ => H.out.2, hbr⟩
    · have hpos : 0 < r.size := by omega
      go_wp2_with fail
      refine (hv r depth wr (by omega) (by omega) h0 h32).mono ?_
      rintro e w2 ⟨y, d, rfl, hok, hb2⟩
      have hbr2 := hbr.trans (hb2.mono hbr.size)
      obtain ⟨d0, d1⟩ := val_deep_le (s := r) (room := 32 - depth) (by omega)
      clear hbr hb2
      by_cases he : (val r (32 - depth)).err = 0
      · obtain ⟨rfl, rfl⟩ := hok he
        have hlt := val_rest he
        have HX : Hid ((items false (val r (32 - depth)).rest (32 - depth)).2 = (items false body (32 - depth)).2 ∧ max (max k (depth + (val r (32 - depth)).deep)) (depth + deepest (items false (val r (32 - depth)).rest (32 - depth)).1) = depth + deepest (items false body (32 - depth)).1) := Lib.hid (by
          have h1 := HI.out
          have h2 := items_go false (room := 32 - depth) hz rfl he
          simp only [behindKey_false] at h2
          rw [h2] at h1
          simp only [deepest] at h1
          exact ⟨h1.1, by omega⟩)
        rw [he]
        clear HI hok he
        generalize (val r (32 - depth)).deep = x at d0 d1 HX ⊢
        generalize (val r (32 - depth)).rest = y at hlt HX ⊢
        by_cases hm : k < depth + x
        · have em : max k (depth + x) = depth + x := by omega
          rw [em] at HX
          go_wp2
          go_roundw
          case rel => exact ⟨y, _, rfl, rfl, by omega, by omega, by omega, HX, hbr2⟩
          case measure => simp only [tabLen]; omega
        · have em : max k (depth + x) = k := by omega
          rw [em] at HX
          go_wp2
          go_roundw
          case rel => exact ⟨y, _, rfl, rfl, by omega, by omega, by omega, HX, hbr2⟩
          case measure => simp only [tabLen]; omega
      · have H : Hid (wErr (items false body (32 - depth)).2 = wErr (val r (32 - depth)).err ∧ (items false body (32 - depth)).2 ≠ 0) := Lib.hid (by
          have h1 := HI.out
          rw [items_err false (room := 32 - depth) hz rfl he] at h1
          simp only [behindKey_false] at h1
          rw [← h1.1]
          exact ⟨rfl, he⟩)
        clear HI hok
        have t0 : ((val r (32 - depth)).err != 0) = true := by simpa using he
        rcases wErr_cases (val r (32 - depth)).err with ⟨w1, w2'⟩ | ⟨w1, w2'⟩
        · rw [w2'] at H
          rw [w1]
          clear he w1 w2' t0
          go_wp2
          go_ret2
          exact ⟨0, by rw [H.out.1]; rfl, fun h => absurd h H.out.2, hbr2⟩
        · rw [w2'] at H
          have t2 : ((val r (32 - depth)).err == 2) = false := by simpa using w1
          generalize (val r (32 - depth)).err = x at t0 t2 H ⊢
          clear he w1 w2'
          go_wp2
          go_ret2
          exact ⟨0, by rw [H.out.1]; rfl, fun h => absurd h H.out.2, hbr2⟩

set_option maxRecDepth 100000 in
set_option maxHeartbeats 2000000 in
theorem rtab_of (n : Nat) (hv : RVal n) : RRow true n := by
  intro body depth w hn hs h0 h32
  have hstart := deepest_nonneg (items true body (32 - depth)).1
  go_enter Tryz.func108, Tryz.ntmps108
  go_wp2
  go_loopw [0, 8] (fun b d wr => ∃ (r : ByteArray) (k : Int), b = .string r ∧ d = .int .i64 k ∧ r.size ≤ body.size ∧ depth ≤ k ∧ k ≤ 32 ∧ Hid ((items true r (32 - depth)).2 = (items true body (32 - depth)).2 ∧ max k (depth + deepest (items true r (32 - depth)).1) = depth + deepest (items true body (32 - depth)).1) ∧ Below w.heap.size w wr) (fun b _ _ => tabLen b)
  case atStart => exact ⟨body, depth, rfl, rfl, Nat.le_refl _, by omega, by omega, Lib.hid ⟨rfl, by omega⟩, Below.refl _ _⟩
  case round =>
    obtain ⟨r, k, rfl, rfl, hr1, hk0, hk1, HI, hbr⟩ := hrel
    by_cases hz : r.size = 0
    · have H : Hid (wErr (items true body (32 - depth)).2 = 0 ∧ k = depth + deepest (items true body (32 - depth)).1) := Lib.hid (by
        have h := HI.out
        rw [items_nil true _ hz] at h
        rw [← h.1, ← h.2]
        refine ⟨rfl, ?_⟩
        simp [deepest]; omega)
      clear HI
      go_wp2
      go_ret2
      exact ⟨k, by rw [H.out.1]; rfl, fun _ => H.out.2, hbr⟩
    · have hpos : 0 < r.size := by omega
      have hle := ttR_le 1 r
      go_wp2_with fail
      refine (rtakeShort_any r wr (by omega)).mono ?_
      rintro e w1 ⟨rfl, hb1⟩
      have hbr1 := hbr.trans (hb1.mono hbr.size)
      clear hb1 hbr
      rcases Bool.eq_false_or_eq_true (ttOk 1 r) with hk | hk
      rotate_left
      · have H : Hid (wErr (items true body (32 - depth)).2 = 3 ∧ (items true body (32 - depth)).2 ≠ 0) := Lib.hid (by
          have h1 := HI.out
          rw [items_key r (32 - depth) hz hk, ttE_one hk] at h1
          rw [← h1.1]
          exact ⟨rfl, by decide⟩)
        rw [ttE_one hk]
        clear HI hk
        generalize ttA 1 r = a
        generalize ttR 1 r = b
        go_wp2
        go_ret2
        exact ⟨0, by rw [H.out.1]; rfl, fun h => absurd h H.out.2, hbr1⟩
      · rw [ttE_of hk]
        have HGo := Lib.hid (fun he => items_go true (b := r) (room := 32 - depth) hz (by simp [hk]) he)
        have HEr := Lib.hid (fun he => items_err true (b := r) (room := 32 - depth) hz (by simp [hk]) he)
        rw [behindKey_true] at HGo HEr
        clear hk
        generalize ttA 1 r = a
        generalize ttR 1 r = b at hle HGo HEr ⊢
        go_wp2_with fail
        refine (hv b depth w1 (by omega) (by omega) h0 h32).mono ?_
        rintro e w2 ⟨y, d, rfl, hok, hb2⟩
        have hbr2 := hbr1.trans (hb2.mono hbr1.size)
        obtain ⟨d0, d1⟩ := val_deep_le (s := b) (room := 32 - depth) (by omega)
        clear hbr1 hb2
        by_cases he : (val b (32 - depth)).err = 0
        · obtain ⟨rfl, rfl⟩ := hok he
          have hlt := val_rest he
          have HX : Hid ((items true (val b (32 - depth)).rest (32 - depth)).2 = (items true body (32 - depth)).2 ∧ max (max k (depth + (val b (32 - depth)).deep)) (depth + deepest (items true (val b (32 - depth)).rest (32 - depth)).1) = depth + deepest (items true body (32 - depth)).1) := Lib.hid (by
            have h1 := HI.out
            rw [HGo.out he] at h1
            simp only [deepest] at h1
            exact ⟨h1.1, by omega⟩)
          rw [he]
          clear HI hok he HGo HEr
          generalize (val b (32 - depth)).deep = x at d0 d1 HX ⊢
          generalize (val b (32 - depth)).rest = y at hlt HX ⊢
          by_cases hm : k < depth + x
          · have em : max k (depth + x) = depth + x := by omega
            rw [em] at HX
            go_wp2
            go_roundw
            case rel => exact ⟨y, _, rfl, rfl, by omega, by omega, by omega, HX, hbr2⟩
            case measure => simp only [tabLen]; omega
          · have em : max k (depth + x) = k := by omega
            rw [em] at HX
            go_wp2
            go_roundw
            case rel => exact ⟨y, _, rfl, rfl, by omega, by omega, by omega, HX, hbr2⟩
            case measure => simp only [tabLen]; omega
        · have H : Hid (wErr (items true body (32 - depth)).2 = wErr (val b (32 - depth)).err ∧ (items true body (32 - depth)).2 ≠ 0) := Lib.hid (by
            have h1 := HI.out
            rw [HEr.out he] at h1
            rw [← h1.1]
            exact ⟨rfl, he⟩)
          clear HI hok HGo HEr
          have t0 : ((val b (32 - depth)).err != 0) = true := by simpa using he
          rcases wErr_cases (val b (32 - depth)).err with ⟨w1', w2'⟩ | ⟨w1', w2'⟩
          · rw [w2'] at H
            rw [w1']
            clear he w1' w2' t0
            go_wp2
            go_ret2
            exact ⟨0, by rw [H.out.1]; rfl, fun h => absurd h H.out.2, hbr2⟩
          · rw [w2'] at H
            have t2 : ((val b (32 - depth)).err == 2) = false := by simpa using w1'
            generalize (val b (32 - depth)).err = x at t0 t2 H ⊢
            clear he w1' w2'
            go_wp2
            go_ret2
            exact ⟨0, by rw [H.out.1]; rfl, fun h => absurd h H.out.2, hbr2⟩
end Go.Proofs.YtkdiccedkjbpeaaGreatDoorR
