/-
  Several texts joined in one file: each says at its own head, below, what it proves, and its conditions.
-/
import Derived.Test.YtllgkohgcicbhaaGreatDoorZB
import Derived.Test.YtllgkohgcicbhaaGreatDoorZC
import Derived.Test.YtllgkohgcicbhaaGreatDoorZA
/-
  The four widths as tests. No condition.
-/
namespace Go.Proofs.YtllgkohgcicbhaaGreatDoor

theorem isW_tests {n : Int} (h : isW n = false) : (n != 1) = true ∧ (n != 2) = true ∧ (n != 4) = true ∧ (n != 8) = true := by
 simp [isW] at h
 simp
 omega
end Go.Proofs.YtllgkohgcicbhaaGreatDoor

/-
  The document's own answers for layer 1, Take of interchangeref01, are what num.Take answers; nothing that was there is changed. No condition.
-/
namespace Go.Proofs.YtllgkohgcicbhaaGreatDoor
open Go.RowKit

theorem add_byte (x b : Nat) (hb : b < 256) (hx : x < 72057594037927936) :
 IntKind.u64.wrap (256 * (x : Int) + IntKind.u64.wrap (b : Int)) = ((x * 256 + b : Nat) : Int) := by
 rw [IntWalk.u64_in (b : Int) (by omega), IntWalk.u64_in _ (by omega)]
 omega
theorem rtake_arg (s : ByteArray) (n : Int) (w : World) (hn : isW n = false) :
 Calls Tryz.prog 45 #[.string s, .int .i64 n] w fun e w' => e = .returned (.tuple #[.int .u64 0, .string ⟨#[]⟩, .int .i64 1]) ∧ w = w' := by
 obtain ⟨t1, t2, t3, t4⟩ := isW_tests hn
 go_enter Tryz.func45, Tryz.ntmps45
 go_wp2
 go_ret3
 exact ⟨rfl, rfl⟩

set_option maxHeartbeats 400000 in
theorem rtake_1 (s : ByteArray) (w : World) :
 Calls Tryz.prog 45 #[.string s, .int .i64 1] w fun e w' => e = .returned (.tuple #[.int .u64 (takeV s 1), .string (takeR s 1), .int .i64 (takeE s 1)]) ∧ Below w.heap.size w w' := by
 by_cases hs : s.size < 1
 · have hok : takeOk s 1 = false := by simp [takeOk, isW]; omega
   have hd : decide ((s.size : Int) < 1) = true := by simp; omega
   go_enter Tryz.func45, Tryz.ntmps45
   go_wp2
   go_ret3
   exact ⟨by simp [takeV, takeR, takeE, hok, isW], Below.refl _ _⟩
 · have hok : takeOk s 1 = true := by simp [takeOk, isW]; omega
   have hd : decide ((s.size : Int) < 1) = false := by simp; omega
   have Hok := Lib.hid hok
   clear hok
   go_enter Tryz.func45, Tryz.ntmps45
   go_wp2
   go_loop [7, 8] (fun v i => ∃ k : Nat, k ≤ 1 ∧ i = .int .i64 k ∧ v = .int .u64 (takeL (s.data.toList.take k))) (fun _ i => 1 - (intOf i).toNat)
   case atStart => exact ⟨0, by omega, rfl, rfl⟩
   case round =>
    obtain ⟨k, hk, rfl, rfl⟩ := hrel
    by_cases hlt : k < 1
    · have HS := Lib.hid (take_succ s k (by omega))
      have hb1 : takeL (s.data.toList.take k) < 72057594037927936 := by
       have h := takeL_lt (s.data.toList.take k)
       have hl : (s.data.toList.take k).length ≤ 7 := by have := List.length_take_le k s.data.toList; omega
       exact Nat.lt_of_lt_of_le h (by have := Nat.pow_le_pow_right (n := 256) (by omega) hl; simpa using this)
      have hb : (takeL (s.data.toList.take k) : Int) * 256 ≤ 18446744073709551360 := by omega
      have hlt' : decide (k < 1) = true := by simpa using hlt
      go_wp2
      go_round
      case rel => exact ⟨k + 1, by omega, by go_num, by rw [HS.out, ← add_byte _ _ (by exact UInt8.toNat_lt _) hb1]⟩
      case measure => simp [intOf]; omega
    · obtain rfl : k = 1 := by omega
      go_wp2
      go_quiet (fail)
      go_wp2
      go_ret3
      refine ⟨?_, below_drewN (Below.refl _ _) _⟩
      simp [takeV, takeR, takeE, Hok.out, isW]

set_option maxHeartbeats 400000 in
theorem rtake_2 (s : ByteArray) (w : World) :
 Calls Tryz.prog 45 #[.string s, .int .i64 2] w fun e w' => e = .returned (.tuple #[.int .u64 (takeV s 2), .string (takeR s 2), .int .i64 (takeE s 2)]) ∧ Below w.heap.size w w' := by
 by_cases hs : s.size < 2
 · have hok : takeOk s 2 = false := by simp [takeOk, isW]; omega
   have hd : decide ((s.size : Int) < 2) = true := by simp; omega
   go_enter Tryz.func45, Tryz.ntmps45
   go_wp2
   go_ret3
   exact ⟨by simp [takeV, takeR, takeE, hok, isW], Below.refl _ _⟩
 · have hok : takeOk s 2 = true := by simp [takeOk, isW]; omega
   have hd : decide ((s.size : Int) < 2) = false := by simp; omega
   have Hok := Lib.hid hok
   clear hok
   go_enter Tryz.func45, Tryz.ntmps45
   go_wp2
   go_loop [7, 8] (fun v i => ∃ k : Nat, k ≤ 2 ∧ i = .int .i64 k ∧ v = .int .u64 (takeL (s.data.toList.take k))) (fun _ i => 2 - (intOf i).toNat)
   case atStart => exact ⟨0, by omega, rfl, rfl⟩
   case round =>
    obtain ⟨k, hk, rfl, rfl⟩ := hrel
    by_cases hlt : k < 2
    · have HS := Lib.hid (take_succ s k (by omega))
      have hb1 : takeL (s.data.toList.take k) < 72057594037927936 := by
       have h := takeL_lt (s.data.toList.take k)
       have hl : (s.data.toList.take k).length ≤ 7 := by have := List.length_take_le k s.data.toList; omega
       exact Nat.lt_of_lt_of_le h (by have := Nat.pow_le_pow_right (n := 256) (by omega) hl; simpa using this)
      have hb : (takeL (s.data.toList.take k) : Int) * 256 ≤ 18446744073709551360 := by omega
      have hlt' : decide (k < 2) = true := by simpa using hlt
      go_wp2
      go_round
      case rel => exact ⟨k + 1, by omega, by go_num, by rw [HS.out, ← add_byte _ _ (by exact UInt8.toNat_lt _) hb1]⟩
      case measure => simp [intOf]; omega
    · obtain rfl : k = 2 := by omega
      go_wp2
      go_quiet (fail)
      go_wp2
      go_ret3
      refine ⟨?_, below_drewN (Below.refl _ _) _⟩
      simp [takeV, takeR, takeE, Hok.out, isW]

set_option maxHeartbeats 400000 in
theorem rtake_4 (s : ByteArray) (w : World) :
 Calls Tryz.prog 45 #[.string s, .int .i64 4] w fun e w' => e = .returned (.tuple #[.int .u64 (takeV s 4), .string (takeR s 4), .int .i64 (takeE s 4)]) ∧ Below w.heap.size w w' := by
 by_cases hs : s.size < 4
 · have hok : takeOk s 4 = false := by simp [takeOk, isW]; omega
   have hd : decide ((s.size : Int) < 4) = true := by simp; omega
   go_enter Tryz.func45, Tryz.ntmps45
   go_wp2
   go_ret3
   exact ⟨by simp [takeV, takeR, takeE, hok, isW], Below.refl _ _⟩
 · have hok : takeOk s 4 = true := by simp [takeOk, isW]; omega
   have hd : decide ((s.size : Int) < 4) = false := by simp; omega
   have Hok := Lib.hid hok
   clear hok
   go_enter Tryz.func45, Tryz.ntmps45
   go_wp2
   go_loop [7, 8] (fun v i => ∃ k : Nat, k ≤ 4 ∧ i = .int .i64 k ∧ v = .int .u64 (takeL (s.data.toList.take k))) (fun _ i => 4 - (intOf i).toNat)
   case atStart => exact ⟨0, by omega, rfl, rfl⟩
   case round =>
    obtain ⟨k, hk, rfl, rfl⟩ := hrel
    by_cases hlt : k < 4
    · have HS := Lib.hid (take_succ s k (by omega))
      have hb1 : takeL (s.data.toList.take k) < 72057594037927936 := by
       have h := takeL_lt (s.data.toList.take k)
       have hl : (s.data.toList.take k).length ≤ 7 := by have := List.length_take_le k s.data.toList; omega
       exact Nat.lt_of_lt_of_le h (by have := Nat.pow_le_pow_right (n := 256) (by omega) hl; simpa using this)
      have hb : (takeL (s.data.toList.take k) : Int) * 256 ≤ 18446744073709551360 := by omega
      have hlt' : decide (k < 4) = true := by simpa using hlt
      go_wp2
      go_round
      case rel => exact ⟨k + 1, by omega, by go_num, by rw [HS.out, ← add_byte _ _ (by exact UInt8.toNat_lt _) hb1]⟩
      case measure => simp [intOf]; omega
    · obtain rfl : k = 4 := by omega
      go_wp2
      go_quiet (fail)
      go_wp2
      go_ret3
      refine ⟨?_, below_drewN (Below.refl _ _) _⟩
      simp [takeV, takeR, takeE, Hok.out, isW]

set_option maxHeartbeats 400000 in
theorem rtake_8 (s : ByteArray) (w : World) :
 Calls Tryz.prog 45 #[.string s, .int .i64 8] w fun e w' => e = .returned (.tuple #[.int .u64 (takeV s 8), .string (takeR s 8), .int .i64 (takeE s 8)]) ∧ Below w.heap.size w w' := by
 by_cases hs : s.size < 8
 · have hok : takeOk s 8 = false := by simp [takeOk, isW]; omega
   have hd : decide ((s.size : Int) < 8) = true := by simp; omega
   go_enter Tryz.func45, Tryz.ntmps45
   go_wp2
   go_ret3
   exact ⟨by simp [takeV, takeR, takeE, hok, isW], Below.refl _ _⟩
 · have hok : takeOk s 8 = true := by simp [takeOk, isW]; omega
   have hd : decide ((s.size : Int) < 8) = false := by simp; omega
   have Hok := Lib.hid hok
   clear hok
   go_enter Tryz.func45, Tryz.ntmps45
   go_wp2
   go_loop [7, 8] (fun v i => ∃ k : Nat, k ≤ 8 ∧ i = .int .i64 k ∧ v = .int .u64 (takeL (s.data.toList.take k))) (fun _ i => 8 - (intOf i).toNat)
   case atStart => exact ⟨0, by omega, rfl, rfl⟩
   case round =>
    obtain ⟨k, hk, rfl, rfl⟩ := hrel
    by_cases hlt : k < 8
    · have HS := Lib.hid (take_succ s k (by omega))
      have hb1 : takeL (s.data.toList.take k) < 72057594037927936 := by
       have h := takeL_lt (s.data.toList.take k)
       have hl : (s.data.toList.take k).length ≤ 7 := by have := List.length_take_le k s.data.toList; omega
       exact Nat.lt_of_lt_of_le h (by have := Nat.pow_le_pow_right (n := 256) (by omega) hl; simpa using this)
      have hb : (takeL (s.data.toList.take k) : Int) * 256 ≤ 18446744073709551360 := by omega
      have hlt' : decide (k < 8) = true := by simpa using hlt
      go_wp2
      go_round
      case rel => exact ⟨k + 1, by omega, by go_num, by rw [HS.out, ← add_byte _ _ (by exact UInt8.toNat_lt _) hb1]⟩
      case measure => simp [intOf]; omega
    · obtain rfl : k = 8 := by omega
      go_wp2
      go_quiet (fail)
      go_wp2
      go_ret3
      refine ⟨?_, below_drewN (Below.refl _ _) _⟩
      simp [takeV, takeR, takeE, Hok.out, isW]

theorem rtake_any (s : ByteArray) (n : Int) (w : World) :
 Calls Tryz.prog 45 #[.string s, .int .i64 n] w fun e w' => e = .returned (.tuple #[.int .u64 (takeV s n), .string (takeR s n), .int .i64 (takeE s n)]) ∧ Below w.heap.size w w' := by
 cases hn : isW n
 · refine (rtake_arg s n w hn).mono ?_
   rintro e w' ⟨rfl, rfl⟩
   exact ⟨by simp [takeR, takeV, takeE, takeOk, hn], Below.refl _ _⟩
 · rcases isW_cases hn with rfl | rfl | rfl | rfl
   · exact rtake_1 s w
   · exact rtake_2 s w
   · exact rtake_4 s w
   · exact rtake_8 s w

end Go.Proofs.YtllgkohgcicbhaaGreatDoor

/-
  The document's own TakeShort of interchangeref02 is what the plain functions of PText say; nothing that was there is changed. No condition but that a text has fewer than 2^62 bytes.
-/
namespace Go.Proofs.YtllgkohgcicbhaaGreatDoor
open Go.RowKit

/-- a short text by its parts: the first byte is the length -/
theorem take_first (s : ByteArray) (h : 0 < s.size) : takeOk s 1 = true ∧ takeV s 1 = ((s[0]'h).toNat : Int) ∧ takeR s 1 = s.extract 1 s.size := by
 have h1 : takeOk s 1 = true := by simp [takeOk, isW]; omega
 refine ⟨h1, ?_, ?_⟩
 · rw [takeV, if_pos h1]
   have e : s.data.toList.take (Int.toNat 1) = s.data.toList.take (0 + 1) := rfl
   rw [e, take_succ s 0 h, List.take_zero]
   show (((0 * 256 + (s[0]'h).toNat : Nat)) : Int) = _
   omega
 · rw [takeR, if_pos h1]; rfl
theorem extract_extract (s : ByteArray) (a b : Nat) : (s.extract 1 s.size).extract a b = s.extract (1 + a) (min (1 + b) s.size) := by
 apply ba_ext
 rw [Lib.extract_data, Lib.extract_data, Lib.extract_data, List.drop_take, List.take_take, List.drop_drop]
 congr 1
 omega

theorem rtakeShort_any (s : ByteArray) (w : World) (hs : s.size < 4611686018427387904) :
 Calls Tryz.prog 68 #[.string s] w fun e w' => e = .returned (.tuple #[.string (ttA 1 s), .string (ttR 1 s), .int .i64 (ttE 1 s)]) ∧ Below w.heap.size w w' := by
 by_cases h0 : 0 < s.size
 · obtain ⟨h1, h2, h3⟩ := take_first s h0
   have hr : (s.extract 1 s.size).size = s.size - 1 := by rw [ByteArray.size_extract]; omega
   have hb := UInt8.toNat_lt (s[0]'h0)
   by_cases hc : 1 + (s[0]'h0).toNat ≤ s.size
   · have H := Lib.hid (show ttA 1 s = s.extract 1 (1 + (s[0]'h0).toNat) ∧ ttR 1 s = s.extract (1 + (s[0]'h0).toNat) s.size ∧ ttE 1 s = 0 by
      have g : skipOk (takeR s 1) (takeV s 1) = true := by rw [h2, h3, skipOk, hr]; simp; omega
      rw [ttA, ttR, ttE, if_pos h1, if_pos h1, if_pos h1, skipA, skipB, skipE, if_pos g, if_pos g, if_pos g, h2, h3, extract_extract, extract_extract, hr]
      refine ⟨?_, ?_, rfl⟩
      · rw [Nat.min_eq_left (by omega)]; rfl
      · rw [Nat.min_eq_right (by omega)]; rfl)
     clear h1 h2 h3 hr
     go_enter Tryz.func68, Tryz.ntmps68
     go_wp2
     go_quiet (fail)
     go_wp2
     go_ret3
     refine ⟨?_, below_drewN (Below.refl _ _) _⟩
     rw [H.out.1, H.out.2.1, H.out.2.2]
     rfl
   · have H := Lib.hid (show ttA 1 s = ⟨#[]⟩ ∧ ttR 1 s = ⟨#[]⟩ ∧ ttE 1 s = 2 by
      have g : skipOk (takeR s 1) (takeV s 1) = false := by rw [h2, h3, skipOk, hr]; simp; omega
      simp [ttA, ttR, ttE, h1, skipA, skipB, skipE, g])
     clear h1 h2 h3 hr
     go_enter Tryz.func68, Tryz.ntmps68
     go_wp2
     go_ret3
     refine ⟨?_, Below.refl _ _⟩
     rw [H.out.1, H.out.2.1, H.out.2.2]
     rfl
 · have H := Lib.hid (show ttA 1 s = ⟨#[]⟩ ∧ ttR 1 s = ⟨#[]⟩ ∧ ttE 1 s = 2 by
    have g : takeOk s 1 = false := by simp [takeOk, isW]; omega
    simp [ttA, ttR, ttE, g, takeE, isW])
   go_enter Tryz.func68, Tryz.ntmps68
   go_wp2
   go_ret3
   refine ⟨?_, Below.refl _ _⟩
   rw [H.out.1, H.out.2.1, H.out.2.2]
   rfl

end Go.Proofs.YtllgkohgcicbhaaGreatDoor

/-
  The document's own inside and size of interchangeref03 are what the plain functions of PTab say; nothing that was there is changed. Conditions: texts of fewer than 2^62 bytes.
-/
namespace Go.Proofs.YtllgkohgcicbhaaGreatDoor
open Go.RowKit

set_option maxRecDepth 100000 in
theorem rinside_any (s : ByteArray) (w : World) (hs : s.size < 4611686018427387904) :
 Calls Tryz.prog 107 #[.string s] w fun e w' => e = .returned (.tuple #[.string (ttA 4 s), .string (ttR 4 s), .int .i64 (ttE 4 s)]) ∧ Below w.heap.size w w' := by
 have hl := takeR_le s 4
 have h0 := takeV_nonneg s 4
 have h4 := takeV_lt s 4
 go_enter Tryz.func107, Tryz.ntmps107
 go_wp2_with fail
 refine (rtake_any s 4 w).mono ?_
 rintro e w1 ⟨rfl, hb⟩
 cases h : takeOk s 4
 · obtain ⟨t1, -⟩ := takeE_not h
   have H := Lib.hid (show ttA 4 s = ⟨#[]⟩ ∧ ttR 4 s = ⟨#[]⟩ ∧ ttE 4 s = 2 by
    refine ⟨by rw [ttA, if_neg (by simp [h])], by rw [ttR, if_neg (by simp [h])], ?_⟩
    exact ttE_four (by rw [ttOk, h]; rfl))
   clear h
   generalize takeV s 4 = a at h0 h4 ⊢
   generalize takeR s 4 = b at hl ⊢
   generalize takeE s 4 = x at t1 ⊢
   go_wp2
   go_ret3
   refine ⟨?_, hb⟩
   rw [H.out.1, H.out.2.1, H.out.2.2]
   rfl
 · rw [takeE_of h]
   have HA := Lib.hid (show ttA 4 s = skipA (takeR s 4) (takeV s 4) ∧ ttR 4 s = skipB (takeR s 4) (takeV s 4) ∧ ttE 4 s = skipE (takeR s 4) (takeV s 4) from ⟨by rw [ttA, if_pos h], by rw [ttR, if_pos h], by rw [ttE, if_pos h]⟩)
   clear h
   generalize takeV s 4 = v at h0 h4 HA ⊢
   generalize takeR s 4 = b at hl HA ⊢
   obtain ⟨k, rfl⟩ := Int.eq_ofNat_of_zero_le h0
   clear h0 h4
   by_cases hc : k ≤ b.size
   · have hk : skipOk b (k : Int) = true := by simp [skipOk]; omega
     have H := Lib.hid (show ttA 4 s = b.extract 0 k ∧ ttR 4 s = b.extract k b.size ∧ ttE 4 s = 0 by
      rw [HA.out.1, HA.out.2.1, HA.out.2.2, skipA, skipB, skipE, if_pos hk, if_pos hk, if_pos hk]
      exact ⟨rfl, rfl, rfl⟩)
     clear HA hk
     go_wp2
     go_quiet (fail)
     go_wp2
     go_ret3
     refine ⟨?_, below_drewN hb _⟩
     rw [H.out.1, H.out.2.1, H.out.2.2]
     rfl
   · have hk : skipOk b (k : Int) = false := by simp [skipOk]; omega
     have H := Lib.hid (show ttA 4 s = ⟨#[]⟩ ∧ ttR 4 s = ⟨#[]⟩ ∧ ttE 4 s = 2 by
      rw [HA.out.1, HA.out.2.1, HA.out.2.2, skipA, skipB, skipE, if_neg (by simp [hk]), if_neg (by simp [hk]), if_neg (by simp [hk])]
      exact ⟨rfl, rfl, rfl⟩)
     clear HA hk
     go_wp2
     go_ret3
     refine ⟨?_, hb⟩
     rw [H.out.1, H.out.2.1, H.out.2.2]
     rfl

/-- how many bytes a value of a kind has; -1: not always as many -/
def sizeK (c : Int) : Int := if 0 ≤ kindV c then kindV c else -1
set_option maxHeartbeats 2000000 in
theorem rsize_any (c : Int) (w : World) :
 Calls Tryz.prog 149 #[.int .u8 c] w fun e w' => e = .returned (.int .i64 (sizeK c)) ∧ w = w' := by
 by_cases h : c = 86 ∨ c = 116 ∨ c = 98 ∨ c = 66 ∨ c = 115 ∨ c = 117 ∨ c = 73 ∨ c = 105 ∨ c = 102 ∨ c = 68 ∨ c = 108 ∨ c = 100 ∨ c = 84
 · rcases h with rfl | rfl | rfl | rfl | rfl | rfl | rfl | rfl | rfl | rfl | rfl | rfl | rfl
   · have H := Lib.hid (show sizeK 86 = 0 by decide)
     go_enter Tryz.func149, Tryz.ntmps149
     go_wp2
     go_ret
     exact ⟨by rw [H.out]; rfl, rfl⟩
   · have H := Lib.hid (show sizeK 116 = 1 by decide)
     go_enter Tryz.func149, Tryz.ntmps149
     go_wp2
     go_ret
     exact ⟨by rw [H.out]; rfl, rfl⟩
   · have H := Lib.hid (show sizeK 98 = 1 by decide)
     go_enter Tryz.func149, Tryz.ntmps149
     go_wp2
     go_ret
     exact ⟨by rw [H.out]; rfl, rfl⟩
   · have H := Lib.hid (show sizeK 66 = 1 by decide)
     go_enter Tryz.func149, Tryz.ntmps149
     go_wp2
     go_ret
     exact ⟨by rw [H.out]; rfl, rfl⟩
   · have H := Lib.hid (show sizeK 115 = 2 by decide)
     go_enter Tryz.func149, Tryz.ntmps149
     go_wp2
     go_ret
     exact ⟨by rw [H.out]; rfl, rfl⟩
   · have H := Lib.hid (show sizeK 117 = 2 by decide)
     go_enter Tryz.func149, Tryz.ntmps149
     go_wp2
     go_ret
     exact ⟨by rw [H.out]; rfl, rfl⟩
   · have H := Lib.hid (show sizeK 73 = 4 by decide)
     go_enter Tryz.func149, Tryz.ntmps149
     go_wp2
     go_ret
     exact ⟨by rw [H.out]; rfl, rfl⟩
   · have H := Lib.hid (show sizeK 105 = 4 by decide)
     go_enter Tryz.func149, Tryz.ntmps149
     go_wp2
     go_ret
     exact ⟨by rw [H.out]; rfl, rfl⟩
   · have H := Lib.hid (show sizeK 102 = 4 by decide)
     go_enter Tryz.func149, Tryz.ntmps149
     go_wp2
     go_ret
     exact ⟨by rw [H.out]; rfl, rfl⟩
   · have H := Lib.hid (show sizeK 68 = 5 by decide)
     go_enter Tryz.func149, Tryz.ntmps149
     go_wp2
     go_ret
     exact ⟨by rw [H.out]; rfl, rfl⟩
   · have H := Lib.hid (show sizeK 108 = 8 by decide)
     go_enter Tryz.func149, Tryz.ntmps149
     go_wp2
     go_ret
     exact ⟨by rw [H.out]; rfl, rfl⟩
   · have H := Lib.hid (show sizeK 100 = 8 by decide)
     go_enter Tryz.func149, Tryz.ntmps149
     go_wp2
     go_ret
     exact ⟨by rw [H.out]; rfl, rfl⟩
   · have H := Lib.hid (show sizeK 84 = 8 by decide)
     go_enter Tryz.func149, Tryz.ntmps149
     go_wp2
     go_ret
     exact ⟨by rw [H.out]; rfl, rfl⟩
 · have hs : sizeK c = -1 := by
    unfold sizeK kindV
    repeat' split
    all_goals omega
   have t1 : (c == 86) = false := by rw [beq_eq_false_iff_ne]; omega
   have t2 : (c == 116) = false := by rw [beq_eq_false_iff_ne]; omega
   have t3 : (c == 98) = false := by rw [beq_eq_false_iff_ne]; omega
   have t4 : (c == 66) = false := by rw [beq_eq_false_iff_ne]; omega
   have t5 : (c == 115) = false := by rw [beq_eq_false_iff_ne]; omega
   have t6 : (c == 117) = false := by rw [beq_eq_false_iff_ne]; omega
   have t7 : (c == 73) = false := by rw [beq_eq_false_iff_ne]; omega
   have t8 : (c == 105) = false := by rw [beq_eq_false_iff_ne]; omega
   have t9 : (c == 102) = false := by rw [beq_eq_false_iff_ne]; omega
   have t10 : (c == 68) = false := by rw [beq_eq_false_iff_ne]; omega
   have t11 : (c == 108) = false := by rw [beq_eq_false_iff_ne]; omega
   have t12 : (c == 100) = false := by rw [beq_eq_false_iff_ne]; omega
   have t13 : (c == 84) = false := by rw [beq_eq_false_iff_ne]; omega
   have H := Lib.hid hs
   clear h hs
   go_enter Tryz.func149, Tryz.ntmps149
   go_wp2
   go_ret
   exact ⟨by rw [H.out]; rfl, rfl⟩
end Go.Proofs.YtllgkohgcicbhaaGreatDoor

/-
  The document's own row and value of interchangeref03 are what the plain functions of PTab say, by induction on a text's size; nothing that was there is changed. Conditions: texts of fewer than 2^62 bytes.
-/
namespace Go.Proofs.YtllgkohgcicbhaaGreatDoor
open Go.RowKit

/-- the document's value answers as PTab's val, of texts of at most n bytes -/
def RVal (n : Nat) : Prop := ∀ (s : ByteArray) (depth : Int) (w : World), s.size ≤ n → s.size < 4611686018427387904 → 0 ≤ depth → depth ≤ 32 →
 Calls Tryz.prog 135 #[.string s, .int .i64 depth] w fun e w' => ∃ r d, e = .returned (.tuple #[.string r, .int .i64 d, .int .i64 (val s (32 - depth)).err]) ∧ ((val s (32 - depth)).err = 0 → r = (val s (32 - depth)).rest ∧ d = depth + (val s (32 - depth)).deep) ∧ Below w.heap.size w w'
/-- a row's answer -/
def RRow (kf : Bool) (n : Nat) : Prop := ∀ (b : ByteArray) (depth : Int) (w : World), b.size ≤ n → b.size < 4611686018427387904 → 0 ≤ depth → depth ≤ 32 →
 Calls Tryz.prog 108 #[.string b, .int .i64 depth, .bool kf] w fun e w' => ∃ d, e = .returned (.tuple #[.int .i64 d, .int .i64 (wErr (items kf b (32 - depth)).2)]) ∧ ((items kf b (32 - depth)).2 = 0 → d = depth + deepest (items kf b (32 - depth)).1) ∧ Below w.heap.size w w'

theorem wErr_cases (x : Int) : (x = 2 ∧ wErr x = 3) ∨ (x ≠ 2 ∧ wErr x = x) := by
 unfold wErr
 split
 · exact .inl ⟨by assumption, rfl⟩
 · exact .inr ⟨by assumption, rfl⟩

set_option maxRecDepth 100000 in
set_option maxHeartbeats 2000000 in
theorem rrow_of (n : Nat) (hv : RVal n) : RRow false n := by
 intro body depth w hn hs h0 h32
 have hstart := deepest_nonneg (items false body (32 - depth)).1
 go_enter Tryz.func108, Tryz.ntmps108
 go_wp2
 go_loopw [0, 8] (fun b d wr => ∃ (r : ByteArray) (k : Int), b = .string r ∧ d = .int .i64 k ∧ r.size ≤ body.size ∧ depth ≤ k ∧ k ≤ 32 ∧ Hid ((items false r (32 - depth)).2 = (items false body (32 - depth)).2 ∧ max k (depth + deepest (items false r (32 - depth)).1) = depth + deepest (items false body (32 - depth)).1) ∧ Below w.heap.size w wr) (fun b _ _ => tabLen b)
 case atStart => exact ⟨body, depth, rfl, rfl, Nat.le_refl _, by omega, by omega, Lib.hid ⟨rfl, by omega⟩, Below.refl _ _⟩
 case round =>
  obtain ⟨r, k, rfl, rfl, hr1, hk0, hk1, HI, hbr⟩ := hrel
  by_cases hz : r.size = 0
  · have H : Hid (wErr (items false body (32 - depth)).2 = 0 ∧ k = depth + deepest (items false body (32 - depth)).1) := Lib.hid (by
     have h := HI.out
     rw [items_nil false _ hz] at h
     rw [← h.1, ← h.2]
     refine ⟨rfl, ?_⟩
     simp [deepest]; omega)
    clear HI
    go_wp2
    go_ret2
    exact ⟨k, by rw [H.out.1]; rfl, fun _ => H.out.2, hbr⟩
  · have hpos : 0 < r.size := by omega
    go_wp2_with fail
    refine (hv r depth wr (by omega) (by omega) h0 h32).mono ?_
    rintro e w2 ⟨y, d, rfl, hok, hb2⟩
    have hbr2 := hbr.trans (hb2.mono hbr.size)
    obtain ⟨d0, d1⟩ := val_deep_le (s := r) (room := 32 - depth) (by omega)
    clear hbr hb2
    by_cases he : (val r (32 - depth)).err = 0
    · obtain ⟨rfl, rfl⟩ := hok he
      have hlt := val_rest he
      have HX : Hid ((items false (val r (32 - depth)).rest (32 - depth)).2 = (items false body (32 - depth)).2 ∧ max (max k (depth + (val r (32 - depth)).deep)) (depth + deepest (items false (val r (32 - depth)).rest (32 - depth)).1) = depth + deepest (items false body (32 - depth)).1) := Lib.hid (by
       have h1 := HI.out
       have h2 := items_go false (room := 32 - depth) hz rfl he
       simp only [behindKey_false] at h2
       rw [h2] at h1
       simp only [deepest] at h1
       exact ⟨h1.1, by omega⟩)
      rw [he]
      clear HI hok he
      generalize (val r (32 - depth)).deep = x at d0 d1 HX ⊢
      generalize (val r (32 - depth)).rest = y at hlt HX ⊢
      by_cases hm : k < depth + x
      · have em : max k (depth + x) = depth + x := by omega
        rw [em] at HX
        go_wp2
        go_roundw
        case rel => exact ⟨y, _, rfl, rfl, by omega, by omega, by omega, HX, hbr2⟩
        case measure => simp only [tabLen]; omega
      · have em : max k (depth + x) = k := by omega
        rw [em] at HX
        go_wp2
        go_roundw
        case rel => exact ⟨y, _, rfl, rfl, by omega, by omega, by omega, HX, hbr2⟩
        case measure => simp only [tabLen]; omega
    · have H : Hid (wErr (items false body (32 - depth)).2 = wErr (val r (32 - depth)).err ∧ (items false body (32 - depth)).2 ≠ 0) := Lib.hid (by
       have h1 := HI.out
       rw [items_err false (room := 32 - depth) hz rfl he] at h1
       simp only [behindKey_false] at h1
       rw [← h1.1]
       exact ⟨rfl, he⟩)
      clear HI hok
      have t0 : ((val r (32 - depth)).err != 0) = true := by simpa using he
      rcases wErr_cases (val r (32 - depth)).err with ⟨w1, w2'⟩ | ⟨w1, w2'⟩
      · rw [w2'] at H
        rw [w1]
        clear he w1 w2' t0
        go_wp2
        go_ret2
        exact ⟨0, by rw [H.out.1]; rfl, fun h => absurd h H.out.2, hbr2⟩
      · rw [w2'] at H
        have t2 : ((val r (32 - depth)).err == 2) = false := by simpa using w1
        generalize (val r (32 - depth)).err = x at t0 t2 H ⊢
        clear he w1 w2'
        go_wp2
        go_ret2
        exact ⟨0, by rw [H.out.1]; rfl, fun h => absurd h H.out.2, hbr2⟩

set_option maxRecDepth 100000 in
set_option maxHeartbeats 2000000 in
theorem rtab_of (n : Nat) (hv : RVal n) : RRow true n := by
 intro body depth w hn hs h0 h32
 have hstart := deepest_nonneg (items true body (32 - depth)).1
 go_enter Tryz.func108, Tryz.ntmps108
 go_wp2
 go_loopw [0, 8] (fun b d wr => ∃ (r : ByteArray) (k : Int), b = .string r ∧ d = .int .i64 k ∧ r.size ≤ body.size ∧ depth ≤ k ∧ k ≤ 32 ∧ Hid ((items true r (32 - depth)).2 = (items true body (32 - depth)).2 ∧ max k (depth + deepest (items true r (32 - depth)).1) = depth + deepest (items true body (32 - depth)).1) ∧ Below w.heap.size w wr) (fun b _ _ => tabLen b)
 case atStart => exact ⟨body, depth, rfl, rfl, Nat.le_refl _, by omega, by omega, Lib.hid ⟨rfl, by omega⟩, Below.refl _ _⟩
 case round =>
  obtain ⟨r, k, rfl, rfl, hr1, hk0, hk1, HI, hbr⟩ := hrel
  by_cases hz : r.size = 0
  · have H : Hid (wErr (items true body (32 - depth)).2 = 0 ∧ k = depth + deepest (items true body (32 - depth)).1) := Lib.hid (by
     have h := HI.out
     rw [items_nil true _ hz] at h
     rw [← h.1, ← h.2]
     refine ⟨rfl, ?_⟩
     simp [deepest]; omega)
    clear HI
    go_wp2
    go_ret2
    exact ⟨k, by rw [H.out.1]; rfl, fun _ => H.out.2, hbr⟩
  · have hpos : 0 < r.size := by omega
    have hle := ttR_le 1 r
    go_wp2_with fail
    refine (rtakeShort_any r wr (by omega)).mono ?_
    rintro e w1 ⟨rfl, hb1⟩
    have hbr1 := hbr.trans (hb1.mono hbr.size)
    clear hb1 hbr
    rcases Bool.eq_false_or_eq_true (ttOk 1 r) with hk | hk
    rotate_left
    · have H : Hid (wErr (items true body (32 - depth)).2 = 3 ∧ (items true body (32 - depth)).2 ≠ 0) := Lib.hid (by
       have h1 := HI.out
       rw [items_key r (32 - depth) hz hk, ttE_one hk] at h1
       rw [← h1.1]
       exact ⟨rfl, by decide⟩)
      rw [ttE_one hk]
      clear HI hk
      generalize ttA 1 r = a
      generalize ttR 1 r = b
      go_wp2
      go_ret2
      exact ⟨0, by rw [H.out.1]; rfl, fun h => absurd h H.out.2, hbr1⟩
    · rw [ttE_of hk]
      have HGo := Lib.hid (fun he => items_go true (b := r) (room := 32 - depth) hz (by simp [hk]) he)
      have HEr := Lib.hid (fun he => items_err true (b := r) (room := 32 - depth) hz (by simp [hk]) he)
      rw [behindKey_true] at HGo HEr
      clear hk
      generalize ttA 1 r = a
      generalize ttR 1 r = b at hle HGo HEr ⊢
      go_wp2_with fail
      refine (hv b depth w1 (by omega) (by omega) h0 h32).mono ?_
      rintro e w2 ⟨y, d, rfl, hok, hb2⟩
      have hbr2 := hbr1.trans (hb2.mono hbr1.size)
      obtain ⟨d0, d1⟩ := val_deep_le (s := b) (room := 32 - depth) (by omega)
      clear hbr1 hb2
      by_cases he : (val b (32 - depth)).err = 0
      · obtain ⟨rfl, rfl⟩ := hok he
        have hlt := val_rest he
        have HX : Hid ((items true (val b (32 - depth)).rest (32 - depth)).2 = (items true body (32 - depth)).2 ∧ max (max k (depth + (val b (32 - depth)).deep)) (depth + deepest (items true (val b (32 - depth)).rest (32 - depth)).1) = depth + deepest (items true body (32 - depth)).1) := Lib.hid (by
         have h1 := HI.out
         rw [HGo.out he] at h1
         simp only [deepest] at h1
         exact ⟨h1.1, by omega⟩)
        rw [he]
        clear HI hok he HGo HEr
        generalize (val b (32 - depth)).deep = x at d0 d1 HX ⊢
        generalize (val b (32 - depth)).rest = y at hlt HX ⊢
        by_cases hm : k < depth + x
        · have em : max k (depth + x) = depth + x := by omega
          rw [em] at HX
          go_wp2
          go_roundw
          case rel => exact ⟨y, _, rfl, rfl, by omega, by omega, by omega, HX, hbr2⟩
          case measure => simp only [tabLen]; omega
        · have em : max k (depth + x) = k := by omega
          rw [em] at HX
          go_wp2
          go_roundw
          case rel => exact ⟨y, _, rfl, rfl, by omega, by omega, by omega, HX, hbr2⟩
          case measure => simp only [tabLen]; omega
      · have H : Hid (wErr (items true body (32 - depth)).2 = wErr (val b (32 - depth)).err ∧ (items true body (32 - depth)).2 ≠ 0) := Lib.hid (by
         have h1 := HI.out
         rw [HEr.out he] at h1
         rw [← h1.1]
         exact ⟨rfl, he⟩)
        clear HI hok HGo HEr
        have t0 : ((val b (32 - depth)).err != 0) = true := by simpa using he
        rcases wErr_cases (val b (32 - depth)).err with ⟨w1', w2'⟩ | ⟨w1', w2'⟩
        · rw [w2'] at H
          rw [w1']
          clear he w1' w2' t0
          go_wp2
          go_ret2
          exact ⟨0, by rw [H.out.1]; rfl, fun h => absurd h H.out.2, hbr2⟩
        · rw [w2'] at H
          have t2 : ((val b (32 - depth)).err == 2) = false := by simpa using w1'
          generalize (val b (32 - depth)).err = x at t0 t2 H ⊢
          clear he w1' w2'
          go_wp2
          go_ret2
          exact ⟨0, by rw [H.out.1]; rfl, fun h => absurd h H.out.2, hbr2⟩
end Go.Proofs.YtllgkohgcicbhaaGreatDoor

/-
  The document's own answers for layer 1, Put and Take of interchangeref01, are what num.Put and num.Take answer; nothing that was there is changed. No condition.
-/
namespace Go.Proofs.YtllgkohgcicbhaaGreatDoor
open Go.RowKit

theorem rput_arg (n : Int) (v : Int) (w : World) (hn : isW n = false) :
 Calls Tryz.prog 55 #[.int .i64 n, .int .u64 v] w fun e w' => e = .returned (.tuple #[.string ⟨#[]⟩, .int .i64 1]) ∧ w = w' := by
 obtain ⟨t1, t2, t3, t4⟩ := isW_tests hn
 go_enter Tryz.func55, Tryz.ntmps55
 go_wp2
 go_ret2
 exact ⟨rfl, rfl⟩

theorem div_step (v k : Nat) : ((v / 256 ^ k : Nat) : Int) / 256 = ((v / 256 ^ (k + 1) : Nat) : Int) := by
 rw [Nat.pow_succ, ← Nat.div_div_eq_div_mul]; omega
theorem div_byte (v k : Nat) : UInt8.ofNat (v / 256 ^ k % 256) = UInt8.ofNat (v / 256 ^ k) := by
 apply UInt8.toNat_inj.1; simp
theorem div_le (v k : Nat) : v / 256 ^ k ≤ v := Nat.div_le_self _ _

set_option maxHeartbeats 400000 in
theorem rput_1 (v : Nat) (w : World) (h1 : v < 18446744073709551616) :
 Calls Tryz.prog 55 #[.int .i64 1, .int .u64 v] w fun e w' => e = .returned (.tuple #[.string (putR 1 v), .int .i64 (putE 1 v)]) ∧ Below w.heap.size w w' := by
 have hcv : ∀ (w : World) (a : Int), (convert 59 9 (.slice (some ⟨w.heap.size, 0, none⟩) 1 1)).run Tryz.prog (w.alloc (.cells #[.int .u8 a] 5)) = .ok (.string ⟨#[UInt8.ofNat a.toNat]⟩) (w.alloc (.cells #[.int .u8 a] 5)) := fun w a => conv_own w [a] 1
 go_enter Tryz.func55, Tryz.ntmps55
 go_wp2
 go_loopw [1, 6, 7] (fun a s i wr => ∃ k : Nat, k ≤ 1 ∧ i = .int .i64 k ∧ a = .int .u64 ((v / 256 ^ k : Nat) : Int) ∧ s = .string (putS k v) ∧ Below w.heap.size w wr) (fun _ _ i _ => 1 - (intOf i).toNat)
 case atStart => exact ⟨0, by omega, rfl, by simp, rfl, Below.refl _ _⟩
 case round =>
  obtain ⟨k, hk, rfl, rfl, rfl, hb⟩ := hrel
  have hle := div_le v k
  by_cases hlt : k < 1
  · have HS := Lib.hid (putS_cons k v)
    have HD := Lib.hid (div_step v k)
    have HB := Lib.hid (div_byte v k)
    have hlt' : decide (k < 1) = true := by simpa using hlt
    have hsz : (putS k v).size ≤ 8 := by rw [putS_size]; omega
    generalize v / 256 ^ k = x at hle HS HD HB ⊢
    go_wp2
    go_roundw
    case rel => exact ⟨k + 1, by omega, by go_num, by rw [HD.out], by rw [HB.out, HS.out], hb.alloc hb.size _⟩
    case measure => simp [intOf]; omega
  · obtain rfl : k = 1 := by omega
    by_cases hv : v < 256
    · have hz : v / 256 ^ 1 = 0 := by simp; omega
      rw [hz]
      clear hcv
      go_wp2
      go_ret2
      refine ⟨?_, hb⟩
      have hok : putOk 1 v = true := by simp [putOk, isW]; omega
      simp [putR, putE, hok, isW]
    · have hz : 0 < v / 256 ^ 1 := by simp; omega
      generalize v / 256 ^ 1 = x at hz hle ⊢
      clear hcv
      go_wp2
      go_ret2
      refine ⟨?_, hb⟩
      have hok : putOk 1 v = false := by simp [putOk, isW]; omega
      simp [putR, putE, hok, isW]

set_option maxHeartbeats 400000 in
theorem rput_2 (v : Nat) (w : World) (h1 : v < 18446744073709551616) :
 Calls Tryz.prog 55 #[.int .i64 2, .int .u64 v] w fun e w' => e = .returned (.tuple #[.string (putR 2 v), .int .i64 (putE 2 v)]) ∧ Below w.heap.size w w' := by
 have hcv : ∀ (w : World) (a : Int), (convert 59 9 (.slice (some ⟨w.heap.size, 0, none⟩) 1 1)).run Tryz.prog (w.alloc (.cells #[.int .u8 a] 5)) = .ok (.string ⟨#[UInt8.ofNat a.toNat]⟩) (w.alloc (.cells #[.int .u8 a] 5)) := fun w a => conv_own w [a] 1
 go_enter Tryz.func55, Tryz.ntmps55
 go_wp2
 go_loopw [1, 6, 7] (fun a s i wr => ∃ k : Nat, k ≤ 2 ∧ i = .int .i64 k ∧ a = .int .u64 ((v / 256 ^ k : Nat) : Int) ∧ s = .string (putS k v) ∧ Below w.heap.size w wr) (fun _ _ i _ => 2 - (intOf i).toNat)
 case atStart => exact ⟨0, by omega, rfl, by simp, rfl, Below.refl _ _⟩
 case round =>
  obtain ⟨k, hk, rfl, rfl, rfl, hb⟩ := hrel
  have hle := div_le v k
  by_cases hlt : k < 2
  · have HS := Lib.hid (putS_cons k v)
    have HD := Lib.hid (div_step v k)
    have HB := Lib.hid (div_byte v k)
    have hlt' : decide (k < 2) = true := by simpa using hlt
    have hsz : (putS k v).size ≤ 8 := by rw [putS_size]; omega
    generalize v / 256 ^ k = x at hle HS HD HB ⊢
    go_wp2
    go_roundw
    case rel => exact ⟨k + 1, by omega, by go_num, by rw [HD.out], by rw [HB.out, HS.out], hb.alloc hb.size _⟩
    case measure => simp [intOf]; omega
  · obtain rfl : k = 2 := by omega
    by_cases hv : v < 65536
    · have hz : v / 256 ^ 2 = 0 := by simp; omega
      rw [hz]
      clear hcv
      go_wp2
      go_ret2
      refine ⟨?_, hb⟩
      have hok : putOk 2 v = true := by simp [putOk, isW]; omega
      simp [putR, putE, hok, isW]
    · have hz : 0 < v / 256 ^ 2 := by simp; omega
      generalize v / 256 ^ 2 = x at hz hle ⊢
      clear hcv
      go_wp2
      go_ret2
      refine ⟨?_, hb⟩
      have hok : putOk 2 v = false := by simp [putOk, isW]; omega
      simp [putR, putE, hok, isW]

set_option maxHeartbeats 400000 in
theorem rput_4 (v : Nat) (w : World) (h1 : v < 18446744073709551616) :
 Calls Tryz.prog 55 #[.int .i64 4, .int .u64 v] w fun e w' => e = .returned (.tuple #[.string (putR 4 v), .int .i64 (putE 4 v)]) ∧ Below w.heap.size w w' := by
 have hcv : ∀ (w : World) (a : Int), (convert 59 9 (.slice (some ⟨w.heap.size, 0, none⟩) 1 1)).run Tryz.prog (w.alloc (.cells #[.int .u8 a] 5)) = .ok (.string ⟨#[UInt8.ofNat a.toNat]⟩) (w.alloc (.cells #[.int .u8 a] 5)) := fun w a => conv_own w [a] 1
 go_enter Tryz.func55, Tryz.ntmps55
 go_wp2
 go_loopw [1, 6, 7] (fun a s i wr => ∃ k : Nat, k ≤ 4 ∧ i = .int .i64 k ∧ a = .int .u64 ((v / 256 ^ k : Nat) : Int) ∧ s = .string (putS k v) ∧ Below w.heap.size w wr) (fun _ _ i _ => 4 - (intOf i).toNat)
 case atStart => exact ⟨0, by omega, rfl, by simp, rfl, Below.refl _ _⟩
 case round =>
  obtain ⟨k, hk, rfl, rfl, rfl, hb⟩ := hrel
  have hle := div_le v k
  by_cases hlt : k < 4
  · have HS := Lib.hid (putS_cons k v)
    have HD := Lib.hid (div_step v k)
    have HB := Lib.hid (div_byte v k)
    have hlt' : decide (k < 4) = true := by simpa using hlt
    have hsz : (putS k v).size ≤ 8 := by rw [putS_size]; omega
    generalize v / 256 ^ k = x at hle HS HD HB ⊢
    go_wp2
    go_roundw
    case rel => exact ⟨k + 1, by omega, by go_num, by rw [HD.out], by rw [HB.out, HS.out], hb.alloc hb.size _⟩
    case measure => simp [intOf]; omega
  · obtain rfl : k = 4 := by omega
    by_cases hv : v < 4294967296
    · have hz : v / 256 ^ 4 = 0 := by simp; omega
      rw [hz]
      clear hcv
      go_wp2
      go_ret2
      refine ⟨?_, hb⟩
      have hok : putOk 4 v = true := by simp [putOk, isW]; omega
      simp [putR, putE, hok, isW]
    · have hz : 0 < v / 256 ^ 4 := by simp; omega
      generalize v / 256 ^ 4 = x at hz hle ⊢
      clear hcv
      go_wp2
      go_ret2
      refine ⟨?_, hb⟩
      have hok : putOk 4 v = false := by simp [putOk, isW]; omega
      simp [putR, putE, hok, isW]

set_option maxHeartbeats 400000 in
theorem rput_8 (v : Nat) (w : World) (h1 : v < 18446744073709551616) :
 Calls Tryz.prog 55 #[.int .i64 8, .int .u64 v] w fun e w' => e = .returned (.tuple #[.string (putR 8 v), .int .i64 (putE 8 v)]) ∧ Below w.heap.size w w' := by
 have hcv : ∀ (w : World) (a : Int), (convert 59 9 (.slice (some ⟨w.heap.size, 0, none⟩) 1 1)).run Tryz.prog (w.alloc (.cells #[.int .u8 a] 5)) = .ok (.string ⟨#[UInt8.ofNat a.toNat]⟩) (w.alloc (.cells #[.int .u8 a] 5)) := fun w a => conv_own w [a] 1
 go_enter Tryz.func55, Tryz.ntmps55
 go_wp2
 go_loopw [1, 6, 7] (fun a s i wr => ∃ k : Nat, k ≤ 8 ∧ i = .int .i64 k ∧ a = .int .u64 ((v / 256 ^ k : Nat) : Int) ∧ s = .string (putS k v) ∧ Below w.heap.size w wr) (fun _ _ i _ => 8 - (intOf i).toNat)
 case atStart => exact ⟨0, by omega, rfl, by simp, rfl, Below.refl _ _⟩
 case round =>
  obtain ⟨k, hk, rfl, rfl, rfl, hb⟩ := hrel
  have hle := div_le v k
  by_cases hlt : k < 8
  · have HS := Lib.hid (putS_cons k v)
    have HD := Lib.hid (div_step v k)
    have HB := Lib.hid (div_byte v k)
    have hlt' : decide (k < 8) = true := by simpa using hlt
    have hsz : (putS k v).size ≤ 8 := by rw [putS_size]; omega
    generalize v / 256 ^ k = x at hle HS HD HB ⊢
    go_wp2
    go_roundw
    case rel => exact ⟨k + 1, by omega, by go_num, by rw [HD.out], by rw [HB.out, HS.out], hb.alloc hb.size _⟩
    case measure => simp [intOf]; omega
  · obtain rfl : k = 8 := by omega
    by_cases hv : v < 18446744073709551616
    · have hz : v / 256 ^ 8 = 0 := by simp; omega
      rw [hz]
      clear hcv
      go_wp2
      go_ret2
      refine ⟨?_, hb⟩
      have hok : putOk 8 v = true := by simp [putOk, isW]; omega
      simp [putR, putE, hok, isW]
    · have hz : 0 < v / 256 ^ 8 := by simp; omega
      generalize v / 256 ^ 8 = x at hz hle ⊢
      clear hcv
      go_wp2
      go_ret2
      refine ⟨?_, hb⟩
      have hok : putOk 8 v = false := by simp [putOk, isW]; omega
      simp [putR, putE, hok, isW]

theorem rput_any (n : Int) (v : Int) (w : World) (h0 : 0 ≤ v) (h1 : v < 18446744073709551616) :
 Calls Tryz.prog 55 #[.int .i64 n, .int .u64 v] w fun e w' => e = .returned (.tuple #[.string (putR n v), .int .i64 (putE n v)]) ∧ Below w.heap.size w w' := by
 obtain ⟨x, rfl⟩ := Int.eq_ofNat_of_zero_le h0
 cases hn : isW n
 · refine (rput_arg n x w hn).mono ?_
   rintro e w' ⟨rfl, rfl⟩
   exact ⟨by simp [putR, putE, putOk, hn], Below.refl _ _⟩
 · rcases isW_cases hn with rfl | rfl | rfl | rfl
   · exact rput_1 x w (by omega)
   · exact rput_2 x w (by omega)
   · exact rput_4 x w (by omega)
   · exact rput_8 x w (by omega)
end Go.Proofs.YtllgkohgcicbhaaGreatDoor

/-
  The document's own Short of interchangeref02 is what the plain function of PText says; nothing that was there is changed. No condition but that a text has fewer than 2^62 bytes.
-/
namespace Go.Proofs.YtllgkohgcicbhaaGreatDoor
open Go.RowKit

theorem lay_one {s : ByteArray} (h : s.size ≤ 255) : layR 1 s = ⟨#[UInt8.ofNat s.size]⟩ ++ s ∧ layE 1 s = 0 := by
 have h1 : layOk 1 s = true := by rw [layOk_one]; simpa using h
 refine ⟨?_, layE_of h1⟩
 rw [layR_of h1, putR_of h1]
 rfl
theorem rshort_any (s : ByteArray) (w : World) (hs : s.size < 4611686018427387904) :
 Calls Tryz.prog 57 #[.string s] w fun e w' => e = .returned (.tuple #[.string (layR 1 s), .int .i64 (layE 1 s)]) ∧ Below w.heap.size w w' := by
 by_cases hc : s.size ≤ 255
 · have H := Lib.hid (lay_one hc)
   have hcv : ∀ (w : World) (a0 : Int), (convert 59 9 (.slice (some ⟨w.heap.size, 0, none⟩) 1 1)).run Tryz.prog (w.alloc (.cells #[.int .u8 a0] 5)) = .ok (.string ⟨#[UInt8.ofNat a0.toNat]⟩) (w.alloc (.cells #[.int .u8 a0] 5)) := fun w a0 => conv_own w [a0] 1
   have hz : (⟨#[UInt8.ofNat (s.size : Int).toNat]⟩ : ByteArray).size + s.size ≤ 9223372036854775807 := by have : (⟨#[UInt8.ofNat (s.size : Int).toNat]⟩ : ByteArray).size = 1 := rfl; omega
   go_enter Tryz.func57, Tryz.ntmps57
   go_wp2
   go_ret2
   refine ⟨?_, (Below.refl _ _).alloc (Nat.le_refl _) _⟩
   rw [H.out.1, H.out.2]
   rfl
 · have H := Lib.hid (show layR 1 s = ⟨#[]⟩ ∧ layE 1 s = 4 by
    have h1 : layOk 1 s = false := by rw [layOk_one]; simpa using hc
    have h2 : putOk 1 s.size = false := h1
    simp [layR, layE, h1, putE, h2, isW])
   go_enter Tryz.func57, Tryz.ntmps57
   go_wp2
   go_ret2
   refine ⟨?_, Below.refl _ _⟩
   rw [H.out.1, H.out.2]
   rfl
end Go.Proofs.YtllgkohgcicbhaaGreatDoor

/-
  The document's own answers for layer 2, Short, Long, TakeShort and TakeLong of interchangeref02, are what the plain functions of PText say; nothing that was there is changed. No condition but that a text has fewer than 2^62 bytes.
-/
namespace Go.Proofs.YtllgkohgcicbhaaGreatDoor
open Go.RowKit

theorem rlong_any (s : ByteArray) (w : World) (hs : s.size < 4611686018427387904) :
 Calls Tryz.prog 58 #[.string s] w fun e w' => e = .returned (.tuple #[.string (layR 4 s), .int .i64 (layE 4 s)]) ∧ Below w.heap.size w w' := by
 go_enter Tryz.func58, Tryz.ntmps58
 go_wp2_with fail
 refine (rput_any 4 s.size w (by omega) (by omega)).mono ?_
 rintro e w1 ⟨rfl, hb⟩
 cases h : layOk 4 s
 · have h' : putOk 4 s.size = false := h
   obtain ⟨t1, -⟩ := putE_not h'
   have H := Lib.hid h
   clear h h'
   go_wp2
   go_ret2
   exact ⟨by simp [layR, layE, H.out], hb⟩
 · have h' : putOk 4 s.size = true := h
   rw [putE_of h']
   have s1 : (putR 4 s.size).size ≤ 8 := by have := putR_size h'; omega
   have H := Lib.hid h
   clear h h'
   go_wp2
   go_ret2
   refine ⟨?_, hb⟩
   rw [layR_of H.out, layE_of H.out]
   rfl

theorem rtakeLong_any (s : ByteArray) (w : World) (hs : s.size < 4611686018427387904) :
 Calls Tryz.prog 69 #[.string s] w fun e w' => e = .returned (.tuple #[.string (ttA 4 s), .string (ttR 4 s), .int .i64 (ttE 4 s)]) ∧ Below w.heap.size w w' := by
 have hl := takeR_le s 4
 have h0 := takeV_nonneg s 4
 go_enter Tryz.func69, Tryz.ntmps69
 go_wp2_with fail
 refine (rtake_any s 4 w).mono ?_
 rintro e w1 ⟨rfl, hb⟩
 cases h : takeOk s 4
 · obtain ⟨t1, -⟩ := takeE_not h
   have H := Lib.hid h
   clear h
   go_wp2
   go_ret3
   refine ⟨?_, hb⟩
   simp [ttA, ttR, ttE, H.out, takeE, isW]
 · rw [takeE_of h]
   have H := Lib.hid h
   clear h
   obtain ⟨k, hk⟩ := Int.eq_ofNat_of_zero_le h0
   obtain ⟨r, hr⟩ : ∃ r, takeR s 4 = r := ⟨_, rfl⟩
   rw [hr] at hl
   by_cases hc : k ≤ r.size
   · have Hc := Lib.hid (show skipOk r (k : Int) = true by simp [skipOk]; omega)
     rw [hk, hr]
     have Hk := Lib.hid hk
     have Hr := Lib.hid hr
     clear hk h0 hr
     go_wp2
     go_quiet (fail)
     go_wp2
     go_ret3
     refine ⟨?_, below_drewN hb _⟩
     simp [ttA, ttR, ttE, H.out, skipA, skipB, skipE, Hc.out, Hk.out, Hr.out]
   · have Hc := Lib.hid (show skipOk (takeR s 4) (takeV s 4) = false by rw [hk, hr]; simp [skipOk]; omega)
     rw [hk, hr]
     clear hk h0 hr
     go_wp2
     go_ret3
     refine ⟨?_, hb⟩
     simp [ttA, ttR, ttE, H.out, skipA, skipB, skipE, Hc.out]

end Go.Proofs.YtllgkohgcicbhaaGreatDoor

/-
  The document's own value and table of interchangeref03 are what the plain functions of PTab say, for every text; nothing that was there is changed. Conditions: texts of fewer than 2^62 bytes.
-/
namespace Go.Proofs.YtllgkohgcicbhaaGreatDoor
open Go.RowKit

theorem kindV_three {c : Int} (h : kindV c = -3) : c = 70 := by
 unfold kindV at h
 repeat' split at h
 all_goals omega
theorem kindV_two {c : Int} (h : kindV c = -2) : c = 65 := by
 unfold kindV at h
 repeat' split at h
 all_goals omega
theorem kindV_one {c : Int} (h : kindV c = -1) : c = 83 ∨ c = 120 := by
 unfold kindV at h
 repeat' split at h
 all_goals omega
theorem kindV_nope {c : Int} (h : kindV c = -4) : c ≠ 83 ∧ c ≠ 120 ∧ c ≠ 65 ∧ c ≠ 70 := by
 refine ⟨?_, ?_, ?_, ?_⟩
 all_goals
  rintro rfl
  revert h
  decide
theorem kindV_le8 (c : Int) : kindV c ≤ 8 := by
 unfold kindV
 repeat' split
 all_goals omega
theorem flat_nat (s : ByteArray) (k : Nat) (hk : 1 + k ≤ s.size) : flat (s.extract 1 s.size) (k : Int) = ⟨0, s.extract (1 + k) s.size, 0⟩ := by
 have h1 : (s.extract 1 s.size).size = s.size - 1 := by rw [ByteArray.size_extract]; omega
 have h2 : skipOk (s.extract 1 s.size) (k : Int) = true := by simp only [skipOk, h1]; simp; omega
 rw [flat, if_neg (by omega), skipE, skipB, if_pos h2, if_pos h2, extract_extract, h1]
 have e1 : (k : Int).toNat = k := by omega
 have e2 : min (1 + (s.size - 1)) s.size = s.size := by omega
 rw [e1, e2]
theorem flat_nat_more (s : ByteArray) (k : Nat) (h0 : 0 < s.size) (hk : ¬ 1 + k ≤ s.size) : (flat (s.extract 1 s.size) (k : Int)).err = 2 := by
 have h1 : (s.extract 1 s.size).size = s.size - 1 := by rw [ByteArray.size_extract]; omega
 have h2 : skipOk (s.extract 1 s.size) (k : Int) = false := by simp only [skipOk, h1]; simp; omega
 rw [flat, if_neg (by omega), skipE, if_neg (by simp [h2])]

theorem nest_err_items {kf : Bool} {t : ByteArray} {room : Int} (h : ttOk 4 t = true) (hr : 1 ≤ room) : (nest kf t room).err = wErr (items kf (ttA 4 t) (room - 1)).2 := by
 have hk : enOk t room = true := by simp [enOk, h, hr]
 by_cases hi : (items kf (ttA 4 t) (room - 1)).2 = 0
 · rw [nest_ok hk hi, hi]; rfl
 · rw [nest_bad hk hi]
theorem nest_zero {kf : Bool} {t : ByteArray} {room : Int} (h : ttOk 4 t = true) (hr : 1 ≤ room) (he : (nest kf t room).err = 0) : (items kf (ttA 4 t) (room - 1)).2 = 0 ∧ (nest kf t room).rest = ttR 4 t ∧ (nest kf t room).deep = deepest (items kf (ttA 4 t) (room - 1)).1 + 1 := by
 have hk : enOk t room = true := by simp [enOk, h, hr]
 have hi : (items kf (ttA 4 t) (room - 1)).2 = 0 := by
  rw [nest_err_items h hr] at he
  rcases wErr_cases (items kf (ttA 4 t) (room - 1)).2 with ⟨h1, h2⟩ | ⟨h1, h2⟩
  · rw [h2] at he; cases he
  · rw [h2] at he; exact he
 rw [nest_ok hk hi]
 exact ⟨hi, rfl, rfl⟩

set_option maxRecDepth 100000 in
set_option maxHeartbeats 4000000 in
theorem rval_all : ∀ n : Nat, RVal n := by
 intro n
 induction n with
 | zero =>
  intro s depth w hn hs h0 h32
  obtain rfl := ba_nil (b := s) (by omega)
  have H := Lib.hid (val_more (s := ⟨#[]⟩) (32 - depth) (by decide))
  go_enter Tryz.func135, Tryz.ntmps135
  go_wp2
  go_ret3
  exact ⟨⟨#[]⟩, 0, by rw [H.out]; rfl, (fun h => by rw [H.out] at h; cases h), Below.refl _ _⟩
 | succ n ih =>
  intro s depth w hn hs h0 h32
  by_cases hz : s.size = 0
  · obtain rfl := ba_nil hz
    have H := Lib.hid (val_more (s := ⟨#[]⟩) (32 - depth) (by decide))
    go_enter Tryz.func135, Tryz.ntmps135
    go_wp2
    go_ret3
    exact ⟨⟨#[]⟩, 0, by rw [H.out]; rfl, (fun h => by rw [H.out] at h; cases h), Below.refl _ _⟩
  · have hpos : 0 < s.size := by omega
    obtain ⟨f1, f2, f3⟩ := take_first s hpos
    have hcb := UInt8.toNat_lt (s[0]'hpos)
    have HN := Lib.hid (fun h => val_none (32 - depth) f1 h)
    have HF := Lib.hid (fun h => val_flat (32 - depth) f1 h)
    have HT := Lib.hid (fun h => val_nest (32 - depth) f1 h)
    rw [f2] at HN HF HT
    rw [f3] at HF HT
    clear f1 f2 f3
    have k8 := kindV_le8 ((s[0]'hpos).toNat : Int)
    have hsz : (s.extract 1 s.size).size = s.size - 1 := by rw [ByteArray.size_extract]; omega
    rcases kindV_cases ((s[0]'hpos).toNat : Int) with hk | hk | hk | hk | hk
    · obtain ⟨n1, n2, n3, n4⟩ := kindV_nope hk
      have H := Lib.hid (HN.out hk)
      have HS := Lib.hid (show sizeK ((s[0]'hpos).toNat : Int) = -1 by rw [sizeK, hk]; decide)
      have t1 : ((((s[0]'hpos).toNat : Int)) != 83) = true := by simpa using n1
      have t2 : ((((s[0]'hpos).toNat : Int)) != 120) = true := by simpa using n2
      have t3 : ((((s[0]'hpos).toNat : Int)) != 65) = true := by simpa using n3
      have t4 : ((((s[0]'hpos).toNat : Int)) != 70) = true := by simpa using n4
      clear hk n1 n2 n3 n4 HN HF HT k8
      go_enter Tryz.func135, Tryz.ntmps135
      go_wp2_with fail
      refine (rsize_any _ w).mono ?_
      rintro e w1 ⟨rfl, rfl⟩
      rw [HS.out]
      clear HS
      go_wp2
      go_ret3
      exact ⟨⟨#[]⟩, 0, by rw [H.out]; rfl, (fun h => by rw [H.out] at h; cases h), Below.refl _ _⟩
    · have hc := kindV_three hk
      have H : Hid (val s (32 - depth) = nest true (s.extract 1 s.size) (32 - depth)) := Lib.hid (by have := HT.out (.inr hk); rw [hk] at this; exact this)
      have HS := Lib.hid (show sizeK ((s[0]'hpos).toNat : Int) = -1 by rw [sizeK, hk]; decide)
      have n83 : ((((s[0]'hpos).toNat : Int)) != 83) = true := by rw [hc]; decide
      have q83 : ((((s[0]'hpos).toNat : Int)) == 83) = false := by rw [hc]; decide
      have n120 : ((((s[0]'hpos).toNat : Int)) != 120) = true := by rw [hc]; decide
      have q120 : ((((s[0]'hpos).toNat : Int)) == 120) = false := by rw [hc]; decide
      have n65 : ((((s[0]'hpos).toNat : Int)) != 65) = true := by rw [hc]; decide
      have q65 : ((((s[0]'hpos).toNat : Int)) == 65) = false := by rw [hc]; decide
      have n70 : ((((s[0]'hpos).toNat : Int)) != 70) = false := by rw [hc]; decide
      have q70 : ((((s[0]'hpos).toNat : Int)) == 70) = true := by rw [hc]; decide
      clear hk hc HN HF HT k8
      have hil := ttA_le 4 (s.extract 1 s.size)
      go_enter Tryz.func135, Tryz.ntmps135
      go_wp2_with fail
      refine (rsize_any _ w).mono ?_
      rintro e w1 ⟨rfl, rfl⟩
      rw [HS.out]
      clear HS
      go_wp2_with fail
      refine (rinside_any (s.extract 1 s.size) w (by omega)).mono ?_
      rintro e w1 ⟨rfl, hb⟩
      rcases Bool.eq_false_or_eq_true (ttOk 4 (s.extract 1 s.size)) with ho | ho
      rotate_left
      · have HE : Hid ((val s (32 - depth)).err = 2) := Lib.hid (by rw [H.out, nest, nestOf, if_neg (by simp [ho]), ttE_four ho])
        rw [ttE_four ho]
        clear H ho
        generalize ttA 4 (s.extract 1 s.size) = a at hil ⊢
        generalize ttR 4 (s.extract 1 s.size) = b
        go_wp2
        go_ret3
        exact ⟨⟨#[]⟩, 0, by rw [HE.out]; rfl, (fun h => by rw [HE.out] at h; cases h), hb⟩
      · rw [ttE_of ho]
        by_cases hd : 32 ≤ depth
        · have HE : Hid ((val s (32 - depth)).err = 5) := Lib.hid (by rw [H.out, nest, nestOf, if_pos ho, if_pos (by omega)])
          clear H ho
          generalize ttA 4 (s.extract 1 s.size) = a at hil ⊢
          generalize ttR 4 (s.extract 1 s.size) = b
          go_wp2
          go_ret3
          exact ⟨⟨#[]⟩, 0, by rw [HE.out]; rfl, (fun h => by rw [HE.out] at h; cases h), hb⟩
        · have HE : Hid ((val s (32 - depth)).err = wErr (items true (ttA 4 (s.extract 1 s.size)) (32 - (depth + 1))).2 ∧ ((val s (32 - depth)).err = 0 → (items true (ttA 4 (s.extract 1 s.size)) (32 - (depth + 1))).2 = 0 ∧ (val s (32 - depth)).rest = ttR 4 (s.extract 1 s.size) ∧ (val s (32 - depth)).deep = deepest (items true (ttA 4 (s.extract 1 s.size)) (32 - (depth + 1))).1 + 1)) := Lib.hid (by
           have e : (32 : Int) - (depth + 1) = 32 - depth - 1 := by omega
           rw [e, H.out]
           exact ⟨nest_err_items ho (by omega), fun h => nest_zero ho (by omega) h⟩)
          clear H ho
          generalize ttA 4 (s.extract 1 s.size) = a at hil HE ⊢
          generalize ttR 4 (s.extract 1 s.size) = b at HE ⊢
          go_wp2_with fail
          refine (rtab_of n ih a (depth + 1) w1 (by omega) (by omega) (by omega) (by omega)).mono ?_
          rintro e w2 ⟨d, rfl, hok, hb2⟩
          have HO := Lib.hid hok
          clear hok
          generalize hwe : wErr (items true a (32 - (depth + 1))).2 = x at HE ⊢
          clear hwe
          go_wp2
          go_ret3
          refine ⟨b, d, by rw [HE.out.1]; rfl, fun h => ?_, hb.trans (hb2.mono hb.size)⟩
          obtain ⟨j1, j2, j3⟩ := HE.out.2 h
          refine ⟨j2.symm, ?_⟩
          rw [HO.out j1, j3]
          omega
    · have hc := kindV_two hk
      have H : Hid (val s (32 - depth) = nest false (s.extract 1 s.size) (32 - depth)) := Lib.hid (by have := HT.out (.inl hk); rw [hk] at this; exact this)
      have HS := Lib.hid (show sizeK ((s[0]'hpos).toNat : Int) = -1 by rw [sizeK, hk]; decide)
      have n83 : ((((s[0]'hpos).toNat : Int)) != 83) = true := by rw [hc]; decide
      have q83 : ((((s[0]'hpos).toNat : Int)) == 83) = false := by rw [hc]; decide
      have n120 : ((((s[0]'hpos).toNat : Int)) != 120) = true := by rw [hc]; decide
      have q120 : ((((s[0]'hpos).toNat : Int)) == 120) = false := by rw [hc]; decide
      have n65 : ((((s[0]'hpos).toNat : Int)) != 65) = false := by rw [hc]; decide
      have q65 : ((((s[0]'hpos).toNat : Int)) == 65) = true := by rw [hc]; decide
      have n70 : ((((s[0]'hpos).toNat : Int)) != 70) = true := by rw [hc]; decide
      have q70 : ((((s[0]'hpos).toNat : Int)) == 70) = false := by rw [hc]; decide
      clear hk hc HN HF HT k8
      have hil := ttA_le 4 (s.extract 1 s.size)
      go_enter Tryz.func135, Tryz.ntmps135
      go_wp2_with fail
      refine (rsize_any _ w).mono ?_
      rintro e w1 ⟨rfl, rfl⟩
      rw [HS.out]
      clear HS
      go_wp2_with fail
      refine (rinside_any (s.extract 1 s.size) w (by omega)).mono ?_
      rintro e w1 ⟨rfl, hb⟩
      rcases Bool.eq_false_or_eq_true (ttOk 4 (s.extract 1 s.size)) with ho | ho
      rotate_left
      · have HE : Hid ((val s (32 - depth)).err = 2) := Lib.hid (by rw [H.out, nest, nestOf, if_neg (by simp [ho]), ttE_four ho])
        rw [ttE_four ho]
        clear H ho
        generalize ttA 4 (s.extract 1 s.size) = a at hil ⊢
        generalize ttR 4 (s.extract 1 s.size) = b
        go_wp2
        go_ret3
        exact ⟨⟨#[]⟩, 0, by rw [HE.out]; rfl, (fun h => by rw [HE.out] at h; cases h), hb⟩
      · rw [ttE_of ho]
        by_cases hd : 32 ≤ depth
        · have HE : Hid ((val s (32 - depth)).err = 5) := Lib.hid (by rw [H.out, nest, nestOf, if_pos ho, if_pos (by omega)])
          clear H ho
          generalize ttA 4 (s.extract 1 s.size) = a at hil ⊢
          generalize ttR 4 (s.extract 1 s.size) = b
          go_wp2
          go_ret3
          exact ⟨⟨#[]⟩, 0, by rw [HE.out]; rfl, (fun h => by rw [HE.out] at h; cases h), hb⟩
        · have HE : Hid ((val s (32 - depth)).err = wErr (items false (ttA 4 (s.extract 1 s.size)) (32 - (depth + 1))).2 ∧ ((val s (32 - depth)).err = 0 → (items false (ttA 4 (s.extract 1 s.size)) (32 - (depth + 1))).2 = 0 ∧ (val s (32 - depth)).rest = ttR 4 (s.extract 1 s.size) ∧ (val s (32 - depth)).deep = deepest (items false (ttA 4 (s.extract 1 s.size)) (32 - (depth + 1))).1 + 1)) := Lib.hid (by
           have e : (32 : Int) - (depth + 1) = 32 - depth - 1 := by omega
           rw [e, H.out]
           exact ⟨nest_err_items ho (by omega), fun h => nest_zero ho (by omega) h⟩)
          clear H ho
          generalize ttA 4 (s.extract 1 s.size) = a at hil HE ⊢
          generalize ttR 4 (s.extract 1 s.size) = b at HE ⊢
          go_wp2_with fail
          refine (rrow_of n ih a (depth + 1) w1 (by omega) (by omega) (by omega) (by omega)).mono ?_
          rintro e w2 ⟨d, rfl, hok, hb2⟩
          have HO := Lib.hid hok
          clear hok
          generalize hwe : wErr (items false a (32 - (depth + 1))).2 = x at HE ⊢
          clear hwe
          go_wp2
          go_ret3
          refine ⟨b, d, by rw [HE.out.1]; rfl, fun h => ?_, hb.trans (hb2.mono hb.size)⟩
          obtain ⟨j1, j2, j3⟩ := HE.out.2 h
          refine ⟨j2.symm, ?_⟩
          rw [HO.out j1, j3]
          omega
    · have H : Hid (val s (32 - depth) = flat (s.extract 1 s.size) (-1)) := Lib.hid (by have := HF.out (.inl hk); rw [hk] at this; exact this)
      clear HF
      rcases kindV_one hk with hc | hc
      · have HS := Lib.hid (show sizeK ((s[0]'hpos).toNat : Int) = -1 by rw [sizeK, hk]; decide)
        have n83 : ((((s[0]'hpos).toNat : Int)) != 83) = false := by rw [hc]; decide
        have q83 : ((((s[0]'hpos).toNat : Int)) == 83) = true := by rw [hc]; decide
        have n120 : ((((s[0]'hpos).toNat : Int)) != 120) = true := by rw [hc]; decide
        have q120 : ((((s[0]'hpos).toNat : Int)) == 120) = false := by rw [hc]; decide
        have n65 : ((((s[0]'hpos).toNat : Int)) != 65) = true := by rw [hc]; decide
        have q65 : ((((s[0]'hpos).toNat : Int)) == 65) = false := by rw [hc]; decide
        have n70 : ((((s[0]'hpos).toNat : Int)) != 70) = true := by rw [hc]; decide
        have q70 : ((((s[0]'hpos).toNat : Int)) == 70) = false := by rw [hc]; decide
        clear hk hc HN HT k8
        go_enter Tryz.func135, Tryz.ntmps135
        go_wp2_with fail
        refine (rsize_any _ w).mono ?_
        rintro e w1 ⟨rfl, rfl⟩
        rw [HS.out]
        clear HS
        go_wp2_with fail
        refine (rinside_any (s.extract 1 s.size) w (by omega)).mono ?_
        rintro e w1 ⟨rfl, hb⟩
        rcases Bool.eq_false_or_eq_true (ttOk 4 (s.extract 1 s.size)) with ho | ho
        rotate_left
        · have HE : Hid ((val s (32 - depth)).err = 2) := Lib.hid (by rw [H.out, flat, if_pos rfl, ttE_four ho])
          rw [ttE_four ho]
          clear H ho
          generalize ttA 4 (s.extract 1 s.size) = a
          generalize ttR 4 (s.extract 1 s.size) = b
          go_wp2
          go_ret3
          exact ⟨⟨#[]⟩, 0, by rw [HE.out]; rfl, (fun h => by rw [HE.out] at h; cases h), hb⟩
        · have HE : Hid (val s (32 - depth) = ⟨0, ttR 4 (s.extract 1 s.size), 0⟩) := Lib.hid (by rw [H.out, flat, if_pos rfl, ttE_of ho])
          rw [ttE_of ho]
          clear H ho
          generalize ttA 4 (s.extract 1 s.size) = a
          generalize ttR 4 (s.extract 1 s.size) = b at HE ⊢
          go_wp2
          go_ret3
          refine ⟨b, depth, by rw [HE.out]; rfl, fun _ => ?_, hb⟩
          rw [HE.out]
          exact ⟨rfl, by simp⟩
      · have HS := Lib.hid (show sizeK ((s[0]'hpos).toNat : Int) = -1 by rw [sizeK, hk]; decide)
        have n83 : ((((s[0]'hpos).toNat : Int)) != 83) = true := by rw [hc]; decide
        have q83 : ((((s[0]'hpos).toNat : Int)) == 83) = false := by rw [hc]; decide
        have n120 : ((((s[0]'hpos).toNat : Int)) != 120) = false := by rw [hc]; decide
        have q120 : ((((s[0]'hpos).toNat : Int)) == 120) = true := by rw [hc]; decide
        have n65 : ((((s[0]'hpos).toNat : Int)) != 65) = true := by rw [hc]; decide
        have q65 : ((((s[0]'hpos).toNat : Int)) == 65) = false := by rw [hc]; decide
        have n70 : ((((s[0]'hpos).toNat : Int)) != 70) = true := by rw [hc]; decide
        have q70 : ((((s[0]'hpos).toNat : Int)) == 70) = false := by rw [hc]; decide
        clear hk hc HN HT k8
        go_enter Tryz.func135, Tryz.ntmps135
        go_wp2_with fail
        refine (rsize_any _ w).mono ?_
        rintro e w1 ⟨rfl, rfl⟩
        rw [HS.out]
        clear HS
        go_wp2_with fail
        refine (rinside_any (s.extract 1 s.size) w (by omega)).mono ?_
        rintro e w1 ⟨rfl, hb⟩
        rcases Bool.eq_false_or_eq_true (ttOk 4 (s.extract 1 s.size)) with ho | ho
        rotate_left
        · have HE : Hid ((val s (32 - depth)).err = 2) := Lib.hid (by rw [H.out, flat, if_pos rfl, ttE_four ho])
          rw [ttE_four ho]
          clear H ho
          generalize ttA 4 (s.extract 1 s.size) = a
          generalize ttR 4 (s.extract 1 s.size) = b
          go_wp2
          go_ret3
          exact ⟨⟨#[]⟩, 0, by rw [HE.out]; rfl, (fun h => by rw [HE.out] at h; cases h), hb⟩
        · have HE : Hid (val s (32 - depth) = ⟨0, ttR 4 (s.extract 1 s.size), 0⟩) := Lib.hid (by rw [H.out, flat, if_pos rfl, ttE_of ho])
          rw [ttE_of ho]
          clear H ho
          generalize ttA 4 (s.extract 1 s.size) = a
          generalize ttR 4 (s.extract 1 s.size) = b at HE ⊢
          go_wp2
          go_ret3
          refine ⟨b, depth, by rw [HE.out]; rfl, fun _ => ?_, hb⟩
          rw [HE.out]
          exact ⟨rfl, by simp⟩
    · have H := Lib.hid (HF.out (.inr hk))
      have hsk : sizeK ((s[0]'hpos).toNat : Int) = kindV ((s[0]'hpos).toNat : Int) := by rw [sizeK, if_pos hk]
      have HS := Lib.hid hsk
      clear hsk HN HF HT
      go_enter Tryz.func135, Tryz.ntmps135
      go_wp2_with fail
      refine (rsize_any _ w).mono ?_
      rintro e w1 ⟨rfl, rfl⟩
      rw [HS.out]
      clear HS
      generalize kindV ((s[0]'hpos).toNat : Int) = q at hk k8 H ⊢
      obtain ⟨k, rfl⟩ := Int.eq_ofNat_of_zero_le hk
      by_cases hc : 1 + k ≤ s.size
      · have HR := Lib.hid (flat_nat s k hc)
        go_wp2
        go_ret3
        refine ⟨s.extract (1 + k) s.size, depth, ?_, fun _ => ?_, Below.refl _ _⟩
        · rw [H.out, HR.out]; rfl
        · rw [H.out, HR.out]; exact ⟨rfl, by simp⟩
      · have HR := Lib.hid (flat_nat_more s k hpos hc)
        go_wp2
        go_ret3
        refine ⟨⟨#[]⟩, 0, ?_, fun h => ?_, Below.refl _ _⟩
        · rw [H.out, HR.out]; rfl
        · rw [H.out, HR.out] at h; cases h
theorem rrow_any (b : ByteArray) (w : World) (hs : b.size < 4611686018427387904) :
 Calls Tryz.prog 108 #[.string b, .int .i64 1, .bool true] w fun e w' => ∃ d, e = .returned (.tuple #[.int .i64 d, .int .i64 (wErr (items true b 31).2)]) ∧ ((items true b 31).2 = 0 → d = 1 + deepest (items true b 31).1) ∧ Below w.heap.size w w' :=
 rtab_of b.size (rval_all _) b 1 w (Nat.le_refl _) hs (by omega) (by omega)
end Go.Proofs.YtllgkohgcicbhaaGreatDoor

/-
  The document's own table, Take and Deep of interchangeref03 answer as the program's do; nothing that was there is changed. Conditions: texts of fewer than 2^62 bytes.
-/
namespace Go.Proofs.YtllgkohgcicbhaaGreatDoor
open Go.RowKit

set_option maxRecDepth 100000 in
set_option maxHeartbeats 1000000 in
theorem rtable_any (s : ByteArray) (w : World) (hs : s.size < 4611686018427387904) :
 Calls Tryz.prog 87 #[.string s] w fun e w' => ∃ r d, e = .returned (.tuple #[.string r, .int .i64 d, .int .i64 (nest true s 32).err]) ∧ ((nest true s 32).err = 0 → r = (nest true s 32).rest ∧ d = (nest true s 32).deep) ∧ Below w.heap.size w w' := by
 have hil := ttA_le 4 s
 go_enter Tryz.func87, Tryz.ntmps87
 go_wp2_with fail
 refine (rinside_any s w hs).mono ?_
 rintro e w1 ⟨rfl, hb⟩
 rcases Bool.eq_false_or_eq_true (ttOk 4 s) with ho | ho
 rotate_left
 · have HE : Hid ((nest true s 32).err = 2) := Lib.hid (by rw [nest, nestOf, if_neg (by simp [ho]), ttE_four ho])
   rw [ttE_four ho]
   clear ho
   generalize ttA 4 s = a at hil ⊢
   generalize ttR 4 s = b
   go_wp2
   go_ret3
   exact ⟨⟨#[]⟩, 0, by rw [HE.out]; rfl, (fun h => by rw [HE.out] at h; cases h), hb⟩
 · rw [ttE_of ho]
   have HE : Hid ((nest true s 32).err = wErr (items true (ttA 4 s) 31).2 ∧ ((nest true s 32).err = 0 → (items true (ttA 4 s) 31).2 = 0 ∧ (nest true s 32).rest = ttR 4 s ∧ (nest true s 32).deep = deepest (items true (ttA 4 s) 31).1 + 1)) := Lib.hid
    ⟨nest_err_items ho (by omega), fun h => nest_zero ho (by omega) h⟩
   clear ho
   generalize ttA 4 s = a at hil HE ⊢
   generalize ttR 4 s = b at HE ⊢
   go_wp2_with fail
   refine (rrow_any a w1 (by omega)).mono ?_
   rintro e w2 ⟨d, rfl, hok, hb2⟩
   have HO := Lib.hid hok
   clear hok
   generalize hwe : wErr (items true a 31).2 = x at HE ⊢
   clear hwe
   go_wp2
   go_ret3
   refine ⟨b, d, by rw [HE.out.1]; rfl, fun h => ?_, hb.trans (hb2.mono hb.size)⟩
   obtain ⟨j1, j2, j3⟩ := HE.out.2 h
   refine ⟨j2.symm, ?_⟩
   rw [HO.out j1, j3]
   omega

theorem rtabDeep_any (s : ByteArray) (w : World) (hs : s.size < 4611686018427387904) :
 Calls Tryz.prog 82 #[.string s] w fun e w' => e = .returned (.tuple #[.int .i64 (aloneD (nest true s 32)), .int .i64 (aloneE (nest true s 32))]) ∧ Below w.heap.size w w' := by
 go_enter Tryz.func82, Tryz.ntmps82
 go_wp2_with fail
 refine (rtable_any s w hs).mono ?_
 rintro e w1 ⟨r, d, rfl, hok, hb⟩
 by_cases hx : (nest true s 32).err = 0
 · obtain ⟨rfl, rfl⟩ := hok hx
   rw [hx]
   by_cases hy : (nest true s 32).rest.size = 0
   · have H := Lib.hid (show aloneD (nest true s 32) = (nest true s 32).deep ∧ aloneE (nest true s 32) = 0 from ⟨by rw [aloneD, if_pos ⟨hx, hy⟩], by rw [aloneE, if_pos hx, if_pos hy]⟩)
     clear hok hx
     generalize (nest true s 32).rest = y at hy ⊢
     generalize (nest true s 32).deep = d at H ⊢
     go_wp2
     go_ret2
     refine ⟨?_, hb⟩
     rw [H.out.1, H.out.2]
     rfl
   · have H := Lib.hid (show aloneD (nest true s 32) = 0 ∧ aloneE (nest true s 32) = 3 from ⟨by rw [aloneD, if_neg (fun h => hy h.2)], by rw [aloneE, if_pos hx, if_neg hy]⟩)
     clear hok hx
     have hy' : 0 < (nest true s 32).rest.size := by omega
     clear hy
     generalize (nest true s 32).rest = y at hy' ⊢
     generalize (nest true s 32).deep = d at H ⊢
     go_wp2
     go_ret2
     refine ⟨?_, hb⟩
     rw [H.out.1, H.out.2]
     rfl
 · have H := Lib.hid (show aloneD (nest true s 32) = 0 ∧ aloneE (nest true s 32) = (nest true s 32).err from ⟨by rw [aloneD, if_neg (fun h => hx h.1)], by rw [aloneE, if_neg hx]⟩)
   have t1 : ((nest true s 32).err != 0) = true := by simpa using hx
   clear hok hx
   generalize (nest true s 32).err = x at t1 H ⊢
   go_wp2
   go_ret2
   refine ⟨?_, hb⟩
   rw [H.out.1, H.out.2]
   rfl
end Go.Proofs.YtllgkohgcicbhaaGreatDoor

/-
  The document's own answer for layer 1, Bits of interchangeref01: bits' bytes, which are what num.Bits answers; nothing that was there is changed. Condition: there are fewer than 2^50 bits.
-/
namespace Go.Proofs.YtllgkohgcicbhaaGreatDoor
open Go.RowKit

/-- the first m of eight bits -/
def octTo (f : Nat → Bool) : Nat → Nat
 | 0 => 0
 | m + 1 => octTo f m + if f m = true then 2 ^ m else 0
theorem octTo_lt (f : Nat → Bool) (m : Nat) : octTo f m < 2 ^ m := by
 induction m with
 | zero => simp [octTo]
 | succ m ih => unfold octTo; rw [Nat.pow_succ]; split <;> omega
theorem octTo_8 (f : Nat → Bool) : octTo f 8 = oct f := by
 have h : ∀ (b : Bool) (n : Nat), (if b = true then n else 0) = n * b.toNat := fun b n => by cases b <;> simp
 simp only [octTo, h, oct]
 omega
/-- the first j bytes -/
def bitsTo (l : List Bool) (j : Nat) : ByteArray := ⟨((List.range j).map fun i => UInt8.ofNat (bitK l l.length i)).toArray⟩
theorem bitsTo_succ (l : List Bool) (j : Nat) : bitsTo l j ++ ⟨#[UInt8.ofNat (bitK l l.length j)]⟩ = bitsTo l (j + 1) := by
 apply ByteArray.ext
 rw [ByteArray.data_append]
 simp [bitsTo, List.range_succ]
theorem bitsTo_size (l : List Bool) (j : Nat) : (bitsTo l j).size = j := by simp [bitsTo, ByteArray.size]
theorem bitsTo_all (l : List Bool) : bitsTo l ((l.length + 7) / 8) = bitsS l := rfl
theorem octTo_bit (l : List Bool) (j : Nat) : octTo (fun i => l.getD (8 * j + i) false) 8 = bitK l l.length j := by
 rw [octTo_8]
 unfold bitK
 congr 1
 funext i
 by_cases h : 8 * j + i < l.length
 · simp [h]
 · simp [h, List.getD]

set_option maxHeartbeats 800000 in
theorem rbits_any (A : Option Addr) (cap : Nat) (l : List Bool) (w : World) (hl : l.length < 1125899906842624) (h : BoolsAt w A l) :
 Calls Tryz.prog 56 #[.slice A l.length cap] w fun e w' => e = .returned (.string (bitsS l)) ∧ Below w.heap.size w w' := by
 have hcv : ∀ (w : World) (a : Int), (convert 59 9 (.slice (some ⟨w.heap.size, 0, none⟩) 1 1)).run Tryz.prog (w.alloc (.cells #[.int .u8 a] 5)) = .ok (.string ⟨#[UInt8.ofNat a.toNat]⟩) (w.alloc (.cells #[.int .u8 a] 5)) := fun w a => conv_own w [a] 1
 go_enter Tryz.func56, Tryz.ntmps56
 go_wp2
 go_loopw [3, 4] (fun s i wr => ∃ j q : Nat, Hid (q = 8 * j) ∧ q < l.length + 8 ∧ i = .int .i64 q ∧ s = .string (bitsTo l j) ∧ Below w.heap.size w wr) (fun _ i _ => l.length + 8 - (intOf i).toNat)
 case atStart => exact ⟨0, 0, rfl, by omega, rfl, rfl, Below.refl _ _⟩
 case round =>
  obtain ⟨j, q, HQ, hj, rfl, rfl, hb⟩ := hrel
  have hsz : (bitsTo l j).size ≤ 1125899906842624 := by rw [bitsTo_size]; have := HQ.out; omega
  by_cases hlt : q < l.length
  · have HT := Lib.hid (bitsTo_succ l j)
    have HO := Lib.hid (octTo_bit l j)
    have hd : decide (q < l.length) = true := by simpa using hlt
    go_wp2
    go_loop [5, 6, 7] (fun v p k => ∃ m : Nat, m ≤ 8 ∧ k = .int .i64 ((q : Int) + m) ∧ p = .int .i64 ((2 ^ m : Nat) : Int) ∧ v = .int .i64 (octTo (fun i => l.getD (q + i) false) m)) (fun _ _ k => q + 8 - (intOf k).toNat)
    case atStart => exact ⟨0, by omega, by simp, rfl, rfl⟩
    case round =>
     obtain ⟨m, hm, rfl, rfl, rfl⟩ := hrel
     have ho := octTo_lt (fun i => l.getD (q + i) false) m
     have hp : 2 ^ m ≤ 256 := Nat.pow_le_pow_right (n := 2) (j := 8) (by omega) hm
     have HS := Lib.hid (show octTo (fun i => l.getD (q + i) false) (m + 1) = octTo (fun i => l.getD (q + i) false) m + (if l.getD (q + m) false = true then 2 ^ m else 0) from rfl)
     have HP := Lib.hid (Nat.pow_succ 2 m)
     by_cases hm8 : m < 8
     · by_cases hin : q + m < l.length
       · obtain ⟨b, off, rfl, hbl, hc⟩ := h (by omega)
         have hck := (hb.cell (p := ⟨b, off + (q + m), none⟩) hbl).trans (hc (q + m) hin)
         have Hgd := Lib.hid (show l.getD (q + m) false = l[q + m] by simp [List.getD, hin])
         clear hc h hcv
         generalize l[q + m] = x at hck Hgd
         generalize octTo (fun i => l.getD (q + i) false) m = o at *
         generalize 2 ^ m = pw at *
         cases x
         · go_wp2
           go_round
           case rel => exact ⟨m + 1, by omega, by go_num, by rw [HP.out]; go_num, by rw [HS.out, Hgd.out]; simp⟩
           case measure => simp [intOf]; omega
         · go_wp2
           go_round
           case rel => exact ⟨m + 1, by omega, by go_num, by rw [HP.out]; go_num, by rw [HS.out, Hgd.out]; simp⟩
           case measure => simp [intOf]; omega
       · have Hgd := Lib.hid (show l.getD (q + m) false = false by rw [List.getD, List.getElem?_eq_none (by omega)]; rfl)
         clear h hcv
         generalize octTo (fun i => l.getD (q + i) false) m = o at *
         generalize 2 ^ m = pw at *
         go_wp2
         go_round
         case rel => exact ⟨m + 1, by omega, by go_num, by rw [HP.out]; go_num, by rw [HS.out, Hgd.out]; simp⟩
         case measure => simp [intOf]; omega
     · obtain rfl : m = 8 := by omega
       have HK := Lib.hid (show octTo (fun i => l.getD (q + i) false) 8 = bitK l l.length j by rw [HQ.out]; exact HO.out)
       clear h HS HP
       generalize octTo (fun i => l.getD (q + i) false) 8 = o at *
       go_wp2
       go_roundw
       case rel => exact ⟨j + 1, q + 8, Lib.hid (by have := HQ.out; omega), by omega, by go_num, by rw [← HT.out, ← HK.out], hb.alloc hb.size _⟩
       case measure => simp [intOf]; omega
  · clear hcv h
    go_wp2
    go_ret
    refine ⟨congrArg (fun s : ByteArray => Ending.returned (.string s)) (?_ : bitsTo l j = bitsS l), hb⟩
    rw [← bitsTo_all, show j = (l.length + 7) / 8 by have := HQ.out; omega]
end Go.Proofs.YtllgkohgcicbhaaGreatDoor

/-
  The document's own answer for layer 1, TakeBits of interchangeref01, is what num.TakeBits answers; nothing that was there is changed. No condition.
-/
namespace Go.Proofs.YtllgkohgcicbhaaGreatDoor
open Go.RowKit

/-- the row that is built holds the first N bits -/
def OutRel (s : ByteArray) (w wr : World) (v : Value) (N : Nat) : Prop :=
 wr.ownsRow w.heap.size 4 1 v N ((bitsOf s N).map Value.bool) ∧ Below w.heap.size w wr

/-- what TakeBits answers, the bits in a row of its own -/
def TBo (s : ByteArray) (n : Int) (w : World) (e : Ending) (w' : World) : Prop :=
 ∃ v, e = .returned (.tuple #[v, .string (tbR s n), .int .i64 (tbE s n)]) ∧ w'.ownsRow w.heap.size 4 1 v (tbL s n).length ((tbL s n).map Value.bool) ∧ Below w.heap.size w w'

theorem rtb_arg (s : ByteArray) (n : Int) (w : World) (h : n < 0 ∨ 64 < n) : Calls Tryz.prog 43 #[.string s, .int .i64 n] w (TBo s n w) := by
 have hE : tbE s n = 1 := by unfold tbE; rcases h with h | h <;> simp [h]
 have HL := Lib.hid (show tbL s n = [] by simp [tbL, hE])
 have HR := Lib.hid (show tbR s n = ⟨#[]⟩ by simp [tbR, hE])
 have HE := Lib.hid hE
 clear hE
 rcases h with h | h
 all_goals
  go_enter Tryz.func43, Tryz.ntmps43
  go_wp2
  go_ret3
  refine ⟨.slice none 0 0, ?_, ?_, Below.refl _ _⟩
  · rw [HR.out, HE.out]; rfl
  · rw [HL.out]; exact World.ownsRow_nil _ _ _ _

set_option maxRecDepth 100000 in
set_option maxHeartbeats 1000000 in
theorem rtb_in (s : ByteArray) (n : Nat) (w : World) (hn : n ≤ 64) : Calls Tryz.prog 43 #[.string s, .int .i64 n] w (TBo s n w) := by
 obtain ⟨i0, hi, hz0, hz1, hz2⟩ := info_parts (show (Tryz.prog.info? 4).map (fun i => (i.zero, i.size, i.bytes)) = some (some (.bool false), 1, 1) by kernel_rfl)
 have d1 : decide ((n : Int) < 0) = false := by simp
 have d2 : decide (64 < (n : Int)) = false := by simp; omega
 go_enter Tryz.func43, Tryz.ntmps43
 go_wp2
 go_loop [7] (fun v => ∃ m : Nat, 8 * m < n + 8 ∧ v = .int .i64 m) (fun v => 8 - (intOf v).toNat)
 case atStart => exact ⟨0, by omega, rfl⟩
 case round =>
  obtain ⟨m, hm, rfl⟩ := hrel
  by_cases hlt : 8 * m < n
  · have d3 : decide (8 * (m : Int) < n) = true := by simp; omega
    go_wp2
    go_round
    case rel => exact ⟨m + 1, by omega, by go_num⟩
    case measure => simp [intOf]; omega
  · have d3 : decide (8 * (m : Int) < n) = false := by simp; omega
    have Hm := Lib.hid (show m = (n + 7) / 8 by omega)
    by_cases hs : s.size < m
    · have d4 : decide (s.size < m) = true := by simpa using hs
      have hE : tbE s n = 2 := by
       unfold tbE
       rw [if_neg (by omega), if_neg (by omega), if_pos (by have := Hm.out; omega)]
      have HL := Lib.hid (show tbL s n = [] by simp [tbL, hE])
      have HR := Lib.hid (show tbR s n = ⟨#[]⟩ by simp [tbR, hE])
      have HE := Lib.hid hE
      clear hE
      go_wp2
      go_ret3
      refine ⟨.slice none 0 0, ?_, ?_, Below.refl _ _⟩
      · rw [HR.out, HE.out]; rfl
      · rw [HL.out]; exact World.ownsRow_nil _ _ _ _
    · have d4 : decide (s.size < m) = false := by simpa using hs
      go_wp2
      go_loopw [8, 9] (fun o v wr => ∃ i N : Nat, i ≤ m ∧ Hid (N = min (8 * i) n) ∧ v = .int .i64 i ∧ OutRel s w wr o N ∧ Hid (n / 8 < i → tidy s n = true)) (fun _ v _ => m - (intOf v).toNat)
      case atStart => exact ⟨0, 0, by omega, Lib.hid (by simp), rfl, ⟨World.ownsRow_nil _ _ _ _, Below.refl _ _⟩, Lib.hid (by omega)⟩
      case round =>
       obtain ⟨i, N, hi', HN, rfl, ⟨hown, hb⟩, HT⟩ := hrel
       by_cases hlt2 : i < m
       · have his : i < s.size := by omega
         go_wp2
         go_loopw [8, 10, 11] (fun o v k wr => ∃ t N : Nat, t ≤ 8 ∧ Hid (N = min (8 * i + t) n) ∧ v = .int .i64 ((byteAt s i / 2 ^ t : Nat) : Int) ∧ k = .int .i64 t ∧ OutRel s w wr o N ∧ Hid (∀ t', t' < t → n ≤ 8 * i + t' → byteAt s i / 2 ^ t' % 2 = 0)) (fun _ _ k _ => 8 - (intOf k).toNat)
         case atStart =>
          refine ⟨0, N, by omega, HN, ?_, rfl, ⟨hown, hb⟩, Lib.hid (by omega)⟩
          have := byteAt_lt s i
          rw [byteAt_get s i his] at this ⊢
          rw [IntWalk.wrap64_in _ (by omega)]
          simp
         case round =>
          clear hown hb HN
          obtain ⟨t, N, ht, HN, rfl, rfl, ⟨hown, hb⟩, HC⟩ := hrel
          have hx : byteAt s i / 2 ^ t ≤ 255 := Nat.le_trans (Nat.div_le_self _ _) (by have := byteAt_lt s i; omega)
          have HH := Lib.hid (half_pow (byteAt s i) t)
          by_cases ht8 : t < 8
          · have HBit := Lib.hid (bitAt_in s i t ht8)
            have d5 : decide (t < 8) = true := by simpa using ht8
            have hNle : N ≤ 64 := by have := HN.out; omega
            by_cases hin : 8 * i + t < n
            · have d6 : decide (8 * (i : Int) + t < n) = true := by simp; omega
              generalize byteAt s i / 2 ^ t = x at hx HH HBit ⊢
              have HX := Lib.hid (show (x : Int) % 2 = ((x % 2 : Nat) : Int) by omega)
              go_wp2_with (first
               | (at_builtin; refine wpList_append_own _ rfl _ _ 91 rfl w.heap.size 4 i0 (.bool false) 1 1 Tryz.underlying91 hi hz0 hz1 hz2 rfl (by decide) _ _ _ rfl (hown.alloc _) ⟨wr.heap.size, 0, none⟩ 1 1 [.bool ((x : Int) % 2 == 1)] rfl rfl ?c1 ?c2 ?c3 ?c4 ?c5 ?_))
              case c1 =>
               intro j u hj
               match j, hj with
               | 0, hj => simp at hj; subst hj; simp [Addr.add]
              case c2 => intro u hu; simp at hu; subst hu; rfl
              case c3 => unfold maxLen; omega
              case c4 => omega
              case c5 => have := hb.size; simp; omega
              intro o' w1 hown' hgrow _
              have hb1 : Below w.heap.size w w1 := (hb.alloc hb.size _).grown hgrow (by have := hb.size; simp; omega) (fun k hk => by
               rcases hown.2 with ⟨rfl, _⟩ | ⟨g, cap, cur, rfl, hg, _⟩
               · simp [Value.ownBlock] at hk
               · simp [Value.ownBlock] at hk; omega)
              have hbit : ((x : Int) % 2 == 1) = bitAt s N := by
               have e : N = 8 * i + t := by have := HN.out; omega
               rw [e, HBit.out, HX.out, Bool.eq_iff_iff]
               simp only [beq_iff_eq]
               omega
              rw [hbit] at hown'
              have Hown : Hid (OutRel s w w1 o' (N + 1)) := Lib.hid ⟨by rw [bitsOf_succ, List.map_append]; exact hown', hb1⟩
              clear hown' hgrow hown hb hb1 hbit
              go_wp2
              go_roundw
              case rel =>
               refine ⟨t + 1, N + 1, by omega, Lib.hid (by have := HN.out; omega), by rw [← HH.out]; go_num, by go_num, Hown.out, Lib.hid (fun t' h1 h2 => ?_)⟩
               by_cases e : t' = t
               · subst e; omega
               · exact HC.out t' (by omega) h2
              case measure => simp [intOf]; omega
            · have d6 : decide (8 * (i : Int) + t < n) = false := by simp; omega
              by_cases hbit : byteAt s i / 2 ^ t % 2 = 1
              · have hE : tbE s n = 3 := by
                 have h3 := tidy_no s n i t ht8 (by have := Hm.out; omega) (by omega) hbit
                 unfold tbE
                 rw [if_neg (by omega), if_neg (by omega), if_neg (by have := Hm.out; omega), Int.toNat_natCast, h3]
                 rfl
                have HL := Lib.hid (show tbL s n = [] by simp [tbL, hE])
                have HR := Lib.hid (show tbR s n = ⟨#[]⟩ by simp [tbR, hE])
                have HE := Lib.hid hE
                have d7 : (((byteAt s i / 2 ^ t : Nat) : Int) % 2 == 1) = true := by rw [beq_iff_eq]; omega
                clear hE hown hbit
                generalize byteAt s i / 2 ^ t = x at hx HH HBit d7 ⊢
                go_wp2
                go_ret3
                refine ⟨.slice none 0 0, ?_, ?_, hb⟩
                · rw [HR.out, HE.out]; rfl
                · rw [HL.out]; exact World.ownsRow_nil _ _ _ _
              · have Hb := Lib.hid (show byteAt s i / 2 ^ t % 2 = 0 by omega)
                have d7 : (((byteAt s i / 2 ^ t : Nat) : Int) % 2 == 1) = false := by rw [beq_eq_false_iff_ne]; omega
                clear hbit
                generalize byteAt s i / 2 ^ t = x at hx HH HBit d7 ⊢
                go_wp2
                go_roundw
                case rel =>
                 refine ⟨t + 1, N, by omega, Lib.hid (by have := HN.out; omega), by rw [← HH.out]; go_num, by go_num, ⟨hown, hb⟩, Lib.hid (fun t' h1 h2 => ?_)⟩
                 by_cases e : t' = t
                 · subst e; exact Hb.out
                 · exact HC.out t' (by omega) h2
                case measure => simp [intOf]; omega
          · obtain rfl : t = 8 := by omega
            go_wp2
            go_roundw
            case rel =>
             refine ⟨i + 1, N, by omega, Lib.hid (by have := HN.out; omega), by go_num, ⟨hown, hb⟩, Lib.hid (fun h => ?_)⟩
             by_cases e : n / 8 < i
             · exact HT.out e
             · have e : i = n / 8 := by omega
               subst e
               exact tidy_yes s n (fun t' h1 h2 => HC.out t' h1 h2)
            case measure => simp [intOf]; omega
       · obtain rfl : i = m := by omega
         have hE : tbE s n = 0 := by
          have h3 : tidy s n = true := by
           by_cases h8 : n % 8 = 0
           · simp [tidy, h8]
           · exact HT.out (by have := Hm.out; omega)
          unfold tbE
          rw [if_neg (by omega), if_neg (by omega), if_neg (by have := Hm.out; omega), Int.toNat_natCast, h3]
          rfl
         have HL := Lib.hid (show tbL s n = bitsOf s n by simp [tbL, hE])
         have HR := Lib.hid (show tbR s n = s.extract ((n + 7) / 8) s.size by simp [tbR, hE])
         have HE := Lib.hid hE
         have HNn := Lib.hid (show N = n by have := HN.out; have := Hm.out; omega)
         clear hE
         have Hown := Lib.hid hown
         clear hown
         go_wp2
         go_quiet (fail)
         go_wp2
         go_ret3
         have hown := Hown.out
         rw [HNn.out] at hown
         refine ⟨_, by rw [HR.out, HE.out, ← Hm.out]; rfl, ?_, below_drewN hb _⟩
         rw [HL.out, bitsOf_length]
         exact rowKept hown (below_drewN (Below.refl _ _) _)

theorem rtakeBits_own (s : ByteArray) (n : Int) (w : World) : Calls Tryz.prog 43 #[.string s, .int .i64 n] w (TBo s n w) := by
 by_cases h : n < 0 ∨ 64 < n
 · exact rtb_arg s n w h
 · obtain ⟨k, rfl⟩ := Int.eq_ofNat_of_zero_le (show 0 ≤ n by omega)
   exact rtb_in s k w (by omega)
end Go.Proofs.YtllgkohgcicbhaaGreatDoor
