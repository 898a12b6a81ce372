/-
  The document's own answers for layer 1, Take of interchangeref01, are what num.Take answers; nothing that was there is changed. No condition.
-/
import Derived.Test.YtjpijggbkiihhaaDoorPWid
import Derived.Test.YtjpijggbkiihhaaDoorWPut
import Derived.Test.YtjpijggbkiihhaaDoorWTake
namespace Go.Proofs.YtjpijggbkiihhaaDoor
open Go.RowKit

theorem add_byte (x b : Nat) (hb : b < 256) (hx : x < 72057594037927936) :
    IntKind.u64.wrap (256 * (x : Int) + IntKind.u64.wrap (b : Int)) = ((x * 256 + b : Nat) : Int) := by
  rw [IntWalk.u64_in (b : Int) (by omega), IntWalk.u64_in _ (by omega)]
  omega
theorem rtake_arg (s : ByteArray) (n : Int) (w : World) (hn : isW n = false) :
    Calls Tryd.prog 30 #[.string s, .int .i64 n] w fun e w' => e = .returned (.tuple #[.int .u64 0, .string ⟨#[]⟩, .int .i64 1]) ∧ w = w' := by
  obtain ⟨t1, t2, t3, t4⟩ := isW_tests hn
  go_enter Tryd.func30, Tryd.ntmps30
  go_wp2
  go_ret3
  exact ⟨rfl, rfl⟩

set_option maxHeartbeats 400000 in
theorem rtake_1 (s : ByteArray) (w : World) :
    Calls Tryd.prog 30 #[.string s, .int .i64 1] w fun e w' => e = .returned (.tuple #[.int .u64 (takeV s 1), .string (takeR s 1), .int .i64 (takeE s 1)]) ∧ Below w.heap.size w w' := by
  by_cases hs : s.size < 1
  · have hok : takeOk s 1 = false := by simp [takeOk, isW]; omega
    have hd : decide ((s.size : Int) < 1) = true := by simp; omega
    go_enter Tryd.func30, Tryd.ntmps30
    go_wp2
    go_ret3
    exact ⟨by simp [takeV, takeR, takeE, hok, isW], Below.refl _ _⟩
  · have hok : takeOk s 1 = true := by simp [takeOk, isW]; omega
    have hd : decide ((s.size : Int) < 1) = false := by simp; omega
    have Hok := Lib.hid hok
    clear hok
    go_enter Tryd.func30, Tryd.ntmps30
    go_wp2
    go_loop [7, 8] (fun v i => ∃ k : Nat, k ≤ 1 ∧ i = .int .i64 k ∧ v = .int .u64 (takeL (s.data.toList.take k))) (fun _ i => 1 - (intOf i).toNat)
    case atStart => exact ⟨0, by omega, rfl, rfl⟩
    case round =>
      obtain ⟨k, hk, rfl, rfl⟩ := hrel
      by_cases hlt : k < 1
      · have HS := Lib.hid (take_succ s k (by omega))
        have hb1 : takeL (s.data.toList.take k) < 72057594037927936 := by
          have h := takeL_lt (s.data.toList.take k)
          have hl : (s.data.toList.take k).length ≤ 7 := by have := List.length_take_le k s.data.toList; omega
          exact Nat.lt_of_lt_of_le h (by have := Nat.pow_le_pow_right (n := 256) (by omega) hl; simpa using this)
        have hb : (takeL (s.data.toList.take k) : Int) * 256 ≤ 18446744073709551360 := by omega
        have hlt' : decide (k < 1) = true := by simpa using hlt
        go_wp2
        go_round
        case rel => exact ⟨k + 1, by omega, by go_num, by rw [HS.out, ← add_byte _ _ (by exact UInt8.toNat_lt _) hb1]⟩
        case measure => simp [intOf]; omega
      · obtain rfl : k = 1 := by omega
        go_wp2
        go_quiet (fail)
        go_wp2
        go_ret3
        refine ⟨?_, below_drewN (Below.refl _ _) _⟩
        simp [takeV, takeR, takeE, Hok.out, isW]

set_option maxHeartbeats 400000 in
theorem rtake_2 (s : ByteArray) (w : World) :
    Calls Tryd.prog 30 #[.string s, .int .i64 2] w fun e w' => e = .returned (.tuple #[.int .u64 (takeV s 2), .string (takeR s 2), .int .i64 (takeE s 2)]) ∧ Below w.heap.size w w' := by
  by_cases hs : s.size < 2
  · have hok : takeOk s 2 = false := by simp [takeOk, isW]; omega
    have hd : decide ((s.size : Int) < 2) = true := by simp; omega
    go_enter Tryd.func30, Tryd.ntmps30
    go_wp2
    go_ret3
    exact ⟨by simp [takeV, takeR, takeE, hok, isW], Below.refl _ _⟩
  · have hok : takeOk s 2 = true := by simp [takeOk, isW]; omega
    have hd : decide ((s.size : Int) < 2) = false := by simp; omega
    have Hok := Lib.hid hok
    clear hok
    go_enter Tryd.func30, Tryd.ntmps30
    go_wp2
    go_loop [7, 8] (fun v i => ∃ k : Nat, k ≤ 2 ∧ i = .int .i64 k ∧ v = .int .u64 (takeL (s.data.toList.take k))) (fun _ i => 2 - (intOf i).toNat)
    case atStart => exact ⟨0, by omega, rfl, rfl⟩
    case round =>
      obtain ⟨k, hk, rfl, rfl⟩ := hrel
      by_cases hlt : k < 2
      · have HS := Lib.hid (take_succ s k (by omega))
        have hb1 : takeL (s.data.toList.take k) < 72057594037927936 := by
          have h := takeL_lt (s.data.toList.take k)
          have hl : (s.data.toList.take k).length ≤ 7 := by have := List.length_take_le k s.data.toList; omega
          exact Nat.lt_of_lt_of_le h (by have := Nat.pow_le_pow_right (n := 256) (by omega) hl; simpa using this)
        have hb : (takeL (s.data.toList.take k) : Int) * 256 ≤ 18446744073709551360 := by omega
        have hlt' : decide (k < 2) = true := by simpa using hlt
        go_wp2
        go_round
        case rel => exact ⟨k + 1, by omega, by go_num, by rw [HS.out, ← add_byte _ _ (by exact UInt8.toNat_lt _) hb1]⟩
        case measure => simp [intOf]; omega
      · obtain rfl : k = 2 := by omega
        go_wp2
        go_quiet (fail)
        go_wp2
        go_ret3
        refine ⟨?_, below_drewN (Below.refl _ _) _⟩
        simp [takeV, takeR, takeE, Hok.out, isW]

set_option maxHeartbeats 400000 in
theorem rtake_4 (s : ByteArray) (w : World) :
    Calls Tryd.prog 30 #[.string s, .int .i64 4] w fun e w' => e = .returned (.tuple #[.int .u64 (takeV s 4), .string (takeR s 4), .int .i64 (takeE s 4)]) ∧ Below w.heap.size w w' := by
  by_cases hs : s.size < 4
  · have hok : takeOk s 4 = false := by simp [takeOk, isW]; omega
    have hd : decide ((s.size : Int) < 4) = true := by simp; omega
    go_enter Tryd.func30, Tryd.ntmps30
    go_wp2
    go_ret3
    exact ⟨by simp [takeV, takeR, takeE, hok, isW], Below.refl _ _⟩
  · have hok : takeOk s 4 = true := by simp [takeOk, isW]; omega
    have hd : decide ((s.size : Int) < 4) = false := by simp; omega
    have Hok := Lib.hid hok
    clear hok
    go_enter Tryd.func30, Tryd.ntmps30
    go_wp2
    go_loop [7, 8] (fun v i => ∃ k : Nat, k ≤ 4 ∧ i = .int .i64 k ∧ v = .int .u64 (takeL (s.data.toList.take k))) (fun _ i => 4 - (intOf i).toNat)
    case atStart => exact ⟨0, by omega, rfl, rfl⟩
    case round =>
      obtain ⟨k, hk, rfl, rfl⟩ := hrel
      by_cases hlt : k < 4
      · have HS := Lib.hid (take_succ s k (by omega))
        have hb1 : takeL (s.data.toList.take k) < 72057594037927936 := by
          have h := takeL_lt (s.data.toList.take k)
          have hl : (s.data.toList.take k).length ≤ 7 := by have := List.length_take_le k s.data.toList; omega
          exact Nat.lt_of_lt_of_le h (by have := Nat.pow_le_pow_right (n := 256) (by omega) hl; simpa using this)
        have hb : (takeL (s.data.toList.take k) : Int) * 256 ≤ 18446744073709551360 := by omega
        have hlt' : decide (k < 4) = true := by simpa using hlt
        go_wp2
        go_round
        case rel => exact ⟨k + 1, by omega, by go_num, by rw [HS.out, ← add_byte _ _ (by exact UInt8.toNat_lt _) hb1]⟩
        case measure => simp [intOf]; omega
      · obtain rfl : k = 4 := by omega
        go_wp2
        go_quiet (fail)
        go_wp2
        go_ret3
        refine ⟨?_, below_drewN (Below.refl _ _) _⟩
        simp [takeV, takeR, takeE, Hok.out, isW]

set_option maxHeartbeats 400000 in
theorem rtake_8 (s : ByteArray) (w : World) :
    Calls Tryd.prog 30 #[.string s, .int .i64 8] w fun e w' => e = .returned (.tuple #[.int .u64 (takeV s 8), .string (takeR s 8), .int .i64 (takeE s 8)]) ∧ Below w.heap.size w w' := by
  by_cases hs : s.size < 8
  · have hok : takeOk s 8 = false := by simp [takeOk, isW]; omega
    have hd : decide ((s.size : Int) < 8) = true := by simp; omega
    go_enter Tryd.func30, Tryd.ntmps30
    go_wp2
    go_ret3
    exact ⟨by simp [takeV, takeR, takeE, hok, isW], Below.refl _ _⟩
  · have hok : takeOk s 8 = true := by simp [takeOk, isW]; omega
    have hd : decide ((s.size : Int) < 8) = false := by simp; omega
    have Hok := Lib.hid hok
    clear hok
    go_enter Tryd.func30, Tryd.ntmps30
    go_wp2
    go_loop [7, 8] (fun v i => ∃ k : Nat, k ≤ 8 ∧ i = .int .i64 k ∧ v = .int .u64 (takeL (s.data.toList.take k))) (fun _ i => 8 - (intOf i).toNat)
    case atStart => exact ⟨0, by omega, rfl, rfl⟩
    case round =>
      obtain ⟨k, hk, rfl, rfl⟩ := hrel
      by_cases hlt : k < 8
      · have HS := Lib.hid (take_succ s k (by omega))
        have hb1 : takeL (s.data.toList.take k) < 72057594037927936 := by
          have h := takeL_lt (s.data.toList.take k)
          have hl : (s.data.toList.take k).length ≤ 7 := by have := List.length_take_le k s.data.toList; omega
          exact Nat.lt_of_lt_of_le h (by have := Nat.pow_le_pow_right (n := 256) (by omega) hl; simpa using this)
        have hb : (takeL (s.data.toList.take k) : Int) * 256 ≤ 18446744073709551360 := by omega
        have hlt' : decide (k < 8) = true := by simpa using hlt
        go_wp2
        go_round
        case rel => exact ⟨k + 1, by omega, by go_num, by rw [HS.out, ← add_byte _ _ (by exact UInt8.toNat_lt _) hb1]⟩
        case measure => simp [intOf]; omega
      · obtain rfl : k = 8 := by omega
        go_wp2
        go_quiet (fail)
        go_wp2
        go_ret3
        refine ⟨?_, below_drewN (Below.refl _ _) _⟩
        simp [takeV, takeR, takeE, Hok.out, isW]

theorem rtake_any (s : ByteArray) (n : Int) (w : World) :
    Calls Tryd.prog 30 #[.string s, .int .i64 n] w fun e w' => e = .returned (.tuple #[.int .u64 (takeV s n), .string (takeR s n), .int .i64 (takeE s n)]) ∧ Below w.heap.size w w' := by
  cases hn : isW n
  · refine (rtake_arg s n w hn).mono ?_
    rintro e w' ⟨rfl, rfl⟩
    exact ⟨by simp [takeR, takeV, takeE, takeOk, hn], Below.refl _ _⟩
  · rcases isW_cases hn with rfl | rfl | rfl | rfl
    · exact rtake_1 s w
    · exact rtake_2 s w
    · exact rtake_4 s w
    · exact rtake_8 s w

end Go.Proofs.YtjpijggbkiihhaaDoor
