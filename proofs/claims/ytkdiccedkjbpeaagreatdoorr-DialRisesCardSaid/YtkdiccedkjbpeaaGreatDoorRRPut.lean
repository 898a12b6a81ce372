/-
  The document's own answers for layer 1, Put and Take of interchangeref01, are what num.Put and num.Take answer; nothing that was there is changed. No condition.
-/
import Derived.Test.YtkdiccedkjbpeaaGreatDoorRJRTab
import Derived.Test.YtkdiccedkjbpeaaGreatDoorRJWNum
namespace Go.Proofs.YtkdiccedkjbpeaaGreatDoorR
open Go.RowKit

theorem rput_arg (n : Int) (v : Int) (w : World) (hn : isW n = false) :
    Calls Tryz.prog 67 #[.int .i64 n, .int .u64 v] w fun e w' => e = .returned (.tuple #[.string ⟨#[]⟩, .int .i64 1]) ∧ w = w' := by
  obtain ⟨t1, t2, t3, t4⟩ := isW_tests hn
  go_enter Tryz.func67, Tryz.ntmps67
  go_wp2
  go_ret2
  exact ⟨rfl, rfl⟩

theorem div_step (v k : Nat) : ((v / 256 ^ k : Nat) : Int) / 256 = ((v / 256 ^ (k + 1) : Nat) : Int) := by
  rw [Nat.pow_succ, ← Nat.div_div_eq_div_mul]; omega
theorem div_byte (v k : Nat) : UInt8.ofNat (v / 256 ^ k % 256) = UInt8.ofNat (v / 256 ^ k) := by
  apply UInt8.toNat_inj.1; simp
theorem div_le (v k : Nat) : v / 256 ^ k ≤ v := Nat.div_le_self _ _

set_option maxHeartbeats 400000 in
theorem rput_1 (v : Nat) (w : World) (h1 : v < 18446744073709551616) :
    Calls Tryz.prog 67 #[.int .i64 1, .int .u64 v] w fun e w' => e = .returned (.tuple #[.string (putR 1 v), .int .i64 (putE 1 v)]) ∧ Below w.heap.size w w' := by
  have hcv : ∀ (w : World) (a : Int), (convert 111 9 (.slice (some ⟨w.heap.size, 0, none⟩) 1 1)).run Tryz.prog (w.alloc (.cells #[.int .u8 a] 5)) = .ok (.string ⟨#[UInt8.ofNat a.toNat]⟩) (w.alloc (.cells #[.int .u8 a] 5)) := fun w a => conv_own w [a] 1
  go_enter Tryz.func67, Tryz.ntmps67
  go_wp2
  go_loopw [1, 6, 7] (fun a s i wr => ∃ k : Nat, k ≤ 1 ∧ i = .int .i64 k ∧ a = .int .u64 ((v / 256 ^ k : Nat) : Int) ∧ s = .string (putS k v) ∧ Below w.heap.size w wr) (fun _ _ i _ => 1 - (intOf i).toNat)
  case atStart => exact ⟨0, by omega, rfl, by simp, rfl, Below.refl _ _⟩
  case round =>
    obtain ⟨k, hk, rfl, rfl, rfl, hb⟩ := hrel
    have hle := div_le v k
    by_cases hlt : k < 1
    · have HS := Lib.hid (putS_cons k v)
      have HD := Lib.hid (div_step v k)
      have HB := Lib.hid (div_byte v k)
      have hlt' : decide (k < 1) = true := by simpa using hlt
      have hsz : (putS k v).size ≤ 8 := by rw [putS_size]; omega
      generalize v / 256 ^ k = x at hle HS HD HB ⊢
      go_wp2
      go_roundw
      case rel => exact ⟨k + 1, by omega, by go_num, by rw [HD.out], by rw [HB.out, HS.out], hb.alloc hb.size _⟩
      case measure => simp [intOf]; omega
    · obtain rfl : k = 1 := by omega
      by_cases hv : v < 256
      · have hz : v / 256 ^ 1 = 0 := by simp; omega
        rw [hz]
        clear hcv
        go_wp2
        go_ret2
        refine ⟨?_, hb⟩
        have hok : putOk 1 v = true := by simp [putOk, isW]; omega
        simp [putR, putE, hok, isW]
      · have hz : 0 < v / 256 ^ 1 := by simp; omega
        generalize v / 256 ^ 1 = x at hz hle ⊢
        clear hcv
        go_wp2
        go_ret2
        refine ⟨?_, hb⟩
        have hok : putOk 1 v = false := by simp [putOk, isW]; omega
        simp [putR, putE, hok, isW]

set_option maxHeartbeats 400000 in
theorem rput_2 (v : Nat) (w : World) (h1 : v < 18446744073709551616) :
    Calls Tryz.prog 67 #[.int .i64 2, .int .u64 v] w fun e w' => e = .returned (.tuple #[.string (putR 2 v), .int .i64 (putE 2 v)]) ∧ Below w.heap.size w w' := by
  have hcv : ∀ (w : World) (a : Int), (convert 111 9 (.slice (some ⟨w.heap.size, 0, none⟩) 1 1)).run Tryz.prog (w.alloc (.cells #[.int .u8 a] 5)) = .ok (.string ⟨#[UInt8.ofNat a.toNat]⟩) (w.alloc (.cells #[.int .u8 a] 5)) := fun w a => conv_own w [a] 1
  go_enter Tryz.func67, Tryz.ntmps67
  go_wp2
  go_loopw [1, 6, 7] (fun a s i wr => ∃ k : Nat, k ≤ 2 ∧ i = .int .i64 k ∧ a = .int .u64 ((v / 256 ^ k : Nat) : Int) ∧ s = .string (putS k v) ∧ Below w.heap.size w wr) (fun _ _ i _ => 2 - (intOf i).toNat)
  case atStart => exact ⟨0, by omega, rfl, by simp, rfl, Below.refl _ _⟩
  case round =>
    obtain ⟨k, hk, rfl, rfl, rfl, hb⟩ := hrel
    have hle := div_le v k
    by_cases hlt : k < 2
    · have HS := Lib.hid (putS_cons k v)
      have HD := Lib.hid (div_step v k)
      have HB := Lib.hid (div_byte v k)
      have hlt' : decide (k < 2) = true := by simpa using hlt
      have hsz : (putS k v).size ≤ 8 := by rw [putS_size]; omega
      generalize v / 256 ^ k = x at hle HS HD HB ⊢
      go_wp2
      go_roundw
      case rel => exact ⟨k + 1, by omega, by go_num, by rw [HD.out], by rw [HB.out, HS.out], hb.alloc hb.size _⟩
      case measure => simp [intOf]; omega
    · obtain rfl : k = 2 := by omega
      by_cases hv : v < 65536
      · have hz : v / 256 ^ 2 = 0 := by simp; omega
        rw [hz]
        clear hcv
        go_wp2
        go_ret2
        refine ⟨?_, hb⟩
        have hok : putOk 2 v = true := by simp [putOk, isW]; omega
        simp [putR, putE, hok, isW]
      · have hz : 0 < v / 256 ^ 2 := by simp; omega
        generalize v / 256 ^ 2 = x at hz hle ⊢
        clear hcv
        go_wp2
        go_ret2
        refine ⟨?_, hb⟩
        have hok : putOk 2 v = false := by simp [putOk, isW]; omega
        simp [putR, putE, hok, isW]

set_option maxHeartbeats 400000 in
theorem rput_4 (v : Nat) (w : World) (h1 : v < 18446744073709551616) :
    Calls Tryz.prog 67 #[.int .i64 4, .int .u64 v] w fun e w' => e = .returned (.tuple #[.string (putR 4 v), .int .i64 (putE 4 v)]) ∧ Below w.heap.size w w' := by
  have hcv : ∀ (w : World) (a : Int), (convert 111 9 (.slice (some ⟨w.heap.size, 0, none⟩) 1 1)).run Tryz.prog (w.alloc (.cells #[.int .u8 a] 5)) = .ok (.string ⟨#[UInt8.ofNat a.toNat]⟩) (w.alloc (.cells #[.int .u8 a] 5)) := fun w a => conv_own w [a] 1
  go_enter Tryz.func67, Tryz.ntmps67
  go_wp2
  go_loopw [1, 6, 7] (fun a s i wr => ∃ k : Nat, k ≤ 4 ∧ i = .int .i64 k ∧ a = .int .u64 ((v / 256 ^ k : Nat) : Int) ∧ s = .string (putS k v) ∧ Below w.heap.size w wr) (fun _ _ i _ => 4 - (intOf i).toNat)
  case atStart => exact ⟨0, by omega, rfl, by simp, rfl, Below.refl _ _⟩
  case round =>
    obtain ⟨k, hk, rfl, rfl, rfl, hb⟩ := hrel
    have hle := div_le v k
    by_cases hlt : k < 4
    · have HS := Lib.hid (putS_cons k v)
      have HD := Lib.hid (div_step v k)
      have HB := Lib.hid (div_byte v k)
      have hlt' : decide (k < 4) = true := by simpa using hlt
      have hsz : (putS k v).size ≤ 8 := by rw [putS_size]; omega
      generalize v / 256 ^ k = x at hle HS HD HB ⊢
      go_wp2
      go_roundw
      case rel => exact ⟨k + 1, by omega, by go_num, by rw [HD.out], by rw [HB.out, HS.out], hb.alloc hb.size _⟩
      case measure => simp [intOf]; omega
    · obtain rfl : k = 4 := by omega
      by_cases hv : v < 4294967296
      · have hz : v / 256 ^ 4 = 0 := by simp; omega
        rw [hz]
        clear hcv
        go_wp2
        go_ret2
        refine ⟨?_, hb⟩
        have hok : putOk 4 v = true := by simp [putOk, isW]; omega
        simp [putR, putE, hok, isW]
      · have hz : 0 < v / 256 ^ 4 := by simp; omega
        generalize v / 256 ^ 4 = x at hz hle ⊢
        clear hcv
        go_wp2
        go_ret2
        refine ⟨?_, hb⟩
        have hok : putOk 4 v = false := by simp [putOk, isW]; omega
        simp [putR, putE, hok, isW]

set_option maxHeartbeats 400000 in
theorem rput_8 (v : Nat) (w : World) (h1 : v < 18446744073709551616) :
    Calls Tryz.prog 67 #[.int .i64 8, .int .u64 v] w fun e w' => e = .returned (.tuple #[.string (putR 8 v), .int .i64 (putE 8 v)]) ∧ Below w.heap.size w w' := by
  have hcv : ∀ (w : World) (a : Int), (convert 111 9 (.slice (some ⟨w.heap.size, 0, none⟩) 1 1)).run Tryz.prog (w.alloc (.cells #[.int .u8 a] 5)) = .ok (.string ⟨#[UInt8.ofNat a.toNat]⟩) (w.alloc (.cells #[.int .u8 a] 5)) := fun w a => conv_own w [a] 1
  go_enter Tryz.func67, Tryz.ntmps67
  go_wp2
  go_loopw [1, 6, 7] (fun a s i wr => ∃ k : Nat, k ≤ 8 ∧ i = .int .i64 k ∧ a = .int .u64 ((v / 256 ^ k : Nat) : Int) ∧ s = .string (putS k v) ∧ Below w.heap.size w wr) (fun _ _ i _ => 8 - (intOf i).toNat)
  case atStart => exact ⟨0, by omega, rfl, by simp, rfl, Below.refl _ _⟩
  case round =>
    obtain ⟨k, hk, rfl, rfl, rfl, hb⟩ := hrel
    have hle := div_le v k
    by_cases hlt : k < 8
    · have HS := Lib.hid (putS_cons k v)
      have HD := Lib.hid (div_step v k)
      have HB := Lib.hid (div_byte v k)
      have hlt' : decide (k < 8) = true := by simpa using hlt
      have hsz : (putS k v).size ≤ 8 := by rw [putS_size]; omega
      generalize v / 256 ^ k = x at hle HS HD HB ⊢
      go_wp2
      go_roundw
      case rel => exact ⟨k + 1, by omega, by go_num, by rw [HD.out], by rw [HB.out, HS.out], hb.alloc hb.size _⟩
      case measure => simp [intOf]; omega
    · obtain rfl : k = 8 := by omega
      by_cases hv : v < 18446744073709551616
      · have hz : v / 256 ^ 8 = 0 := by simp; omega
        rw [hz]
        clear hcv
        go_wp2
        go_ret2
        refine ⟨?_, hb⟩
        have hok : putOk 8 v = true := by simp [putOk, isW]; omega
        simp [putR, putE, hok, isW]
      · have hz : 0 < v / 256 ^ 8 := by simp; omega
        generalize v / 256 ^ 8 = x at hz hle ⊢
        clear hcv
        go_wp2
        go_ret2
        refine ⟨?_, hb⟩
        have hok : putOk 8 v = false := by simp [putOk, isW]; omega
        simp [putR, putE, hok, isW]

theorem rput_any (n : Int) (v : Int) (w : World) (h0 : 0 ≤ v) (h1 : v < 18446744073709551616) :
    Calls Tryz.prog 67 #[.int .i64 n, .int .u64 v] w fun e w' => e = .returned (.tuple #[.string (putR n v), .int .i64 (putE n v)]) ∧ Below w.heap.size w w' := by
  obtain ⟨x, rfl⟩ := Int.eq_ofNat_of_zero_le h0
  cases hn : isW n
  · refine (rput_arg n x w hn).mono ?_
    rintro e w' ⟨rfl, rfl⟩
    exact ⟨by simp [putR, putE, putOk, hn], Below.refl _ _⟩
  · rcases isW_cases hn with rfl | rfl | rfl | rfl
    · exact rput_1 x w (by omega)
    · exact rput_2 x w (by omega)
    · exact rput_4 x w (by omega)
    · exact rput_8 x w (by omega)
end Go.Proofs.YtkdiccedkjbpeaaGreatDoorR
