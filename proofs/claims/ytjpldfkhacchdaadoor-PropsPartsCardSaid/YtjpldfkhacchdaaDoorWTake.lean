/-
  num.Take answers the number of the first bytes, and the rest, or why not; nothing that was there is changed. Condition: the package's table of widths holds 1, 2, 4, 8.
-/
import Derived.Test.YtjpldfkhacchdaaDoorWWidth
import Derived.Test.YtjpldfkhacchdaaDoorJBits
import Derived.Laws.BytesArg
import Derived.Laws.BitsAllLaws
import Derived.Deep.QuietTactic
import Derived.BigQuiet
import Derived.WalkSmall
namespace Go.Proofs.YtjpldfkhacchdaaDoor
open Go.RowKit

theorem take_arg (s : ByteArray) (n : Int) (w : World) (hw : Wid w) (hn : isW n = false) :
    Calls Tryd.prog 32 #[.string s, .int .i64 n] w fun e w' => e = .returned (.tuple #[.int .u64 0, .string ⟨#[]⟩, .int .i64 1]) ∧ w = w' := by
  go_enter Tryd.func32, Tryd.ntmps32
  go_wp2_with (go_at_call 54; refine (isWidth_any _ _ hw).mono ?_; rintro e w' ⟨rfl, rfl⟩)
  go_ret3
  exact ⟨rfl, rfl⟩

theorem take_more (s : ByteArray) (n : Int) (w : World) (hw : Wid w) (hn : isW n = true) (hs : (s.size : Int) < n) :
    Calls Tryd.prog 32 #[.string s, .int .i64 n] w fun e w' => e = .returned (.tuple #[.int .u64 0, .string ⟨#[]⟩, .int .i64 2]) ∧ w = w' := by
  go_enter Tryd.func32, Tryd.ntmps32
  go_wp2_with (go_at_call 54; refine (isWidth_any _ _ hw).mono ?_; rintro e w' ⟨rfl, rfl⟩)
  go_ret3
  exact ⟨rfl, rfl⟩

theorem or_byte (x b : Nat) (hb : b < 256) (hx : x < 72057594037927936) :
    bits .or .u64 ((x : Int) * 256) (IntKind.u64.wrap (b : Int)) = ((x * 256 + b : Nat) : Int) := by
  rw [IntWalk.u64_in (b : Int) (by omega)]
  have h := u64_or_nat (x * 256) b (by omega) (by omega)
  rw [nat_join 8 (x * 256) b (by omega) (by omega)] at h
  rw [← h]
  congr 1
theorem take_succ (s : ByteArray) (k : Nat) (h : k < s.size) : takeL (s.data.toList.take (k + 1)) = takeL (s.data.toList.take k) * 256 + (s[k]'h).toNat := by
  rw [List.take_succ_eq_append_getElem (by simpa using h), takeL_snoc]; rfl

set_option maxHeartbeats 400000 in
theorem take_ok (s : ByteArray) (n : Nat) (w : World) (hw : Wid w) (hn : isW n = true) (h8 : n ≤ 8) (hs : n ≤ s.size) :
    Calls Tryd.prog 32 #[.string s, .int .i64 n] w fun e w' => e = .returned (.tuple #[.int .u64 (takeL (s.data.toList.take n)), .string (s.extract n s.size), .int .i64 0]) ∧ Below w.heap.size w w' := by
  have hd : decide (s.size < n) = false := by simp; omega
  go_enter Tryd.func32, Tryd.ntmps32
  go_wp2_with (go_at_call 54; refine (isWidth_any _ _ hw).mono ?_; rintro e w' ⟨rfl, rfl⟩)
  go_loop [7, 19] (fun v i => ∃ k : Nat, k ≤ n ∧ i = .int .i64 k ∧ v = .int .u64 (takeL (s.data.toList.take k))) (fun _ i => n - (intOf i).toNat)
  case atStart => exact ⟨0, Nat.zero_le _, rfl, rfl⟩
  case round =>
    obtain ⟨k, hk, rfl, rfl⟩ := hrel
    by_cases hlt : k < n
    · have HS := Lib.hid (take_succ s k (by omega))
      have hb1 : takeL (s.data.toList.take k) < 72057594037927936 := by
        have h := takeL_lt (s.data.toList.take k)
        have hl : (s.data.toList.take k).length ≤ 7 := by have := List.length_take_le k s.data.toList; omega
        exact Nat.lt_of_lt_of_le h (by have := Nat.pow_le_pow_right (n := 256) (by omega) hl; simpa using this)
      have hb : (takeL (s.data.toList.take k) : Int) * 256 ≤ 18446744073709551615 := by omega
      go_wp2
      go_round
      case rel => exact ⟨k + 1, by omega, by go_num, by rw [HS.out, ← or_byte _ _ (by exact UInt8.toNat_lt _) hb1]⟩
      case measure => simp [intOf]; omega
    · obtain rfl : k = n := by omega
      go_wp2
      go_quiet (fail)
      go_wp2
      go_ret3
      exact ⟨rfl, below_drewN (Below.refl _ _) _⟩

/-- what Take answers: why not, the number, and the rest -/
def takeOk (s : ByteArray) (n : Int) : Bool := isW n && decide (n ≤ s.size)
def takeE (s : ByteArray) (n : Int) : Int := if isW n = true then (if takeOk s n = true then 0 else 2) else 1
def takeV (s : ByteArray) (n : Int) : Int := if takeOk s n = true then (takeL (s.data.toList.take n.toNat) : Int) else 0
def takeR (s : ByteArray) (n : Int) : ByteArray := if takeOk s n = true then s.extract n.toNat s.size else ⟨#[]⟩

theorem take_any (s : ByteArray) (n : Int) (w : World) (hw : Wid w) :
    Calls Tryd.prog 32 #[.string s, .int .i64 n] w fun e w' => e = .returned (.tuple #[.int .u64 (takeV s n), .string (takeR s n), .int .i64 (takeE s n)]) ∧ Below w.heap.size w w' := by
  cases hn : isW n
  · refine (take_arg s n w hw hn).mono ?_
    rintro e w' ⟨rfl, rfl⟩
    exact ⟨by simp [takeR, takeV, takeE, takeOk, hn], Below.refl _ _⟩
  · by_cases hv : n ≤ s.size
    · have h := isW n = true
      obtain ⟨k, rfl⟩ : ∃ k : Nat, n = k := ⟨n.toNat, by simp [isW] at hn; omega⟩
      refine (take_ok s k w hw hn (by simp [isW] at hn; omega) (by omega)).mono ?_
      rintro e w' ⟨rfl, hb⟩
      exact ⟨by simp [takeR, takeV, takeE, takeOk, hn, hv], hb⟩
    · refine (take_more s n w hw hn (by omega)).mono ?_
      rintro e w' ⟨rfl, rfl⟩
      exact ⟨by simp [takeR, takeV, takeE, takeOk, hn, hv], Below.refl _ _⟩
theorem takeE_zero (s : ByteArray) (n : Int) : (takeE s n == 0) = takeOk s n := by
  unfold takeE
  cases hn : isW n
  · simp [takeOk, hn]
  · cases hk : takeOk s n <;> simp
end Go.Proofs.YtjpldfkhacchdaaDoor
