/-
  Several texts joined in one file: each says at its own head, below, what it proves, and its conditions.
-/
import Derived.Test.YtllgkohgcicbhaaGreatDoorRows
import Derived.Handy
import Derived.WalkKit
import Derived.WalkSpells
import Derived.WalkLawsBesides
import Derived.Lib.Hide
import Derived.Test.YtllgkohgcicbhaaGreatDoorZA
import Derived.Laws.BytesArg
import Derived.Laws.BitsAllLaws
import Derived.Deep.QuietTactic
import Derived.BigQuiet
import Derived.WalkSmall
import Derived.Lib.Strings
import Derived.Deep.RegionHeld3
/-
  num.isWidth answers whether a number is 1, 2, 4 or 8; it leaves the world as it was. Condition: the package's table of widths holds 1, 2, 4, 8.
-/
namespace Go.Proofs.YtllgkohgcicbhaaGreatDoor
open Go.RowKit

/-- is it a width? -/
def isW (n : Int) : Bool := n == 1 || n == 2 || n == 4 || n == 8

/-- the table of widths is there -/
structure Wid (w : World) : Prop where
  c0 : w.cell? ⟨1, 0, none⟩ = some (.int .i64 1)
  c1 : w.cell? ⟨1, 1, none⟩ = some (.int .i64 2)
  c2 : w.cell? ⟨1, 2, none⟩ = some (.int .i64 4)
  c3 : w.cell? ⟨1, 3, none⟩ = some (.int .i64 8)

set_option maxHeartbeats 400000 in
theorem isWidth_any (n : Int) (w : World) (hw : Wid w) :
    Calls Tryz.prog 102 #[.int .i64 n] w fun e w' => e = .returned (.bool (isW n)) ∧ w = w' := by
  obtain ⟨c0, c1, c2, c3⟩ := hw
  have i0 : ∀ w, (Instr.index 192 (.agg #[.int .i64 1, .int .i64 2, .int .i64 4, .int .i64 8]) (.int .i64 0)).run Tryz.prog w = .ok (.int .i64 1) w := fun _ => by kernel_rfl
  have i1 : ∀ w, (Instr.index 192 (.agg #[.int .i64 1, .int .i64 2, .int .i64 4, .int .i64 8]) (.int .i64 1)).run Tryz.prog w = .ok (.int .i64 2) w := fun _ => by kernel_rfl
  have i2 : ∀ w, (Instr.index 192 (.agg #[.int .i64 1, .int .i64 2, .int .i64 4, .int .i64 8]) (.int .i64 2)).run Tryz.prog w = .ok (.int .i64 4) w := fun _ => by kernel_rfl
  have i3 : ∀ w, (Instr.index 192 (.agg #[.int .i64 1, .int .i64 2, .int .i64 4, .int .i64 8]) (.int .i64 3)).run Tryz.prog w = .ok (.int .i64 8) w := fun _ => by kernel_rfl
  go_enter Tryz.func102, Tryz.ntmps102
  go_wp2
  go_rounds 5
  all_goals (go_ret; refine ⟨?_, rfl⟩; simp_all [isW])

theorem Wid.below {w w' : World} (h : Wid w) (hb : Below w.heap.size w w') : Wid w' := by
  have hlt : 1 < w.heap.size := by
    rcases Nat.lt_or_ge 1 w.heap.size with k | k
    · exact k
    · have := h.c0; simp [World.cell?, Array.getElem?_eq_none k] at this
  exact ⟨(hb.cell hlt).trans h.c0, (hb.cell hlt).trans h.c1, (hb.cell hlt).trans h.c2, (hb.cell hlt).trans h.c3⟩

end Go.Proofs.YtllgkohgcicbhaaGreatDoor

/-
  num.Put answers a number's bytes, the highest first, or why not; nothing that was there is changed. Condition: the package's table of widths holds 1, 2, 4, 8.
-/
namespace Go.Proofs.YtllgkohgcicbhaaGreatDoor
open Go.RowKit

theorem put_arg (n : Int) (v : Int) (w : World) (hw : Wid w) (hn : isW n = false) :
    Calls Tryz.prog 92 #[.int .i64 n, .int .u64 v] w fun e w' => e = .returned (.tuple #[.string ⟨#[]⟩, .int .i64 1]) ∧ w = w' := by
  go_enter Tryz.func92, Tryz.ntmps92
  go_wp2_with (go_at_call 102; refine (isWidth_any _ _ hw).mono ?_; rintro e w' ⟨rfl, rfl⟩)
  go_ret2
  exact ⟨rfl, rfl⟩

/-- 'string(b)' of bytes in a block of their own -/
theorem conv_own (w : World) (xs : List Int) (cap : Nat) :
    (convert 59 9 (.slice (some ⟨w.heap.size, 0, none⟩) xs.length cap)).run Tryz.prog (w.alloc (.cells (xs.map (Value.int .u8)).toArray 5)) = .ok (.string (strOfNums xs)) (w.alloc (.cells (xs.map (Value.int .u8)).toArray 5)) := by
  refine run_convert_bytes_arg (P := Tryz.prog) _ 59 5 Tryz.underlying59 Tryz.underlying5 w.heap.size 0 xs.length cap xs rfl (fun i hi => ?_) 9 Tryz.underlying9
  rw [World.cell?_alloc_new]
  simp [hi]

theorem put_big (n : Int) (v : Int) (w : World) (hw : Wid w) (hn : isW n = true) (h0 : 0 ≤ v) (hv : 256 ^ n.toNat ≤ v) (h1 : v < 18446744073709551616) :
    Calls Tryz.prog 92 #[.int .i64 n, .int .u64 v] w fun e w' => e = .returned (.tuple #[.string ⟨#[]⟩, .int .i64 4]) ∧ w = w' := by
  have h : n = 1 ∨ n = 2 ∨ n = 4 ∨ n = 8 := by simp [isW] at hn; omega
  rcases h with rfl | rfl | rfl | rfl
  · have hv' : 256 ≤ v := hv
    clear hv
    go_enter Tryz.func92, Tryz.ntmps92
    go_wp2_with (go_at_call 102; refine (isWidth_any _ _ hw).mono ?_; rintro e w' ⟨rfl, rfl⟩)
    go_ret2
    exact ⟨rfl, rfl⟩
  · have hv' : 65536 ≤ v := hv
    clear hv
    go_enter Tryz.func92, Tryz.ntmps92
    go_wp2_with (go_at_call 102; refine (isWidth_any _ _ hw).mono ?_; rintro e w' ⟨rfl, rfl⟩)
    go_ret2
    exact ⟨rfl, rfl⟩
  · have hv' : 4294967296 ≤ v := hv
    clear hv
    go_enter Tryz.func92, Tryz.ntmps92
    go_wp2_with (go_at_call 102; refine (isWidth_any _ _ hw).mono ?_; rintro e w' ⟨rfl, rfl⟩)
    go_ret2
    exact ⟨rfl, rfl⟩
  · have hv' : 18446744073709551616 ≤ v := hv
    omega

set_option maxHeartbeats 1000000 in
theorem put_1 (v : Int) (w : World) (hw : Wid w) (h0 : 0 ≤ v) (h1 : v < 256) :
    Calls Tryz.prog 92 #[.int .i64 1, .int .u64 v] w fun e w' => e = .returned (.tuple #[.string (putS 1 v.toNat), .int .i64 0]) ∧ Below w.heap.size w w' := by
  have h8 : isW 1 = true := by decide
  have hmk : ∀ w, (Instr.makeSlice 59 (.int .i64 1) (.int .i64 1)).run Tryz.prog w = .ok (.slice (some ⟨w.heap.size, 0, none⟩) 1 1) (w.alloc (.cells #[.int .u8 0] 5)) := fun _ => by kernel_rfl
  have hcv : ∀ (w : World) (a0 : Int), (convert 59 9 (.slice (some ⟨w.heap.size, 0, none⟩) 1 1)).run Tryz.prog (w.alloc (.cells #[.int .u8 a0] 5)) = .ok (.string ⟨#[UInt8.ofNat a0.toNat]⟩) (w.alloc (.cells #[.int .u8 a0] 5)) := fun w a0 => conv_own w [a0] 1
  go_enter Tryz.func92, Tryz.ntmps92
  go_wp2_with (first | (go_at_call 102; refine (isWidth_any _ _ hw).mono ?_; rintro e w' ⟨rfl, rfl⟩))
  go_rounds 2
  go_ret2
  refine ⟨congrArg (fun s : ByteArray => Ending.returned (.tuple #[.string s, .int .i64 0])) (?_ : _ = putS 1 v.toNat), (Below.refl _ _).alloc (Nat.le_refl _) _⟩
  exact arr1 (byte_eq (by omega))

set_option maxHeartbeats 1000000 in
theorem put_2 (v : Int) (w : World) (hw : Wid w) (h0 : 0 ≤ v) (h1 : v < 65536) :
    Calls Tryz.prog 92 #[.int .i64 2, .int .u64 v] w fun e w' => e = .returned (.tuple #[.string (putS 2 v.toNat), .int .i64 0]) ∧ Below w.heap.size w w' := by
  have h8 : isW 2 = true := by decide
  have hmk : ∀ w, (Instr.makeSlice 59 (.int .i64 2) (.int .i64 2)).run Tryz.prog w = .ok (.slice (some ⟨w.heap.size, 0, none⟩) 2 2) (w.alloc (.cells #[.int .u8 0, .int .u8 0] 5)) := fun _ => by kernel_rfl
  have hcv : ∀ (w : World) (a0 a1 : Int), (convert 59 9 (.slice (some ⟨w.heap.size, 0, none⟩) 2 2)).run Tryz.prog (w.alloc (.cells #[.int .u8 a0, .int .u8 a1] 5)) = .ok (.string ⟨#[UInt8.ofNat a0.toNat, UInt8.ofNat a1.toNat]⟩) (w.alloc (.cells #[.int .u8 a0, .int .u8 a1] 5)) := fun w a0 a1 => conv_own w [a0, a1] 2
  go_enter Tryz.func92, Tryz.ntmps92
  go_wp2_with (first | (go_at_call 102; refine (isWidth_any _ _ hw).mono ?_; rintro e w' ⟨rfl, rfl⟩))
  go_rounds 3
  go_ret2
  refine ⟨congrArg (fun s : ByteArray => Ending.returned (.tuple #[.string s, .int .i64 0])) (?_ : _ = putS 2 v.toNat), (Below.refl _ _).alloc (Nat.le_refl _) _⟩
  exact arr2 (byte_eq (by omega)) (byte_eq (by omega))

set_option maxHeartbeats 1000000 in
theorem put_4 (v : Int) (w : World) (hw : Wid w) (h0 : 0 ≤ v) (h1 : v < 4294967296) :
    Calls Tryz.prog 92 #[.int .i64 4, .int .u64 v] w fun e w' => e = .returned (.tuple #[.string (putS 4 v.toNat), .int .i64 0]) ∧ Below w.heap.size w w' := by
  have h8 : isW 4 = true := by decide
  have hmk : ∀ w, (Instr.makeSlice 59 (.int .i64 4) (.int .i64 4)).run Tryz.prog w = .ok (.slice (some ⟨w.heap.size, 0, none⟩) 4 4) (w.alloc (.cells #[.int .u8 0, .int .u8 0, .int .u8 0, .int .u8 0] 5)) := fun _ => by kernel_rfl
  have hcv : ∀ (w : World) (a0 a1 a2 a3 : Int), (convert 59 9 (.slice (some ⟨w.heap.size, 0, none⟩) 4 4)).run Tryz.prog (w.alloc (.cells #[.int .u8 a0, .int .u8 a1, .int .u8 a2, .int .u8 a3] 5)) = .ok (.string ⟨#[UInt8.ofNat a0.toNat, UInt8.ofNat a1.toNat, UInt8.ofNat a2.toNat, UInt8.ofNat a3.toNat]⟩) (w.alloc (.cells #[.int .u8 a0, .int .u8 a1, .int .u8 a2, .int .u8 a3] 5)) := fun w a0 a1 a2 a3 => conv_own w [a0, a1, a2, a3] 4
  go_enter Tryz.func92, Tryz.ntmps92
  go_wp2_with (first | (go_at_call 102; refine (isWidth_any _ _ hw).mono ?_; rintro e w' ⟨rfl, rfl⟩))
  go_rounds 5
  go_ret2
  refine ⟨congrArg (fun s : ByteArray => Ending.returned (.tuple #[.string s, .int .i64 0])) (?_ : _ = putS 4 v.toNat), (Below.refl _ _).alloc (Nat.le_refl _) _⟩
  exact arr4 (byte_eq (by omega)) (byte_eq (by omega)) (byte_eq (by omega)) (byte_eq (by omega))

set_option maxHeartbeats 1000000 in
theorem put_8 (v : Int) (w : World) (hw : Wid w) (h0 : 0 ≤ v) (h1 : v < 18446744073709551616) :
    Calls Tryz.prog 92 #[.int .i64 8, .int .u64 v] w fun e w' => e = .returned (.tuple #[.string (putS 8 v.toNat), .int .i64 0]) ∧ Below w.heap.size w w' := by
  have h8 : isW 8 = true := by decide
  have hmk : ∀ w, (Instr.makeSlice 59 (.int .i64 8) (.int .i64 8)).run Tryz.prog w = .ok (.slice (some ⟨w.heap.size, 0, none⟩) 8 8) (w.alloc (.cells #[.int .u8 0, .int .u8 0, .int .u8 0, .int .u8 0, .int .u8 0, .int .u8 0, .int .u8 0, .int .u8 0] 5)) := fun _ => by kernel_rfl
  have hcv : ∀ (w : World) (a0 a1 a2 a3 a4 a5 a6 a7 : Int), (convert 59 9 (.slice (some ⟨w.heap.size, 0, none⟩) 8 8)).run Tryz.prog (w.alloc (.cells #[.int .u8 a0, .int .u8 a1, .int .u8 a2, .int .u8 a3, .int .u8 a4, .int .u8 a5, .int .u8 a6, .int .u8 a7] 5)) = .ok (.string ⟨#[UInt8.ofNat a0.toNat, UInt8.ofNat a1.toNat, UInt8.ofNat a2.toNat, UInt8.ofNat a3.toNat, UInt8.ofNat a4.toNat, UInt8.ofNat a5.toNat, UInt8.ofNat a6.toNat, UInt8.ofNat a7.toNat]⟩) (w.alloc (.cells #[.int .u8 a0, .int .u8 a1, .int .u8 a2, .int .u8 a3, .int .u8 a4, .int .u8 a5, .int .u8 a6, .int .u8 a7] 5)) := fun w a0 a1 a2 a3 a4 a5 a6 a7 => conv_own w [a0, a1, a2, a3, a4, a5, a6, a7] 8
  go_enter Tryz.func92, Tryz.ntmps92
  go_wp2_with (first | (go_at_call 102; refine (isWidth_any _ _ hw).mono ?_; rintro e w' ⟨rfl, rfl⟩))
  go_rounds 9
  go_ret2
  refine ⟨congrArg (fun s : ByteArray => Ending.returned (.tuple #[.string s, .int .i64 0])) (?_ : _ = putS 8 v.toNat), (Below.refl _ _).alloc (Nat.le_refl _) _⟩
  exact arr8 (byte_eq (by omega)) (byte_eq (by omega)) (byte_eq (by omega)) (byte_eq (by omega)) (byte_eq (by omega)) (byte_eq (by omega)) (byte_eq (by omega)) (byte_eq (by omega))

theorem put_ok (n : Int) (v : Int) (w : World) (hw : Wid w) (hn : isW n = true) (h0 : 0 ≤ v) (hv : v < 256 ^ n.toNat) :
    Calls Tryz.prog 92 #[.int .i64 n, .int .u64 v] w fun e w' => e = .returned (.tuple #[.string (putS n.toNat v.toNat), .int .i64 0]) ∧ Below w.heap.size w w' := by
  have h : n = 1 ∨ n = 2 ∨ n = 4 ∨ n = 8 := by simp [isW] at hn; omega
  rcases h with rfl | rfl | rfl | rfl
  · exact put_1 v w hw h0 hv
  · exact put_2 v w hw h0 hv
  · exact put_4 v w hw h0 hv
  · exact put_8 v w hw h0 hv

/-- what Put answers: why not, and the bytes -/
def putOk (n v : Int) : Bool := isW n && decide (v < 256 ^ n.toNat)
def putE (n v : Int) : Int := if isW n = true then (if putOk n v = true then 0 else 4) else 1
def putR (n v : Int) : ByteArray := if putOk n v = true then putS n.toNat v.toNat else ⟨#[]⟩

theorem put_any (n : Int) (v : Int) (w : World) (hw : Wid w) (h0 : 0 ≤ v) (h1 : v < 18446744073709551616) :
    Calls Tryz.prog 92 #[.int .i64 n, .int .u64 v] w fun e w' => e = .returned (.tuple #[.string (putR n v), .int .i64 (putE n v)]) ∧ Below w.heap.size w w' := by
  cases hn : isW n
  · refine (put_arg n v w hw hn).mono ?_
    rintro e w' ⟨rfl, rfl⟩
    exact ⟨by simp [putR, putE, putOk, hn], Below.refl _ _⟩
  · by_cases hv : v < 256 ^ n.toNat
    · refine (put_ok n v w hw hn h0 hv).mono ?_
      rintro e w' ⟨rfl, hb⟩
      exact ⟨by simp [putR, putE, putOk, hn, hv], hb⟩
    · refine (put_big n v w hw hn h0 (by omega) h1).mono ?_
      rintro e w' ⟨rfl, rfl⟩
      exact ⟨by simp [putR, putE, putOk, hn, hv], Below.refl _ _⟩
theorem putE_zero (n v : Int) : (putE n v == 0) = putOk n v := by
  unfold putE
  cases hn : isW n
  · simp [putOk, hn]
  · cases hk : putOk n v <;> simp
theorem putOk_w {n v : Int} (h : putOk n v = true) : isW n = true := by simp [putOk] at h; exact h.1
theorem putOk_lt {n v : Int} (h : putOk n v = true) : v < 256 ^ n.toNat := by simp [putOk] at h; exact h.2
theorem isW_cases {n : Int} (h : isW n = true) : n = 1 ∨ n = 2 ∨ n = 4 ∨ n = 8 := by simp [isW] at h; omega
end Go.Proofs.YtllgkohgcicbhaaGreatDoor

/-
  num.Take answers the number of the first bytes, and the rest, or why not; nothing that was there is changed. Condition: the package's table of widths holds 1, 2, 4, 8.
-/
namespace Go.Proofs.YtllgkohgcicbhaaGreatDoor
open Go.RowKit

theorem take_arg (s : ByteArray) (n : Int) (w : World) (hw : Wid w) (hn : isW n = false) :
    Calls Tryz.prog 83 #[.string s, .int .i64 n] w fun e w' => e = .returned (.tuple #[.int .u64 0, .string ⟨#[]⟩, .int .i64 1]) ∧ w = w' := by
  go_enter Tryz.func83, Tryz.ntmps83
  go_wp2_with (go_at_call 102; refine (isWidth_any _ _ hw).mono ?_; rintro e w' ⟨rfl, rfl⟩)
  go_ret3
  exact ⟨rfl, rfl⟩

theorem take_more (s : ByteArray) (n : Int) (w : World) (hw : Wid w) (hn : isW n = true) (hs : (s.size : Int) < n) :
    Calls Tryz.prog 83 #[.string s, .int .i64 n] w fun e w' => e = .returned (.tuple #[.int .u64 0, .string ⟨#[]⟩, .int .i64 2]) ∧ w = w' := by
  go_enter Tryz.func83, Tryz.ntmps83
  go_wp2_with (go_at_call 102; refine (isWidth_any _ _ hw).mono ?_; rintro e w' ⟨rfl, rfl⟩)
  go_ret3
  exact ⟨rfl, rfl⟩

theorem or_byte (x b : Nat) (hb : b < 256) (hx : x < 72057594037927936) :
    bits .or .u64 ((x : Int) * 256) (IntKind.u64.wrap (b : Int)) = ((x * 256 + b : Nat) : Int) := by
  rw [IntWalk.u64_in (b : Int) (by omega)]
  have h := u64_or_nat (x * 256) b (by omega) (by omega)
  rw [nat_join 8 (x * 256) b (by omega) (by omega)] at h
  rw [← h]
  congr 1
theorem take_succ (s : ByteArray) (k : Nat) (h : k < s.size) : takeL (s.data.toList.take (k + 1)) = takeL (s.data.toList.take k) * 256 + (s[k]'h).toNat := by
  rw [List.take_succ_eq_append_getElem (by simpa using h), takeL_snoc]; rfl

set_option maxHeartbeats 400000 in
theorem take_ok (s : ByteArray) (n : Nat) (w : World) (hw : Wid w) (hn : isW n = true) (h8 : n ≤ 8) (hs : n ≤ s.size) :
    Calls Tryz.prog 83 #[.string s, .int .i64 n] w fun e w' => e = .returned (.tuple #[.int .u64 (takeL (s.data.toList.take n)), .string (s.extract n s.size), .int .i64 0]) ∧ Below w.heap.size w w' := by
  have hd : decide (s.size < n) = false := by simp; omega
  go_enter Tryz.func83, Tryz.ntmps83
  go_wp2_with (go_at_call 102; refine (isWidth_any _ _ hw).mono ?_; rintro e w' ⟨rfl, rfl⟩)
  go_loop [7, 19] (fun v i => ∃ k : Nat, k ≤ n ∧ i = .int .i64 k ∧ v = .int .u64 (takeL (s.data.toList.take k))) (fun _ i => n - (intOf i).toNat)
  case atStart => exact ⟨0, Nat.zero_le _, rfl, rfl⟩
  case round =>
    obtain ⟨k, hk, rfl, rfl⟩ := hrel
    by_cases hlt : k < n
    · have HS := Lib.hid (take_succ s k (by omega))
      have hb1 : takeL (s.data.toList.take k) < 72057594037927936 := by
        have h := takeL_lt (s.data.toList.take k)
        have hl : (s.data.toList.take k).length ≤ 7 := by have := List.length_take_le k s.data.toList; omega
        exact Nat.lt_of_lt_of_le h (by have := Nat.pow_le_pow_right (n := 256) (by omega) hl; simpa using this)
      have hb : (takeL (s.data.toList.take k) : Int) * 256 ≤ 18446744073709551615 := by omega
      go_wp2
      go_round
      case rel => exact ⟨k + 1, by omega, by go_num, by rw [HS.out, ← or_byte _ _ (by exact UInt8.toNat_lt _) hb1]⟩
      case measure => simp [intOf]; omega
    · obtain rfl : k = n := by omega
      go_wp2
      go_quiet (fail)
      go_wp2
      go_ret3
      exact ⟨rfl, below_drewN (Below.refl _ _) _⟩

/-- what Take answers: why not, the number, and the rest -/
def takeOk (s : ByteArray) (n : Int) : Bool := isW n && decide (n ≤ s.size)
def takeE (s : ByteArray) (n : Int) : Int := if isW n = true then (if takeOk s n = true then 0 else 2) else 1
def takeV (s : ByteArray) (n : Int) : Int := if takeOk s n = true then (takeL (s.data.toList.take n.toNat) : Int) else 0
def takeR (s : ByteArray) (n : Int) : ByteArray := if takeOk s n = true then s.extract n.toNat s.size else ⟨#[]⟩

theorem take_any (s : ByteArray) (n : Int) (w : World) (hw : Wid w) :
    Calls Tryz.prog 83 #[.string s, .int .i64 n] w fun e w' => e = .returned (.tuple #[.int .u64 (takeV s n), .string (takeR s n), .int .i64 (takeE s n)]) ∧ Below w.heap.size w w' := by
  cases hn : isW n
  · refine (take_arg s n w hw hn).mono ?_
    rintro e w' ⟨rfl, rfl⟩
    exact ⟨by simp [takeR, takeV, takeE, takeOk, hn], Below.refl _ _⟩
  · by_cases hv : n ≤ s.size
    · have h := isW n = true
      obtain ⟨k, rfl⟩ : ∃ k : Nat, n = k := ⟨n.toNat, by simp [isW] at hn; omega⟩
      refine (take_ok s k w hw hn (by simp [isW] at hn; omega) (by omega)).mono ?_
      rintro e w' ⟨rfl, hb⟩
      exact ⟨by simp [takeR, takeV, takeE, takeOk, hn, hv], hb⟩
    · refine (take_more s n w hw hn (by omega)).mono ?_
      rintro e w' ⟨rfl, rfl⟩
      exact ⟨by simp [takeR, takeV, takeE, takeOk, hn, hv], Below.refl _ _⟩
theorem takeE_zero (s : ByteArray) (n : Int) : (takeE s n == 0) = takeOk s n := by
  unfold takeE
  cases hn : isW n
  · simp [takeOk, hn]
  · cases hk : takeOk s n <;> simp
end Go.Proofs.YtllgkohgcicbhaaGreatDoor

/-
  num.Skip answers so many bytes and the rest, or that bytes are missing; nothing that was there is changed. No condition but that a text's length is an int.
-/
namespace Go.Proofs.YtllgkohgcicbhaaGreatDoor
open Go.RowKit

/-- what Skip answers -/
def skipOk (s : ByteArray) (n : Int) : Bool := decide (n ≤ s.size)
def skipE (s : ByteArray) (n : Int) : Int := if skipOk s n = true then 0 else 2
def skipA (s : ByteArray) (n : Int) : ByteArray := if skipOk s n = true then s.extract 0 n.toNat else ⟨#[]⟩
def skipB (s : ByteArray) (n : Int) : ByteArray := if skipOk s n = true then s.extract n.toNat s.size else ⟨#[]⟩

theorem skip_any (s : ByteArray) (n : Int) (w : World) (h0 : 0 ≤ n) (hs : s.size ≤ maxLen) :
    Calls Tryz.prog 163 #[.string s, .int .u64 n] w fun e w' => e = .returned (.tuple #[.string (skipA s n), .string (skipB s n), .int .i64 (skipE s n)]) ∧ Below w.heap.size w w' := by
  unfold maxLen at hs
  obtain ⟨k, rfl⟩ := Int.eq_ofNat_of_zero_le h0
  by_cases hk : k ≤ s.size
  · have Hok := Lib.hid (show skipOk s k = true by simp [skipOk]; omega)
    go_enter Tryz.func163, Tryz.ntmps163
    go_wp2
    go_quiet (fail)
    go_wp2
    go_ret3
    refine ⟨?_, below_drewN (Below.refl _ _) _⟩
    simp [skipA, skipB, skipE, Hok.out]
  · have Hok := Lib.hid (show skipOk s k = false by simp [skipOk]; omega)
    go_enter Tryz.func163, Tryz.ntmps163
    go_wp2
    go_ret3
    exact ⟨by simp [skipA, skipB, skipE, Hok.out], Below.refl _ _⟩

end Go.Proofs.YtllgkohgcicbhaaGreatDoor

/-
  What was put is taken, and what is taken is put as it was: plain facts on what num.Put and num.Take answer. No condition.
-/
namespace Go.Proofs.YtllgkohgcicbhaaGreatDoor

theorem ba_ext {a b : ByteArray} (h : a.data.toList = b.data.toList) : a = b := ByteArray.ext (Array.toList_inj.1 h)
theorem ba_append (a b : ByteArray) : (a ++ b).data.toList = a.data.toList ++ b.data.toList := by rw [ByteArray.data_append, Array.toList_append]
theorem ba_len (a : ByteArray) : a.data.toList.length = a.size := by simp

theorem putOk_nat {n v : Int} (h : putOk n v = true) (h0 : 0 ≤ v) : v.toNat < 256 ^ n.toNat := by
  have := putOk_lt h
  have e : ((256 ^ n.toNat : Nat) : Int) = 256 ^ n.toNat := by rw [Int.natCast_pow]; rfl
  omega
theorem isW_nat {n : Int} (h : isW n = true) : ((n.toNat : Nat) : Int) = n ∧ n.toNat ≤ 8 := by
  have := isW_cases h; omega
theorem putR_of {n v : Int} (h : putOk n v = true) : putR n v = putS n.toNat v.toNat := by simp [putR, h]
theorem putE_of {n v : Int} (h : putOk n v = true) : putE n v = 0 := by simp [putE, h, putOk_w h]
theorem putE_not {n v : Int} (h : putOk n v = false) : (putE n v != 0) = true ∧ (putE n v == 0) = false := by
  have := putE_zero n v
  rw [h] at this
  exact ⟨by simp [bne, this], this⟩
theorem putR_size {n v : Int} (h : putOk n v = true) : ((putR n v).size : Int) = n := by
  rw [putR_of h, putS_size]; exact (isW_nat (putOk_w h)).1

theorem take_put_ok {n v : Int} (h : putOk n v = true) (more : ByteArray) : takeOk (putR n v ++ more) n = true := by
  have h1 := putR_size h
  have h2 : (putR n v ++ more).size = (putR n v).size + more.size := ByteArray.size_append
  simp [takeOk, putOk_w h]
  omega
theorem take_put_v {n v : Int} (h : putOk n v = true) (h0 : 0 ≤ v) (more : ByteArray) : takeV (putR n v ++ more) n = v := by
  rw [takeV, if_pos (take_put_ok h more), ba_append, putR_of h, putS_list, List.take_append_of_le_length (by rw [putL_length]; exact Nat.le_refl _), List.take_of_length_le (by rw [putL_length]; exact Nat.le_refl _), take_put _ _ (putOk_nat h h0)]
  omega
theorem take_put_r {n v : Int} (h : putOk n v = true) (more : ByteArray) : takeR (putR n v ++ more) n = more := by
  rw [takeR, if_pos (take_put_ok h more)]
  apply ba_ext
  rw [Lib.extract_data, ba_append, putR_of h, putS_list]
  have hl : (putL n.toNat v.toNat).length = n.toNat := putL_length _ _
  rw [List.drop_append_of_le_length (by omega), List.drop_of_length_le (by omega), List.nil_append]
  apply List.take_of_length_le
  have h2 : (putS n.toNat v.toNat ++ more).size = (putS n.toNat v.toNat).size + more.size := ByteArray.size_append
  rw [ba_len, h2, putS_size]
  omega
theorem take_put_e {n v : Int} (h : putOk n v = true) (more : ByteArray) : takeE (putR n v ++ more) n = 0 := by
  simp [takeE, take_put_ok h more, putOk_w h]

theorem takeOk_w {s : ByteArray} {n : Int} (h : takeOk s n = true) : isW n = true ∧ n ≤ s.size := by simpa [takeOk] using h
theorem takeE_of {s : ByteArray} {n : Int} (h : takeOk s n = true) : takeE s n = 0 := by simp [takeE, h, (takeOk_w h).1]
theorem takeE_not {s : ByteArray} {n : Int} (h : takeOk s n = false) : (takeE s n != 0) = true ∧ (takeE s n == 0) = false := by
  have := takeE_zero s n
  rw [h] at this
  exact ⟨by simp [bne, this], this⟩
theorem takeV_nonneg (s : ByteArray) (n : Int) : 0 ≤ takeV s n := by
  unfold takeV; split <;> omega
theorem takeV_pow {s : ByteArray} {n : Int} (h : takeOk s n = true) : (takeV s n).toNat < 256 ^ n.toNat := by
  obtain ⟨h1, h2⟩ := takeOk_w h
  have h3 := takeL_lt (s.data.toList.take n.toNat)
  have h4 : (s.data.toList.take n.toNat).length = n.toNat := by rw [List.length_take, ba_len]; omega
  rw [h4] at h3
  rw [takeV, if_pos h]
  omega
theorem takeV_lt (s : ByteArray) (n : Int) : takeV s n < 18446744073709551616 := by
  cases h : takeOk s n
  · simp [takeV, h]
  · have h1 := takeV_pow h
    have h2 := (isW_nat (takeOk_w h).1).2
    have h3 : 256 ^ n.toNat ≤ 256 ^ 8 := Nat.pow_le_pow_right (by omega) h2
    have h4 : (256 : Nat) ^ 8 = 18446744073709551616 := by decide
    omega
theorem put_take_ok {s : ByteArray} {n : Int} (h : takeOk s n = true) : putOk n (takeV s n) = true := by
  have h1 := takeV_pow h
  have e : ((256 ^ n.toNat : Nat) : Int) = 256 ^ n.toNat := by rw [Int.natCast_pow]; rfl
  have h0 := takeV_nonneg s n
  simp [putOk, (takeOk_w h).1]
  omega
theorem put_take_s {s : ByteArray} {n : Int} (h : takeOk s n = true) : putR n (takeV s n) ++ takeR s n = s := by
  obtain ⟨h1, h2⟩ := takeOk_w h
  rw [putR_of (put_take_ok h), takeV, if_pos h, takeR, if_pos h]
  apply ba_ext
  rw [ba_append, putS_list, Lib.extract_data, Int.toNat_natCast]
  have h4 : (s.data.toList.take n.toNat).length = n.toNat := by rw [List.length_take, ba_len]; omega
  have h5 := put_take (s.data.toList.take n.toNat)
  rw [h4] at h5
  rw [h5, List.take_of_length_le (l := s.data.toList.drop n.toNat) (by rw [List.length_drop, ba_len]; omega)]
  exact List.take_append_drop _ _
end Go.Proofs.YtllgkohgcicbhaaGreatDoor

/-
  What texts' bytes are, and the texts of bytes, as plain functions; what was laid is taken, and what is taken is laid as it was. No condition.
-/
namespace Go.Proofs.YtllgkohgcicbhaaGreatDoor

/-- a text's bytes, its length in k bytes: may it be, the error, the bytes -/
def layOk (k : Int) (s : ByteArray) : Bool := putOk k s.size
def layE (k : Int) (s : ByteArray) : Int := putE k s.size
def layR (k : Int) (s : ByteArray) : ByteArray := if layOk k s = true then putR k s.size ++ s else ⟨#[]⟩
/-- the text that bytes begin with: is there one, the error, the text, the rest -/
def ttOk (k : Int) (s : ByteArray) : Bool := takeOk s k && skipOk (takeR s k) (takeV s k)
def ttE (k : Int) (s : ByteArray) : Int := if takeOk s k = true then skipE (takeR s k) (takeV s k) else takeE s k
def ttA (k : Int) (s : ByteArray) : ByteArray := if takeOk s k = true then skipA (takeR s k) (takeV s k) else ⟨#[]⟩
def ttR (k : Int) (s : ByteArray) : ByteArray := if takeOk s k = true then skipB (takeR s k) (takeV s k) else ⟨#[]⟩

theorem layOk_one (s : ByteArray) : layOk 1 s = decide (s.size ≤ 255) := by
  simp [layOk, putOk, isW]; omega
theorem layOk_four (s : ByteArray) : layOk 4 s = decide (s.size < 4294967296) := by
  simp [layOk, putOk, isW]; omega
theorem layE_zero (k : Int) (s : ByteArray) : (layE k s == 0) = layOk k s := putE_zero _ _
theorem layE_of {k : Int} {s : ByteArray} (h : layOk k s = true) : layE k s = 0 := putE_of h
theorem layE_not {k : Int} {s : ByteArray} (h : layOk k s = false) : (layE k s != 0) = true ∧ (layE k s == 0) = false := putE_not h
theorem layR_of {k : Int} {s : ByteArray} (h : layOk k s = true) : layR k s = putR k s.size ++ s := by rw [layR, if_pos h]
theorem layR_size {k : Int} {s : ByteArray} (h : layOk k s = true) : ((layR k s).size : Int) = s.size + k := by
  rw [layR_of h, ByteArray.size_append]
  have := putR_size h
  omega
theorem layR_le (k : Int) (s : ByteArray) : (layR k s).size ≤ s.size + 8 := by
  cases h : layOk k s
  · rw [layR, h]; exact Nat.zero_le _
  · have h1 := layR_size h
    have h2 := isW_nat (putOk_w h)
    omega

theorem skip_front (a more : ByteArray) : skipOk (a ++ more) a.size = true ∧ skipA (a ++ more) a.size = a ∧ skipB (a ++ more) a.size = more := by
  have h : skipOk (a ++ more) a.size = true := by simp [skipOk, ByteArray.size_append]; omega
  refine ⟨h, ?_, ?_⟩
  · rw [skipA, if_pos h]
    apply ba_ext
    rw [Lib.extract_data, ba_append]
    simp
  · rw [skipB, if_pos h]
    apply ba_ext
    rw [Lib.extract_data, ba_append]
    simp
    exact List.take_of_length_le (by rw [ba_len]; exact Nat.le_refl _)
/-- what was laid is taken -/
theorem tt_lay {k : Int} {s : ByteArray} (h : layOk k s = true) (more : ByteArray) : ttE k (layR k s ++ more) = 0 ∧ ttA k (layR k s ++ more) = s ∧ ttR k (layR k s ++ more) = more := by
  have e : layR k s ++ more = putR k s.size ++ (s ++ more) := by rw [layR_of h, ByteArray.append_assoc]
  have h1 := take_put_ok h (s ++ more)
  have h2 := take_put_v h (by omega) (s ++ more)
  have h3 := take_put_r h (s ++ more)
  obtain ⟨g1, g2, g3⟩ := skip_front s more
  rw [e]
  refine ⟨?_, ?_, ?_⟩
  · rw [ttE, if_pos h1, h2, h3, skipE, if_pos g1]
  · rw [ttA, if_pos h1, h2, h3, g2]
  · rw [ttR, if_pos h1, h2, h3, g3]

theorem ttE_zero (k : Int) (s : ByteArray) : (ttE k s == 0) = ttOk k s := by
  cases h : takeOk s k
  · have := (takeE_not h).2
    simp [ttE, ttOk, h] at this ⊢
    exact this
  · cases g : skipOk (takeR s k) (takeV s k) <;> simp [ttE, ttOk, h, g, skipE]
theorem ttE_of {k : Int} {s : ByteArray} (h : ttOk k s = true) : ttE k s = 0 := by have := ttE_zero k s; rw [h] at this; simpa using this
theorem ttE_not {k : Int} {s : ByteArray} (h : ttOk k s = false) : (ttE k s != 0) = true ∧ (ttE k s == 0) = false := by
  have := ttE_zero k s
  rw [h] at this
  exact ⟨by simp [bne, this], this⟩
theorem ttOk_parts {k : Int} {s : ByteArray} (h : ttOk k s = true) : takeOk s k = true ∧ takeV s k ≤ (takeR s k).size := by
  simp [ttOk, skipOk] at h
  exact h
theorem takeR_size {s : ByteArray} {n : Int} (h : takeOk s n = true) : ((takeR s n).size : Int) + n = s.size := by
  obtain ⟨h1, h2⟩ := takeOk_w h
  have h3 := (isW_nat h1).1
  rw [takeR, if_pos h, ByteArray.size_extract]
  omega
theorem ttA_size {k : Int} {s : ByteArray} (h : ttOk k s = true) : ((ttA k s).size : Int) = takeV s k := by
  obtain ⟨h1, h2⟩ := ttOk_parts h
  have h0 := takeV_nonneg s k
  rw [ttA, if_pos h1, skipA, if_pos (by simp [skipOk]; exact h2), ByteArray.size_extract]
  omega
theorem ttA_ttR {k : Int} {s : ByteArray} (h : ttOk k s = true) : ttA k s ++ ttR k s = takeR s k := by
  obtain ⟨h1, h2⟩ := ttOk_parts h
  have h0 := takeV_nonneg s k
  have h3 : skipOk (takeR s k) (takeV s k) = true := by simp [skipOk]; exact h2
  rw [ttA, ttR, if_pos h1, if_pos h1, skipA, skipB, if_pos h3, if_pos h3]
  apply ba_ext
  rw [ba_append, Lib.extract_data, Lib.extract_data]
  simp only [List.drop_zero, Nat.sub_zero]
  rw [List.take_of_length_le (l := List.drop _ _) (by rw [List.length_drop, ba_len]; omega)]
  exact List.take_append_drop _ _
/-- what is taken is laid as it was -/
theorem lay_tt {k : Int} {s : ByteArray} (h : ttOk k s = true) : layOk k (ttA k s) = true ∧ layR k (ttA k s) ++ ttR k s = s := by
  obtain ⟨h1, h2⟩ := ttOk_parts h
  have e := ttA_size h
  have h3 : layOk k (ttA k s) = true := by rw [layOk, e]; exact put_take_ok h1
  refine ⟨h3, ?_⟩
  rw [layR_of h3, e, ByteArray.append_assoc, ttA_ttR h]
  exact put_take_s h1
theorem tt_sizes {k : Int} {s : ByteArray} (h : ttOk k s = true) : ((ttA k s).size : Int) + (ttR k s).size + k = s.size := by
  have h1 := congrArg ByteArray.size (ttA_ttR h)
  rw [ByteArray.size_append] at h1
  have h2 := takeR_size (ttOk_parts h).1
  omega
theorem takeR_le (s : ByteArray) (k : Int) : (takeR s k).size ≤ s.size := by
  unfold takeR
  split
  · rw [ByteArray.size_extract]; omega
  · exact Nat.zero_le _
theorem ttA_le (k : Int) (s : ByteArray) : (ttA k s).size ≤ s.size := by
  unfold ttA skipA
  have := takeR_le s k
  split
  · split
    · rw [ByteArray.size_extract]; omega
    · exact Nat.zero_le _
  · exact Nat.zero_le _
theorem ttR_le (k : Int) (s : ByteArray) : (ttR k s).size ≤ s.size := by
  unfold ttR skipB
  have := takeR_le s k
  split
  · split
    · rw [ByteArray.size_extract]; omega
    · exact Nat.zero_le _
  · exact Nat.zero_le _
end Go.Proofs.YtllgkohgcicbhaaGreatDoor

/-
  A text and nothing is the text. No condition.
-/
namespace Go.Proofs.YtllgkohgcicbhaaGreatDoor
theorem ba_empty_append (a : ByteArray) : (⟨#[]⟩ : ByteArray) ++ a = a := by apply ba_ext; rw [ba_append]; rfl
theorem ba_append_empty (a : ByteArray) : a ++ (⟨#[]⟩ : ByteArray) = a := by apply ba_ext; rw [ba_append]; simp
theorem ba_assoc (a b c : ByteArray) : a ++ b ++ c = a ++ (b ++ c) := by apply ba_ext; simp only [ba_append, List.append_assoc]
end Go.Proofs.YtllgkohgcicbhaaGreatDoor

/-
  What a table's bytes are, as plain functions: the value that bytes begin with, the items (values, or fields) that stand one behind the other; what is taken hangs on its own bytes alone. No condition.
-/
namespace Go.Proofs.YtllgkohgcicbhaaGreatDoor

/-- what stands behind a kind's byte: so many bytes; -1: a long text; -2: a row; -3: a table; -4: it is no kind -/
def kindV (c : Int) : Int :=
  if c = 116 ∨ c = 98 ∨ c = 66 then 1 else if c = 115 ∨ c = 117 then 2 else if c = 73 ∨ c = 105 ∨ c = 102 then 4
  else if c = 108 ∨ c = 100 ∨ c = 84 then 8 else if c = 68 then 5 else if c = 83 ∨ c = 120 then -1 else if c = 86 then 0
  else if c = 65 then -2 else if c = 70 then -3 else -4
def wErr (e : Int) : Int := if e = 2 then 3 else e
structure Res where
  deep : Int
  rest : ByteArray
  err : Int
structure Item where
  key : ByteArray
  value : ByteArray
  deep : Int
def deepest : List Item → Int
  | [] => 0
  | i :: l => max i.deep (deepest l)
def front (s r : ByteArray) : ByteArray := s.extract 0 (s.size - r.size)
def flat (t : ByteArray) (n : Int) : Res := if n = -1 then ⟨0, ttR 4 t, ttE 4 t⟩ else ⟨0, skipB t n, skipE t n⟩
def nestOf (t : ByteArray) (room : Int) (r : List Item × Int) : Res :=
  if ttOk 4 t = true then
    if room < 1 then ⟨0, ⟨#[]⟩, 5⟩
    else if r.2 = 0 then ⟨deepest r.1 + 1, ttR 4 t, 0⟩ else ⟨0, ⟨#[]⟩, wErr r.2⟩
  else ⟨0, ⟨#[]⟩, ttE 4 t⟩
def behindKey (kf : Bool) (b : ByteArray) : ByteArray := if kf = true then ttR 1 b else b
def itemKey (kf : Bool) (b : ByteArray) : ByteArray := if kf = true then ttA 1 b else ⟨#[]⟩
theorem behindKey_le (kf : Bool) (b : ByteArray) : (behindKey kf b).size ≤ b.size := by
  unfold behindKey
  split
  · exact ttR_le 1 b
  · exact Nat.le_refl _

/-- both in one: none: the value that bytes begin with, with so much room; some: the items that stand one behind the other, up to the first that may not be -/
def tabW (md : Option Bool) (s : ByteArray) (room : Int) : Res × (List Item × Int) :=
  match md with
  | none =>
    if _h : takeOk s 1 = true then
      if kindV (takeV s 1) = -4 then (⟨0, ⟨#[]⟩, 3⟩, ([], 0))
      else if kindV (takeV s 1) < -1 then (nestOf (takeR s 1) room (tabW (some (kindV (takeV s 1) == -3)) (ttA 4 (takeR s 1)) (room - 1)).2, ([], 0))
      else (flat (takeR s 1) (kindV (takeV s 1)), ([], 0))
    else (⟨0, ⟨#[]⟩, 2⟩, ([], 0))
  | some kf =>
    if s.size = 0 then (⟨0, ⟨#[]⟩, 0⟩, ([], 0))
    else if (kf && !ttOk 1 s) = true then (⟨0, ⟨#[]⟩, 0⟩, ([], ttE 1 s))
    else if (tabW none (behindKey kf s) room).1.err = 0 then
      if _h : (tabW none (behindKey kf s) room).1.rest.size < s.size then
        (⟨0, ⟨#[]⟩, 0⟩, (⟨itemKey kf s, front (behindKey kf s) (tabW none (behindKey kf s) room).1.rest, (tabW none (behindKey kf s) room).1.deep⟩ :: (tabW (some kf) (tabW none (behindKey kf s) room).1.rest room).2.1, (tabW (some kf) (tabW none (behindKey kf s) room).1.rest room).2.2))
      else (⟨0, ⟨#[]⟩, 0⟩, ([], 0))
    else (⟨0, ⟨#[]⟩, 0⟩, ([], (tabW none (behindKey kf s) room).1.err))
  termination_by 2 * s.size + (if md.isSome then 1 else 0)
  decreasing_by
    all_goals simp
    all_goals first
      | (have h1 := takeR_size _h; have h2 := ttA_le 4 (takeR s 1); omega)
      | (have h2 := behindKey_le kf s; omega)
      | omega
/-- the value that bytes begin with, with so much room: how deep it is, the rest, the error -/
def val (s : ByteArray) (room : Int) : Res := (tabW none s room).1
/-- the items that stand one behind the other, up to the first that may not be; its error -/
def items (kf : Bool) (b : ByteArray) (room : Int) : List Item × Int := (tabW (some kf) b room).2
theorem val_eq (s : ByteArray) (room : Int) : val s room =
    if takeOk s 1 = true then
      if kindV (takeV s 1) = -4 then ⟨0, ⟨#[]⟩, 3⟩
      else if kindV (takeV s 1) < -1 then nestOf (takeR s 1) room (items (kindV (takeV s 1) == -3) (ttA 4 (takeR s 1)) (room - 1))
      else flat (takeR s 1) (kindV (takeV s 1))
    else ⟨0, ⟨#[]⟩, 2⟩ := by
  unfold val items
  rw [tabW]
  by_cases h1 : takeOk s 1 = true
  · rw [dif_pos h1, if_pos h1]
    by_cases h2 : kindV (takeV s 1) = -4
    · rw [if_pos h2, if_pos h2]
    · rw [if_neg h2, if_neg h2]
      by_cases h3 : kindV (takeV s 1) < -1
      · rw [if_pos h3, if_pos h3]
      · rw [if_neg h3, if_neg h3]
  · rw [dif_neg h1, if_neg h1]
theorem items_eq (kf : Bool) (b : ByteArray) (room : Int) : items kf b room =
    if b.size = 0 then ([], 0)
    else if (kf && !ttOk 1 b) = true then ([], ttE 1 b)
    else if (val (behindKey kf b) room).err = 0 then
      if (val (behindKey kf b) room).rest.size < b.size then
        (⟨itemKey kf b, front (behindKey kf b) (val (behindKey kf b) room).rest, (val (behindKey kf b) room).deep⟩ :: (items kf (val (behindKey kf b) room).rest room).1, (items kf (val (behindKey kf b) room).rest room).2)
      else ([], 0)
    else ([], (val (behindKey kf b) room).err) := by
  unfold val items
  conv => lhs; rw [tabW]
  by_cases h1 : b.size = 0
  · rw [if_pos h1, if_pos h1]
  · rw [if_neg h1, if_neg h1]
    by_cases h2 : (kf && !ttOk 1 b) = true
    · rw [if_pos h2, if_pos h2]
    · rw [if_neg h2, if_neg h2]
      by_cases h3 : (tabW none (behindKey kf b) room).1.err = 0
      · rw [if_pos h3, if_pos h3]
        by_cases h4 : (tabW none (behindKey kf b) room).1.rest.size < b.size
        · rw [dif_pos h4, if_pos h4]
        · rw [dif_neg h4, if_neg h4]
      · rw [if_neg h3, if_neg h3]
def nest (kf : Bool) (t : ByteArray) (room : Int) : Res := nestOf t room (items kf (ttA 4 t) (room - 1))

theorem skipB_le (s : ByteArray) (n : Int) : (skipB s n).size ≤ s.size := by
  unfold skipB
  split
  · rw [ByteArray.size_extract]; omega
  · exact Nat.zero_le _
theorem nest_rest (t : ByteArray) (room : Int) (r : List Item × Int) : (nestOf t room r).rest.size ≤ t.size := by
  have := ttR_le 4 t
  unfold nestOf
  split
  · split
    · exact Nat.zero_le _
    · split
      · exact this
      · exact Nat.zero_le _
  · exact Nat.zero_le _
theorem flat_rest (t : ByteArray) (n : Int) : (flat t n).rest.size ≤ t.size := by
  have := ttR_le 4 t
  have := skipB_le t n
  unfold flat
  split <;> assumption
theorem val_rest {s : ByteArray} {room : Int} (h : (val s room).err = 0) : (val s room).rest.size < s.size := by
  rw [val_eq] at h ⊢
  split at h
  · rename_i h1
    have h2 := takeR_size h1
    rw [if_pos h1]
    split at h
    · cases h
    · rename_i h3
      rw [if_neg h3]
      split
      · have := nest_rest (takeR s 1) room (items (kindV (takeV s 1) == -3) (ttA 4 (takeR s 1)) (room - 1))
        omega
      · have := flat_rest (takeR s 1) (kindV (takeV s 1))
        omega
  · cases h
theorem items_nil (kf : Bool) {b : ByteArray} (room : Int) (h : b.size = 0) : items kf b room = ([], 0) := by rw [items_eq, if_pos h]
theorem items_key (b : ByteArray) (room : Int) (h : b.size ≠ 0) (hk : ttOk 1 b = false) : items true b room = ([], ttE 1 b) := by
  rw [items_eq, if_neg h, if_pos (by simp [hk])]
theorem items_err (kf : Bool) {b : ByteArray} {room : Int} (h : b.size ≠ 0) (hk : (kf && !ttOk 1 b) = false) (hv : (val (behindKey kf b) room).err ≠ 0) : items kf b room = ([], (val (behindKey kf b) room).err) := by
  rw [items_eq, if_neg h, if_neg (by simp [hk]), if_neg hv]
theorem items_go (kf : Bool) {b : ByteArray} {room : Int} (h : b.size ≠ 0) (hk : (kf && !ttOk 1 b) = false) (hv : (val (behindKey kf b) room).err = 0) :
    items kf b room = (⟨itemKey kf b, front (behindKey kf b) (val (behindKey kf b) room).rest, (val (behindKey kf b) room).deep⟩ :: (items kf (val (behindKey kf b) room).rest room).1, (items kf (val (behindKey kf b) room).rest room).2) := by
  have h1 := val_rest hv
  have h2 := behindKey_le kf b
  rw [items_eq, if_neg h, if_neg (by simp [hk]), if_pos hv, if_pos (by omega)]

theorem deepest_nonneg (l : List Item) : 0 ≤ deepest l := by
  induction l with
  | nil => exact Int.le_refl _
  | cons i l ih => unfold deepest; omega
theorem deepest_append (a b : List Item) : deepest (a ++ b) = max (deepest a) (deepest b) := by
  induction a with
  | nil => have := deepest_nonneg b; simp [deepest]; omega
  | cons i l ih => simp only [List.cons_append, deepest, ih]; omega
theorem front_append (a r : ByteArray) : front (a ++ r) r = a := by
  apply ba_ext
  unfold front
  rw [Lib.extract_data, ba_append, ByteArray.size_append]
  simp
theorem takeE_one {s : ByteArray} (h : takeOk s 1 = false) : takeE s 1 = 2 := by
  rw [takeE, if_pos (by decide), if_neg (by simp [h])]
theorem ttE_one {s : ByteArray} (h : ttOk 1 s = false) : ttE 1 s = 2 := by
  cases h1 : takeOk s 1
  · rw [ttE, if_neg (by simp [h1]), takeE_one h1]
  · have : skipOk (takeR s 1) (takeV s 1) = false := by simpa [ttOk, h1] using h
    rw [ttE, if_pos h1, skipE, if_neg (by simp [this])]
theorem ttE_four {s : ByteArray} (h : ttOk 4 s = false) : ttE 4 s = 2 := by
  cases h1 : takeOk s 4
  · rw [ttE, if_neg (by simp [h1]), takeE, if_pos (by decide), if_neg (by simp [h1])]
  · have : skipOk (takeR s 4) (takeV s 4) = false := by simpa [ttOk, h1] using h
    rw [ttE, if_pos h1, skipE, if_neg (by simp [this])]
theorem skip_parts {t : ByteArray} {n : Int} (h0 : 0 ≤ n) (h : skipE t n = 0) : ((skipA t n).size : Int) = n ∧ skipA t n ++ skipB t n = t := by
  have h1 : skipOk t n = true := by
    cases g : skipOk t n
    · rw [skipE, if_neg (by simp [g])] at h; cases h
    · rfl
  have h2 : n ≤ t.size := by simpa [skipOk] using h1
  rw [skipA, skipB, if_pos h1, if_pos h1]
  refine ⟨by rw [ByteArray.size_extract]; omega, ?_⟩
  apply ba_ext
  rw [ba_append, Lib.extract_data, Lib.extract_data]
  simp only [List.drop_zero, Nat.sub_zero]
  rw [List.take_of_length_le (l := List.drop _ _) (by rw [List.length_drop, ba_len]; omega)]
  exact List.take_append_drop _ _
theorem kindV_cases (c : Int) : kindV c = -4 ∨ kindV c = -3 ∨ kindV c = -2 ∨ kindV c = -1 ∨ 0 ≤ kindV c := by
  unfold kindV
  repeat' split
  all_goals omega

/-- flat values hang on their own bytes alone -/
theorem flat_good {t : ByteArray} {n : Int} (hn : n = -1 ∨ 0 ≤ n) (h : (flat t n).err = 0) :
    (flat t n).deep = 0 ∧ ∃ a, t = a ++ (flat t n).rest ∧ ∀ r', flat (a ++ r') n = ⟨0, r', 0⟩ := by
  rcases hn with rfl | hn
  · simp only [flat, if_pos] at h ⊢
    have hk : ttOk 4 t = true := by have := ttE_zero 4 t; rw [h] at this; simpa using this.symm
    obtain ⟨h1, h2⟩ := lay_tt hk
    refine ⟨trivial, _, h2.symm, fun r' => ?_⟩
    obtain ⟨g1, g2, g3⟩ := tt_lay h1 r'
    rw [g1, g3]
  · have hne : ¬ n = -1 := by omega
    simp only [flat, if_neg hne] at h ⊢
    obtain ⟨h1, h2⟩ := skip_parts hn h
    refine ⟨trivial, _, h2.symm, fun r' => ?_⟩
    obtain ⟨g1, g2, g3⟩ := skip_front (skipA t n) r'
    rw [h1] at g1 g2 g3
    rw [g3, skipE, if_pos g1]

/-- what is taken of s with so much room hangs on its own bytes alone, and on no more room than it is deep -/
def ValGood (s : ByteArray) (room : Int) : Prop := (val s room).err = 0 → 0 ≤ (val s room).deep ∧ ((val s room).deep ≤ room ∨ (val s room).deep = 0) ∧
  ∃ a, s = a ++ (val s room).rest ∧ ∀ r' room', (val s room).deep ≤ room' → val (a ++ r') room' = ⟨(val s room).deep, r', 0⟩
def ItemsGood (kf : Bool) (b : ByteArray) (room : Int) : Prop := (items kf b room).2 = 0 → (deepest (items kf b room).1 ≤ room ∨ deepest (items kf b room).1 = 0) ∧
  ∀ room', deepest (items kf b room).1 ≤ room' → items kf b room' = items kf b room

theorem items_good_of (n : Nat) (ih : ∀ s room, s.size ≤ n → ValGood s room) (kf : Bool) (room : Int) : ∀ (m : Nat) (b : ByteArray), b.size ≤ m → b.size ≤ n → ItemsGood kf b room := by
  intro m
  induction m with
  | zero =>
    intro b hb _ _
    rw [items_nil kf room (by omega)]
    exact ⟨.inr rfl, fun r _ => items_nil kf r (by omega)⟩
  | succ m ihm =>
    intro b hb hn h
    by_cases h0 : b.size = 0
    · rw [items_nil kf room h0]
      exact ⟨.inr rfl, fun r _ => items_nil kf r h0⟩
    · cases hk : (kf && !ttOk 1 b)
      · by_cases hv : (val (behindKey kf b) room).err = 0
        · have hbk := behindKey_le kf b
          have hlt := val_rest hv
          obtain ⟨g1, g2, a, g3, g4⟩ := ih (behindKey kf b) room (by omega) hv
          rw [items_go kf h0 hk hv] at h ⊢
          obtain ⟨f1, f2⟩ := ihm (val (behindKey kf b) room).rest (by omega) (by omega) h
          have hd := deepest_nonneg (items kf (val (behindKey kf b) room).rest room).1
          simp only [deepest]
          refine ⟨by omega, fun room' hr => ?_⟩
          have e1 : val (behindKey kf b) room' = ⟨(val (behindKey kf b) room).deep, (val (behindKey kf b) room).rest, 0⟩ := by
            have := g4 (val (behindKey kf b) room).rest room' (by omega)
            rwa [← g3] at this
          have e2 := f2 room' (by omega)
          rw [items_go kf (room := room') h0 hk (by rw [e1]), e1]
          simp only
          rw [e2]
        · rw [items_err kf h0 hk hv] at h
          exact absurd h hv
      · obtain ⟨rfl, hk2⟩ : kf = true ∧ ttOk 1 b = false := by simpa using hk
        rw [items_key b room h0 hk2, ttE_one hk2] at h
        cases h
theorem put_one_front {s : ByteArray} (h : takeOk s 1 = true) (t : ByteArray) : takeOk (putR 1 (takeV s 1) ++ t) 1 = true ∧ takeV (putR 1 (takeV s 1) ++ t) 1 = takeV s 1 ∧ takeR (putR 1 (takeV s 1) ++ t) 1 = t :=
  ⟨take_put_ok (put_take_ok h) t, take_put_v (put_take_ok h) (takeV_nonneg _ _) t, take_put_r (put_take_ok h) t⟩
theorem nestOf_good {kf : Bool} {t : ByteArray} {room : Int} (hi : ItemsGood kf (ttA 4 t) (room - 1)) (h : (nest kf t room).err = 0) :
    0 < (nest kf t room).deep ∧ (nest kf t room).deep ≤ room ∧ ∃ a, t = a ++ (nest kf t room).rest ∧ a = layR 4 (ttA 4 t) ∧ ∀ r' room', (nest kf t room).deep ≤ room' → nest kf (a ++ r') room' = ⟨(nest kf t room).deep, r', 0⟩ := by
  unfold nest nestOf at h ⊢
  rcases Bool.eq_false_or_eq_true (ttOk 4 t) with hk | hk
  rotate_left
  · rw [if_neg (by simp [hk]), ttE_four hk] at h
    cases h
  · rw [if_pos hk] at h ⊢
    by_cases hr : room < 1
    · rw [if_pos hr] at h; cases h
    · rw [if_neg hr] at h ⊢
      by_cases he : (items kf (ttA 4 t) (room - 1)).2 = 0
      · rw [if_pos he]
        obtain ⟨f1, f2⟩ := hi he
        have hd := deepest_nonneg (items kf (ttA 4 t) (room - 1)).1
        simp only
        obtain ⟨h1, h2⟩ := lay_tt hk
        refine ⟨by omega, by omega, _, h2.symm, rfl, fun r' room' hr' => ?_⟩
        obtain ⟨g1, g2, g3⟩ := tt_lay h1 r'
        have g4 : ttOk 4 (layR 4 (ttA 4 t) ++ r') = true := by rw [← ttE_zero, g1]; rfl
        rw [if_pos g4, if_neg (by omega), g2, f2 (room' - 1) (by omega), if_pos he, g3]
      · rw [if_neg he] at h
        unfold wErr at h
        simp only at h
        split at h
        · cases h
        · exact absurd h he
theorem val_nest {s : ByteArray} (room : Int) (h : takeOk s 1 = true) (hk : kindV (takeV s 1) = -2 ∨ kindV (takeV s 1) = -3) : val s room = nest (kindV (takeV s 1) == -3) (takeR s 1) room := by
  rw [val_eq, if_pos h, if_neg (by omega), if_pos (by omega)]; rfl
theorem val_flat {s : ByteArray} (room : Int) (h : takeOk s 1 = true) (hk : kindV (takeV s 1) = -1 ∨ 0 ≤ kindV (takeV s 1)) : val s room = flat (takeR s 1) (kindV (takeV s 1)) := by
  rw [val_eq, if_pos h, if_neg (by omega), if_neg (by omega)]
theorem val_none {s : ByteArray} (room : Int) (h : takeOk s 1 = true) (hk : kindV (takeV s 1) = -4) : val s room = ⟨0, ⟨#[]⟩, 3⟩ := by
  rw [val_eq, if_pos h, if_pos hk]
theorem val_more {s : ByteArray} (room : Int) (h : takeOk s 1 = false) : val s room = ⟨0, ⟨#[]⟩, 2⟩ := by
  rw [val_eq, if_neg (by simp [h])]
theorem val_good_le : ∀ (n : Nat) (s : ByteArray) (room : Int), s.size ≤ n → ValGood s room := by
  intro n
  induction n with
  | zero =>
    intro s room hs h
    have := val_rest h
    omega
  | succ n ih =>
    intro s room hs h
    cases ht : takeOk s 1
    · rw [val_more room ht] at h; cases h
    · have hsz := takeR_size ht
      have hle := ttA_le 4 (takeR s 1)
      have e0 := put_take_s ht
      rcases kindV_cases (takeV s 1) with hk | hk | hk | hk | hk
      · rw [val_none room ht hk] at h; cases h
      · rw [val_nest room ht (.inr hk)] at h ⊢
        obtain ⟨g1, g2, a, g3, -, g4⟩ := nestOf_good (items_good_of n ih _ _ n _ (by omega) (by omega)) h
        refine ⟨by omega, .inl g2, putR 1 (takeV s 1) ++ a, ?_, fun r' room' hr => ?_⟩
        · rw [ByteArray.append_assoc, ← g3, e0]
        · obtain ⟨p1, p2, p3⟩ := put_one_front ht (a ++ r')
          rw [ByteArray.append_assoc, val_nest room' p1 (by rw [p2]; exact .inr hk), p2, p3, g4 r' room' hr]
      · rw [val_nest room ht (.inl hk)] at h ⊢
        obtain ⟨g1, g2, a, g3, -, g4⟩ := nestOf_good (items_good_of n ih _ _ n _ (by omega) (by omega)) h
        refine ⟨by omega, .inl g2, putR 1 (takeV s 1) ++ a, ?_, fun r' room' hr => ?_⟩
        · rw [ByteArray.append_assoc, ← g3, e0]
        · obtain ⟨p1, p2, p3⟩ := put_one_front ht (a ++ r')
          rw [ByteArray.append_assoc, val_nest room' p1 (by rw [p2]; exact .inl hk), p2, p3, g4 r' room' hr]
      · rw [val_flat room ht (.inl hk)] at h ⊢
        obtain ⟨g1, a, g3, g4⟩ := flat_good (.inl hk) h
        refine ⟨by omega, .inr g1, putR 1 (takeV s 1) ++ a, ?_, fun r' room' hr => ?_⟩
        · rw [ByteArray.append_assoc, ← g3, e0]
        · obtain ⟨p1, p2, p3⟩ := put_one_front ht (a ++ r')
          rw [ByteArray.append_assoc, val_flat room' p1 (by rw [p2]; exact .inl hk), p2, p3, g4 r', g1]
      · rw [val_flat room ht (.inr hk)] at h ⊢
        obtain ⟨g1, a, g3, g4⟩ := flat_good (.inr hk) h
        refine ⟨by omega, .inr g1, putR 1 (takeV s 1) ++ a, ?_, fun r' room' hr => ?_⟩
        · rw [ByteArray.append_assoc, ← g3, e0]
        · obtain ⟨p1, p2, p3⟩ := put_one_front ht (a ++ r')
          rw [ByteArray.append_assoc, val_flat room' p1 (by rw [p2]; exact .inr hk), p2, p3, g4 r', g1]
theorem val_good (s : ByteArray) (room : Int) : ValGood s room := val_good_le s.size s room (Nat.le_refl _)
theorem items_good (kf : Bool) (b : ByteArray) (room : Int) : ItemsGood kf b room := items_good_of b.size (fun s r _ => val_good s r) kf room b.size b (Nat.le_refl _) (Nat.le_refl _)
theorem nest_good {kf : Bool} {t : ByteArray} {room : Int} (h : (nest kf t room).err = 0) :
    0 < (nest kf t room).deep ∧ (nest kf t room).deep ≤ room ∧ ∃ a, t = a ++ (nest kf t room).rest ∧ a = layR 4 (ttA 4 t) ∧ ∀ r' room', (nest kf t room).deep ≤ room' → nest kf (a ++ r') room' = ⟨(nest kf t room).deep, r', 0⟩ :=
  nestOf_good (items_good _ _ _) h

/-- the errors that there are -/
theorem val_deep_err {s : ByteArray} {room : Int} (h : (val s room).err ≠ 0) : (val s room).deep = 0 ∧ (val s room).rest = ⟨#[]⟩ := by
  cases ht : takeOk s 1
  · rw [val_more room ht]; exact ⟨rfl, rfl⟩
  · rcases kindV_cases (takeV s 1) with hk | hk | hk | hk | hk
    · rw [val_none room ht hk]; exact ⟨rfl, rfl⟩
    · rw [val_nest room ht (.inr hk)] at h ⊢
      unfold nest nestOf at h ⊢
      repeat' split
      all_goals first | exact ⟨rfl, rfl⟩ | (exfalso; simp_all)
    · rw [val_nest room ht (.inl hk)] at h ⊢
      unfold nest nestOf at h ⊢
      repeat' split
      all_goals first | exact ⟨rfl, rfl⟩ | (exfalso; simp_all)
    · rw [val_flat room ht (.inl hk)] at h ⊢
      have hk4 : ttOk 4 (takeR s 1) = false := by
        rw [hk] at h
        simp only [flat, if_pos] at h
        cases g : ttOk 4 (takeR s 1)
        · rfl
        · exact absurd (ttE_of g) h
      rw [hk]
      simp only [flat, if_pos]
      refine ⟨trivial, ?_⟩
      unfold ttR skipB
      simp only [ttOk] at hk4
      split
      · rename_i h1
        rw [h1] at hk4
        simp only [Bool.true_and] at hk4
        rw [if_neg (by simp [hk4])]
      · rfl
    · rw [val_flat room ht (.inr hk)] at h ⊢
      have hne : ¬ kindV (takeV s 1) = -1 := by omega
      simp only [flat, if_neg hne] at h ⊢
      refine ⟨trivial, ?_⟩
      unfold skipE at h
      unfold skipB
      split
      · rename_i h1
        rw [if_pos h1] at h
        exact absurd rfl h
      · rfl
end Go.Proofs.YtllgkohgcicbhaaGreatDoor

/-
  Pieces of a text, as a plain function: each of n bytes but the last one. Together they are the whole. No condition.
-/
namespace Go.Proofs.YtllgkohgcicbhaaGreatDoor

/-- s in pieces of n bytes, n at least 1 (for n = 0: none) -/
def cutL (n : Nat) (s : ByteArray) : List ByteArray :=
  if _h : 0 < s.size ∧ 0 < n then s.extract 0 (min n s.size) :: cutL n (s.extract (min n s.size) s.size) else []
termination_by s.size
decreasing_by rw [ByteArray.size_extract]; omega

theorem cutL_nil (n : Nat) {s : ByteArray} (h : s.size = 0) : cutL n s = [] := by
  rw [cutL, dif_neg (by omega)]
theorem cutL_cons {n : Nat} {s : ByteArray} (h : 0 < s.size) (hn : 0 < n) : cutL n s = s.extract 0 (min n s.size) :: cutL n (s.extract (min n s.size) s.size) := by
  rw [cutL, dif_pos ⟨h, hn⟩]
theorem cutL_len {n : Nat} (hn : 0 < n) : ∀ (k : Nat) (s : ByteArray), s.size = k → (cutL n s).length ≤ k := by
  intro k
  induction k using Nat.strongRecOn with
  | ind k ih =>
    intro s hs
    rcases Nat.eq_zero_or_pos s.size with h | h
    · rw [cutL_nil n h]; simp
    · rw [cutL_cons h hn, List.length_cons]
      have h1 : (s.extract (min n s.size) s.size).size = s.size - min n s.size := by rw [ByteArray.size_extract]; omega
      have := ih _ (by rw [← hs]; omega) (s.extract (min n s.size) s.size) h1
      omega
theorem cutL_le {n : Nat} (hn : 0 < n) (s : ByteArray) : (cutL n s).length ≤ s.size := cutL_len hn s.size s rfl
end Go.Proofs.YtllgkohgcicbhaaGreatDoor

/-
  Frames as plain functions: which are right, a frame's bytes, the frame that bytes begin with, all that they begin with; what is laid is taken, what is taken is laid as it was, and what follows hangs on the bytes alone, however they are cut. No condition.
-/
namespace Go.Proofs.YtllgkohgcicbhaaGreatDoor

structure Fr where
  t : Int
  c : Int
  d : ByteArray

/-- what each type allows -/
def kOk (t : Int) : Bool := t == 1 || t == 2 || t == 3 || t == 8
def kLast (t : Int) : Int := if kOk t = true then (if t = 8 then 0 else 65535) else 0
def kLeast (t : Int) : Int := if t = 3 then 1 else 0
def kMost (t : Int) : Int := if kOk t = true then (if t = 8 then 0 else 131072) else 0
def frRight (f : Fr) : Bool := kOk f.t && decide (0 ≤ f.c ∧ f.c ≤ kLast f.t) && decide (kLeast f.t ≤ f.d.size ∧ f.d.size ≤ kMost f.t)
/-- a frame's bytes -/
def frB (f : Fr) : ByteArray := putR 1 f.t ++ (putR 2 f.c ++ (layR 4 f.d ++ putR 1 206))
def frBytes (f : Fr) : ByteArray := if frRight f = true then frB f else ⟨#[]⟩
def frBytesE (f : Fr) : Int := if frRight f = true then 0 else 1

/-- the frame that bytes begin with: what stands ahead of its data, and all of it -/
def fr1 (s : ByteArray) : ByteArray := takeR s 1
def fr2 (s : ByteArray) : ByteArray := takeR (fr1 s) 2
def frCode (s : ByteArray) : Int := takeV s 1
def frChan (s : ByteArray) : Int := takeV (fr1 s) 2
def frSize (s : ByteArray) : Int := takeV (fr2 s) 4
def frontE (s : ByteArray) : Int := if takeOk s 1 = true then (if kOk (frCode s) = true then (if takeOk (fr1 s) 2 = true then (if takeOk (fr2 s) 4 = true then 0 else 2) else 2) else 6) else 2
def roomOf (m : Int) : Int := min (max m 4096) 131072 - 8
def frGot (s : ByteArray) : Fr := ⟨frCode s, frChan s, ttA 4 (fr2 s)⟩
def frEnd (s : ByteArray) : ByteArray := ttR 4 (fr2 s)
def frRest (s : ByteArray) : ByteArray := takeR (frEnd s) 1
def frE (s : ByteArray) (m : Int) : Int :=
  if frontE s = 0 then (if frSize s ≤ roomOf m then (if ttOk 4 (fr2 s) = true then (if takeOk (frEnd s) 1 = true then (if (takeV (frEnd s) 1 == 206 && frRight (frGot s)) = true then 0 else 6) else 2) else 2) else 6) else frontE s
def frNone : Fr := ⟨0, 0, ⟨#[]⟩⟩
def frF (s : ByteArray) (m : Int) : Fr := if frE s m = 0 then frGot s else frNone
def frR (s : ByteArray) (m : Int) : ByteArray := if frE s m = 0 then frRest s else ⟨#[]⟩

theorem roomOf_bounds (m : Int) : 4088 ≤ roomOf m ∧ roomOf m ≤ 131064 := by unfold roomOf; omega
theorem frontE_cases (s : ByteArray) : frontE s = 0 ∨ frontE s = 2 ∨ frontE s = 6 := by
  unfold frontE
  split
  · split
    · split
      · split <;> simp
      · simp
    · simp
  · simp
theorem frE_cases (s : ByteArray) (m : Int) : frE s m = 0 ∨ frE s m = 2 ∨ frE s m = 6 := by
  unfold frE
  split
  · split
    · split
      · split
        · split <;> simp
        · simp
      · simp
    · simp
  · exact frontE_cases s
theorem frontE_zero {s : ByteArray} (h : frontE s = 0) : takeOk s 1 = true ∧ kOk (frCode s) = true ∧ takeOk (fr1 s) 2 = true ∧ takeOk (fr2 s) 4 = true := by
  unfold frontE at h
  split at h
  · rename_i h1
    split at h
    · rename_i h2
      split at h
      · rename_i h3
        split at h
        · rename_i h4
          exact ⟨h1, h2, h3, h4⟩
        · cases h
      · cases h
    · cases h
  · cases h
theorem frE_zero {s : ByteArray} {m : Int} (h : frE s m = 0) : frontE s = 0 ∧ frSize s ≤ roomOf m ∧ ttOk 4 (fr2 s) = true ∧ takeOk (frEnd s) 1 = true ∧ takeV (frEnd s) 1 = 206 ∧ frRight (frGot s) = true := by
  unfold frE at h
  split at h
  · rename_i h1
    split at h
    · rename_i h2
      split at h
      · rename_i h3
        split at h
        · rename_i h4
          split at h
          · rename_i h5
            simp only [Bool.and_eq_true, beq_iff_eq] at h5
            exact ⟨h1, h2, h3, h4, h5.1, h5.2⟩
          · cases h
        · cases h
      · cases h
    · cases h
  · exact absurd h ‹_›
theorem frontE_of {s : ByteArray} (h1 : takeOk s 1 = true) (h2 : kOk (frCode s) = true) (h3 : takeOk (fr1 s) 2 = true) (h4 : takeOk (fr2 s) 4 = true) : frontE s = 0 := by
  rw [frontE, if_pos h1, if_pos h2, if_pos h3, if_pos h4]
theorem frE_of {s : ByteArray} {m : Int} (h1 : frontE s = 0) (h2 : frSize s ≤ roomOf m) (h3 : ttOk 4 (fr2 s) = true) (h4 : takeOk (frEnd s) 1 = true) (h5 : takeV (frEnd s) 1 = 206) (h6 : frRight (frGot s) = true) : frE s m = 0 := by
  rw [frE, if_pos h1, if_pos h2, if_pos h3, if_pos h4, if_pos (by rw [h5, h6]; rfl)]

/-- what is taken is laid as it was -/
theorem fr_laid {s : ByteArray} {m : Int} (h : frE s m = 0) : frB (frGot s) ++ frRest s = s ∧ frRight (frGot s) = true ∧ ((frGot s).d.size : Int) ≤ roomOf m := by
  obtain ⟨h1, h2, h3, h4, h5, h6⟩ := frE_zero h
  obtain ⟨g1, g2, g3, g4⟩ := frontE_zero h1
  refine ⟨?_, h6, ?_⟩
  · have e1 := put_take_s g1
    have e2 := put_take_s g3
    have e3 := (lay_tt h3).2
    have e4 := put_take_s h4
    rw [h5] at e4
    show putR 1 (frCode s) ++ (putR 2 (frChan s) ++ (layR 4 (ttA 4 (fr2 s)) ++ putR 1 206)) ++ frRest s = s
    rw [ba_assoc, ba_assoc, ba_assoc]
    rw [show putR 1 206 ++ frRest s = ttR 4 (fr2 s) from e4, e3]
    rw [show putR 2 (frChan s) ++ fr2 s = fr1 s from e2]
    exact e1
  · have := ttA_size h3
    show ((ttA 4 (fr2 s)).size : Int) ≤ roomOf m
    unfold frSize at h2
    omega
theorem fr_sizes {s : ByteArray} {m : Int} (h : frE s m = 0) : (frGot s).d.size + 8 + (frRest s).size = s.size := by
  obtain ⟨h1, h2, h3, h4, h5, h6⟩ := frE_zero h
  obtain ⟨g1, g2, g3, g4⟩ := frontE_zero h1
  have q1 : ((fr1 s).size : Int) + 1 = s.size := takeR_size g1
  have q2 : ((fr2 s).size : Int) + 2 = (fr1 s).size := takeR_size g3
  have q3 : ((ttA 4 (fr2 s)).size : Int) + (frEnd s).size + 4 = (fr2 s).size := tt_sizes h3
  have q4 : ((frRest s).size : Int) + 1 = (frEnd s).size := takeR_size h4
  show (ttA 4 (fr2 s)).size + 8 + (frRest s).size = s.size
  omega

theorem frRight_parts {f : Fr} (h : frRight f = true) : kOk f.t = true ∧ (f.t = 1 ∨ f.t = 2 ∨ f.t = 3 ∨ f.t = 8) ∧ 0 ≤ f.c ∧ f.c ≤ 65535 ∧ f.d.size ≤ 131072 := by
  simp only [frRight, Bool.and_eq_true, decide_eq_true_eq] at h
  obtain ⟨⟨h1, h2, h3⟩, h4, h5⟩ := h
  refine ⟨h1, by simp only [kOk, Bool.or_eq_true, beq_iff_eq] at h1; omega, h2, ?_, ?_⟩
  · unfold kLast at h3
    rw [if_pos h1] at h3
    split at h3 <;> omega
  · unfold kMost at h5
    rw [if_pos h1] at h5
    split at h5 <;> omega
theorem fr_puts {f : Fr} (h : frRight f = true) : putOk 1 f.t = true ∧ putOk 2 f.c = true ∧ layOk 4 f.d = true := by
  obtain ⟨-, h1, h2, h3, h4⟩ := frRight_parts h
  refine ⟨?_, ?_, ?_⟩
  · rcases h1 with h | h | h | h <;> rw [h] <;> decide
  · simp [putOk, isW]; omega
  · rw [layOk_four]; simp; omega
theorem frB_size {f : Fr} (h : frRight f = true) : (frB f).size = f.d.size + 8 := by
  obtain ⟨h1, h2, h3⟩ := fr_puts h
  have q1 := putR_size h1
  have q2 := putR_size h2
  have q3 := layR_size h3
  have q4 := putR_size (show putOk 1 206 = true by decide)
  unfold frB
  rw [ByteArray.size_append, ByteArray.size_append, ByteArray.size_append]
  omega
/-- what is laid is taken -/
theorem fr_taken {f : Fr} {m : Int} (h : frRight f = true) (hm : (f.d.size : Int) ≤ roomOf m) (more : ByteArray) : frE (frB f ++ more) m = 0 ∧ frGot (frB f ++ more) = f ∧ frRest (frB f ++ more) = more := by
  obtain ⟨h1, h2, h3⟩ := fr_puts h
  obtain ⟨k0, kt, c0, -⟩ := frRight_parts h
  have hE : putOk 1 206 = true := by decide
  have e0 : frB f ++ more = putR 1 f.t ++ (putR 2 f.c ++ (layR 4 f.d ++ (putR 1 206 ++ more))) := by
    unfold frB
    rw [ba_assoc, ba_assoc, ba_assoc]
  rw [e0]
  generalize hs : putR 1 f.t ++ (putR 2 f.c ++ (layR 4 f.d ++ (putR 1 206 ++ more))) = s
  have a1 : takeOk s 1 = true := by rw [← hs]; exact take_put_ok h1 _
  have a2 : frCode s = f.t := by rw [← hs]; exact take_put_v h1 (by omega) _
  have a3 : fr1 s = putR 2 f.c ++ (layR 4 f.d ++ (putR 1 206 ++ more)) := by rw [← hs]; exact take_put_r h1 _
  have b1 : takeOk (fr1 s) 2 = true := by rw [a3]; exact take_put_ok h2 _
  have b2 : frChan s = f.c := by unfold frChan; rw [a3]; exact take_put_v h2 c0 _
  have b3 : fr2 s = layR 4 f.d ++ (putR 1 206 ++ more) := by unfold fr2; rw [a3]; exact take_put_r h2 _
  obtain ⟨t1, t2, t3⟩ := tt_lay h3 (putR 1 206 ++ more)
  have c1 : ttOk 4 (fr2 s) = true := by rw [b3, ← ttE_zero, t1]; rfl
  have c2 : ttA 4 (fr2 s) = f.d := by rw [b3]; exact t2
  have c3 : frEnd s = putR 1 206 ++ more := by unfold frEnd; rw [b3]; exact t3
  have c4 : frSize s = f.d.size := by
    have := ttA_size c1
    rw [c2] at this
    exact this.symm
  have d1 : takeOk (frEnd s) 1 = true := by rw [c3]; exact take_put_ok hE _
  have d2 : takeV (frEnd s) 1 = 206 := by rw [c3]; exact take_put_v hE (by omega) _
  have d3 : frRest s = more := by unfold frRest; rw [c3]; exact take_put_r hE _
  have g : frGot s = f := by unfold frGot; rw [a2, b2, c2]
  exact ⟨frE_of (frontE_of a1 (by rw [a2]; exact k0) b1 (ttOk_parts c1).1) (by rw [c4]; exact hm) c1 d1 d2 (by rw [g]; exact h), g, d3⟩

/-- more behind: what was taken is taken -/
theorem take_more_behind {s : ByteArray} {n : Int} (h : takeOk s n = true) (x : ByteArray) : takeOk (s ++ x) n = true ∧ takeV (s ++ x) n = takeV s n ∧ takeR (s ++ x) n = takeR s n ++ x := by
  have e : s ++ x = putR n (takeV s n) ++ (takeR s n ++ x) := by rw [← ba_assoc, put_take_s h]
  have hp := put_take_ok h
  rw [e]
  exact ⟨take_put_ok hp _, take_put_v hp (takeV_nonneg _ _) _, take_put_r hp _⟩
theorem tt_more_behind {s : ByteArray} {k : Int} (h : ttOk k s = true) (x : ByteArray) : ttOk k (s ++ x) = true ∧ ttA k (s ++ x) = ttA k s ∧ ttR k (s ++ x) = ttR k s ++ x := by
  obtain ⟨h1, h2⟩ := lay_tt h
  have e : s ++ x = layR k (ttA k s) ++ (ttR k s ++ x) := by rw [← ba_assoc, h2]
  have t := tt_lay h1 (ttR k s ++ x)
  rw [e]
  exact ⟨by rw [← ttE_zero, t.1]; rfl, t.2⟩
theorem front_more {s : ByteArray} (h : frontE s = 0) (x : ByteArray) : frontE (s ++ x) = 0 ∧ frCode (s ++ x) = frCode s ∧ frChan (s ++ x) = frChan s ∧ frSize (s ++ x) = frSize s ∧ fr2 (s ++ x) = fr2 s ++ x := by
  obtain ⟨h1, h2, h3, h4⟩ := frontE_zero h
  obtain ⟨a1, a2, a3⟩ := take_more_behind h1 x
  obtain ⟨b1, b2, b3⟩ := take_more_behind h3 x
  obtain ⟨c1, c2, -⟩ := take_more_behind h4 x
  have e1 : fr1 (s ++ x) = fr1 s ++ x := a3
  have e2 : fr2 (s ++ x) = fr2 s ++ x := by unfold fr2; rw [e1]; exact b3
  have e3 : frCode (s ++ x) = frCode s := a2
  refine ⟨frontE_of a1 (by rw [e3]; exact h2) (by rw [e1]; exact b1) (by rw [e2]; exact c1), e3, ?_, ?_, e2⟩
  · unfold frChan; rw [e1]; exact b2
  · unfold frSize; rw [e2]; exact c2
theorem fr_wrong_more {s : ByteArray} {m : Int} (h : frE s m = 6) (x : ByteArray) : frE (s ++ x) m = 6 := by
  by_cases h0 : frontE s = 0
  · obtain ⟨a0, a1, a2, a3, a4⟩ := front_more h0 x
    rw [frE, if_pos h0] at h
    rw [frE, if_pos a0, a3]
    split at h
    · rename_i h1
      rw [if_pos h1]
      split at h
      · rename_i h2
        obtain ⟨b1, b2, b3⟩ := tt_more_behind h2 x
        rw [a4, if_pos b1]
        have e1 : frEnd (s ++ x) = frEnd s ++ x := by unfold frEnd; rw [a4]; exact b3
        have e2 : frGot (s ++ x) = frGot s := by unfold frGot; rw [a1, a2, a4, b2]
        rw [e1, e2]
        split at h
        · rename_i h3
          obtain ⟨c1, c2, -⟩ := take_more_behind h3 x
          rw [if_pos c1, c2]
          exact h
        · cases h
      · cases h
    · rename_i h1
      rw [if_neg h1]
  · rw [frE, if_neg h0] at h
    have h1 : takeOk s 1 = true ∧ kOk (frCode s) = false := by
      unfold frontE at h
      split at h
      · rename_i h1
        split at h
        · split at h
          · split at h <;> cases h
          · cases h
        · rename_i h2
          exact ⟨h1, by simpa using h2⟩
      · cases h
    obtain ⟨a1, a2, -⟩ := take_more_behind h1.1 x
    have e : frontE (s ++ x) = 6 := by
      rw [frontE, if_pos a1, show frCode (s ++ x) = frCode s from a2, if_neg (by rw [h1.2]; simp)]
    rw [frE, if_neg (by rw [e]; decide), e]
theorem fr_whole_more {s : ByteArray} {m : Int} (h : frE s m = 0) (x : ByteArray) : frE (s ++ x) m = 0 ∧ frGot (s ++ x) = frGot s ∧ frRest (s ++ x) = frRest s ++ x := by
  obtain ⟨h1, h2, h3⟩ := fr_laid h
  have e : s ++ x = frB (frGot s) ++ (frRest s ++ x) := by rw [← ba_assoc, h1]
  rw [e]
  exact fr_taken h2 h3 _
/-- what waits has fewer bytes than may be -/
theorem fr_waits {s : ByteArray} {m : Int} (h : frE s m = 2) : (s.size : Int) < roomOf m + 8 := by
  have hr := (roomOf_bounds m).1
  by_cases h0 : frontE s = 0
  · obtain ⟨g1, g2, g3, g4⟩ := frontE_zero h0
    have q1 : ((fr1 s).size : Int) + 1 = s.size := takeR_size g1
    have q2 : ((fr2 s).size : Int) + 2 = (fr1 s).size := takeR_size g3
    have q3 := takeR_size g4
    rw [frE, if_pos h0] at h
    split at h
    · rename_i h1
      have e : takeV (fr2 s) 4 = frSize s := rfl
      by_cases h2 : ttOk 4 (fr2 s) = true
      · rw [if_pos h2] at h
        by_cases h3 : takeOk (frEnd s) 1 = true
        · rw [if_pos h3] at h
          split at h <;> cases h
        · have q4 := tt_sizes h2
          have q5 := ttA_size h2
          have e2 : ttR 4 (fr2 s) = frEnd s := rfl
          rw [e2] at q4
          have q6 : (frEnd s).size < 1 := by
            simp [takeOk, isW] at h3
            omega
          omega
      · have q4 : ¬ takeV (fr2 s) 4 ≤ ((takeR (fr2 s) 4).size : Int) := by
          intro hle
          apply h2
          simp only [ttOk, g4, Bool.true_and, skipOk]
          simpa using hle
        omega
    · cases h
  · rw [frE, if_neg h0] at h
    unfold frontE at h
    split at h
    · rename_i h1
      have q1 : ((fr1 s).size : Int) + 1 = s.size := takeR_size h1
      split at h
      · split at h
        · rename_i h3
          have q2 : ((fr2 s).size : Int) + 2 = (fr1 s).size := takeR_size h3
          split at h
          · cases h
          · rename_i h4
            simp [takeOk, isW] at h4
            omega
        · rename_i h3
          simp [takeOk, isW] at h3
          omega
      · cases h
    · rename_i h1
      simp [takeOk, isW] at h1
      omega

/-- all frames that bytes begin with, what is left ahead of the first that cannot be taken, and why it cannot -/
def frs (s : ByteArray) (m : Int) : List Fr × ByteArray × Int :=
  if _h : frE s m = 0 then (frGot s :: (frs (frRest s) m).1, (frs (frRest s) m).2) else ([], s, frE s m)
termination_by s.size
  decreasing_by
    all_goals
      have := fr_sizes _h
      omega
theorem frs_go {s : ByteArray} {m : Int} (h : frE s m = 0) : frs s m = (frGot s :: (frs (frRest s) m).1, (frs (frRest s) m).2) := by rw [frs, dif_pos h]
theorem frs_stop {s : ByteArray} {m : Int} (h : frE s m ≠ 0) : frs s m = ([], s, frE s m) := by rw [frs, dif_neg h]
theorem frs_facts (m : Int) : ∀ (n : Nat) (s : ByteArray), s.size ≤ n → (frs s m).1.length * 8 + (frs s m).2.1.size ≤ s.size ∧ ((frs s m).2.2 = 2 ∨ (frs s m).2.2 = 6) := by
  intro n
  induction n with
  | zero =>
    intro s hs
    have h : frE s m ≠ 0 := fun h => by have := fr_sizes h; omega
    rw [frs_stop h]
    have := frE_cases s m
    exact ⟨by simp, by simpa [h] using this⟩
  | succ n ih =>
    intro s hs
    by_cases h : frE s m = 0
    · have q := fr_sizes h
      obtain ⟨i1, i2⟩ := ih (frRest s) (by omega)
      rw [frs_go h]
      refine ⟨?_, i2⟩
      simp only [List.length_cons]
      omega
    · rw [frs_stop h]
      have := frE_cases s m
      exact ⟨by simp, by simpa [h] using this⟩
/-- bytes in two pieces -/
theorem frs_pieces (m : Int) (x : ByteArray) : ∀ (n : Nat) (s : ByteArray), s.size ≤ n →
    ((frs s m).2.2 = 6 → frs (s ++ x) m = ((frs s m).1, (frs s m).2.1 ++ x, 6)) ∧
    ((frs s m).2.2 = 2 → frs (s ++ x) m = ((frs s m).1 ++ (frs ((frs s m).2.1 ++ x) m).1, (frs ((frs s m).2.1 ++ x) m).2)) := by
  intro n
  induction n with
  | zero =>
    intro s hs
    have h : frE s m ≠ 0 := fun h => by have := fr_sizes h; omega
    rw [frs_stop h]
    refine ⟨fun h6 => ?_, fun _ => rfl⟩
    have h6' : frE s m = 6 := h6
    have := fr_wrong_more h6' x
    rw [frs_stop (by rw [this]; decide), this]
  | succ n ih =>
    intro s hs
    by_cases h : frE s m = 0
    · have q := fr_sizes h
      obtain ⟨i1, i2⟩ := ih (frRest s) (by omega)
      obtain ⟨k1, k2, k3⟩ := fr_whole_more h x
      rw [frs_go h, frs_go k1, k2, k3]
      refine ⟨fun h6 => ?_, fun h2 => ?_⟩
      · rw [i1 h6]
      · rw [i2 h2]; rfl
    · rw [frs_stop h]
      refine ⟨fun h6 => ?_, fun _ => rfl⟩
      have h6' : frE s m = 6 := h6
      have := fr_wrong_more h6' x
      rw [frs_stop (by rw [this]; decide), this]
/-- frames, one behind the other -/
def allB : List Fr → ByteArray
  | [] => ⟨#[]⟩
  | f :: l => frBytes f ++ allB l
theorem frs_nil (m : Int) : frs ⟨#[]⟩ m = ([], ⟨#[]⟩, 2) := by
  have e : frE ⟨#[]⟩ m = 2 := by
    have h : takeOk ⟨#[]⟩ 1 = false := by decide
    have h2 : frontE ⟨#[]⟩ = 2 := by rw [frontE, h, if_neg (by decide)]
    rw [frE, if_neg (by rw [h2]; decide), h2]
  rw [frs_stop (by rw [e]; decide), e]
theorem frs_rows (m : Int) : ∀ l : List Fr, (∀ f ∈ l, frRight f = true ∧ (f.d.size : Int) ≤ roomOf m) → frs (allB l) m = (l, ⟨#[]⟩, 2)
  | [], _ => frs_nil m
  | f :: l, h => by
    obtain ⟨h1, h2⟩ := h f (List.mem_cons_self ..)
    obtain ⟨k1, k2, k3⟩ := fr_taken (m := m) h1 h2 (allB l)
    have e : allB (f :: l) = frB f ++ allB l := by rw [allB, frBytes, if_pos h1]
    rw [e, frs_go k1, k2, k3, frs_rows m l (fun g hg => h g (List.mem_cons_of_mem _ hg))]
/-- what Split answers -/
def spR (s : ByteArray) (m : Int) : ByteArray := if (frs s m).2.2 = 2 then (frs s m).2.1 else ⟨#[]⟩
def spE (s : ByteArray) (m : Int) : Int := if (frs s m).2.2 = 2 then 0 else (frs s m).2.2
end Go.Proofs.YtllgkohgcicbhaaGreatDoor

/-
  text.Short, TakeShort, TakeLong answer as the plain functions of PText say, for every text of fewer than 2^62 bytes; nothing that was there is changed. Condition: the package num's table of widths holds 1, 2, 4, 8.
-/
namespace Go.Proofs.YtllgkohgcicbhaaGreatDoor
open Go.RowKit

theorem lay_any (k : Int) (s : ByteArray) (w : World) (hw : Wid w) (hk : isW k = true) (hs : s.size < 4611686018427387904) :
    Calls Tryz.prog 139 #[.int .i64 k, .string s] w fun e w' => e = .returned (.tuple #[.string (layR k s), .int .i64 (layE k s)]) ∧ Below w.heap.size w w' := by
  go_enter Tryz.func139, Tryz.ntmps139
  go_wp2_with fail
  refine (put_any k s.size w hw (by omega) (by omega)).mono ?_
  rintro e w1 ⟨rfl, hb⟩
  cases h : layOk k s
  · have h' : putOk k s.size = false := h
    obtain ⟨t1, -⟩ := putE_not h'
    have H := Lib.hid h
    clear h h'
    go_wp2
    go_ret2
    exact ⟨by simp [layR, layE, H.out], hb⟩
  · have h' : putOk k s.size = true := h
    rw [putE_of h']
    have s1 : (putR k s.size).size ≤ 8 := by have := putR_size h'; have := isW_nat hk; omega
    have H := Lib.hid h
    clear h h'
    go_wp2
    go_ret2
    refine ⟨?_, hb⟩
    rw [layR_of H.out, layE_of H.out]
    rfl

theorem ttake_any (k : Int) (s : ByteArray) (w : World) (hw : Wid w) (hs : s.size < 4611686018427387904) :
    Calls Tryz.prog 147 #[.int .i64 k, .string s] w fun e w' => e = .returned (.tuple #[.string (ttA k s), .string (ttR k s), .int .i64 (ttE k s)]) ∧ Below w.heap.size w w' := by
  go_enter Tryz.func147, Tryz.ntmps147
  go_wp2_with fail
  refine (take_any s k w hw).mono ?_
  rintro e w1 ⟨rfl, hb⟩
  cases h : takeOk s k
  · obtain ⟨t1, -⟩ := takeE_not h
    have H := Lib.hid h
    clear h
    go_wp2
    go_ret3
    exact ⟨by simp [ttA, ttR, ttE, H.out], hb⟩
  · rw [takeE_of h]
    have H := Lib.hid h
    clear h
    go_wp2_with fail
    refine (skip_any _ _ w1 (takeV_nonneg s k) (by have := takeR_le s k; unfold maxLen; omega)).mono ?_
    rintro e w2 ⟨rfl, hb2⟩
    go_wp2
    go_ret3
    exact ⟨by simp [ttA, ttR, ttE, H.out], hb.trans (hb2.mono hb.size)⟩

theorem short_any (s : ByteArray) (w : World) (hw : Wid w) (hs : s.size < 4611686018427387904) :
    Calls Tryz.prog 125 #[.string s] w fun e w' => e = .returned (.tuple #[.string (layR 1 s), .int .i64 (layE 1 s)]) ∧ Below w.heap.size w w' := by
  go_enter Tryz.func125, Tryz.ntmps125
  go_wp2_with fail
  refine (lay_any 1 s w hw (by decide) hs).mono ?_
  rintro e w1 ⟨rfl, hb⟩
  go_wp2
  go_ret2
  exact ⟨rfl, hb⟩
theorem takeShort_any (s : ByteArray) (w : World) (hw : Wid w) (hs : s.size < 4611686018427387904) :
    Calls Tryz.prog 131 #[.string s] w fun e w' => e = .returned (.tuple #[.string (ttA 1 s), .string (ttR 1 s), .int .i64 (ttE 1 s)]) ∧ Below w.heap.size w w' := by
  go_enter Tryz.func131, Tryz.ntmps131
  go_wp2_with fail
  refine (ttake_any 1 s w hw hs).mono ?_
  rintro e w1 ⟨rfl, hb⟩
  go_wp2
  go_ret3
  exact ⟨rfl, hb⟩
theorem takeLong_any (s : ByteArray) (w : World) (hw : Wid w) (hs : s.size < 4611686018427387904) :
    Calls Tryz.prog 148 #[.string s] w fun e w' => e = .returned (.tuple #[.string (ttA 4 s), .string (ttR 4 s), .int .i64 (ttE 4 s)]) ∧ Below w.heap.size w w' := by
  go_enter Tryz.func148, Tryz.ntmps148
  go_wp2_with fail
  refine (ttake_any 4 s w hw hs).mono ?_
  rintro e w1 ⟨rfl, hb⟩
  go_wp2
  go_ret3
  exact ⟨rfl, hb⟩
end Go.Proofs.YtllgkohgcicbhaaGreatDoor

/-
  text.Long answers as the plain functions of PText say, for every text of fewer than 2^62 bytes; nothing that was there is changed. Condition: the package num's table of widths holds 1, 2, 4, 8.
-/
namespace Go.Proofs.YtllgkohgcicbhaaGreatDoor
open Go.RowKit

theorem long_any (s : ByteArray) (w : World) (hw : Wid w) (hs : s.size < 4611686018427387904) :
    Calls Tryz.prog 138 #[.string s] w fun e w' => e = .returned (.tuple #[.string (layR 4 s), .int .i64 (layE 4 s)]) ∧ Below w.heap.size w w' := by
  go_enter Tryz.func138, Tryz.ntmps138
  go_wp2_with fail
  refine (lay_any 4 s w hw (by decide) hs).mono ?_
  rintro e w1 ⟨rfl, hb⟩
  go_wp2
  go_ret2
  exact ⟨rfl, hb⟩
end Go.Proofs.YtllgkohgcicbhaaGreatDoor

/-
  num.bytesOf answers how many bytes so many bits need; it leaves the world as it was. No condition but that the number is far below the greatest int.
-/
namespace Go.Proofs.YtllgkohgcicbhaaGreatDoor
open Go.RowKit

/-- how many bytes n bits need -/
theorem bytesOf_any (n : Int) (w : World) (h0 : 0 ≤ n) (h1 : n ≤ 9223372036854775800) :
    Calls Tryz.prog 120 #[.int .i64 n] w fun e w' => e = .returned (.int .i64 ((n + 7) / 8)) ∧ w = w' := by
  go_enter Tryz.func120, Tryz.ntmps120
  go_wp2
  go_ret
  exact ⟨rfl, rfl⟩

end Go.Proofs.YtllgkohgcicbhaaGreatDoor

/-
  num.Bits answers bits' bytes.
-/
namespace Go.Proofs.YtllgkohgcicbhaaGreatDoor
open Go.RowKit

set_option maxHeartbeats 400000 in
theorem bits1_any (k N g B : Nat) (x : Int) (w : World) (hk : k < 1125899906842624) (hN : k / 8 < N)
    (hB : w.cell? ⟨B, 0, none⟩ = some (.slice (some ⟨g, 0, none⟩) N N)) (hg : w.cell? ⟨g, k / 8, none⟩ = some (.int .u8 x)) (hf : w.frozen? ⟨g, k / 8, none⟩ = false) :
    Calls Tryz.prog 121 #[.int .i64 k, .pointer (some ⟨B, 0, none⟩)] w fun e w' => e = .returned (.tuple #[]) ∧ w' = (w.setCell ⟨g, k / 8, none⟩ (.int .u8 (bits .or .u8 x (2 ^ (k % 8) % 256)))).drew := by
  go_enter Tryz.func121, Tryz.ntmps121
  go_wp2
  go_region
  go_wp2
  go_end0
  exact ⟨rfl, rfl⟩

/-- the cells of the bytes, after k bits -/
def bitCells (l : List Bool) (k N : Nat) : Array Value := ((List.range N).map fun j => Value.int .u8 (bitK l k j : Int)).toArray
theorem bitCells_at (l : List Bool) (k N j : Nat) (h : j < N) : (bitCells l k N)[j]? = some (.int .u8 (bitK l k j : Int)) := by
  simp [bitCells, h]
theorem bitCells_set (l : List Bool) (k N : Nat) (h : l.getD k false = true) :
    (bitCells l k N).setIfInBounds (k / 8) (.int .u8 (bits .or .u8 (bitK l k (k / 8) : Int) (2 ^ (k % 8) % 256))) = bitCells l (k + 1) N := by
  rw [or_bit l k h]
  apply Array.ext
  · simp [bitCells]
  · intro i h1 h2
    have hi : i < N := by simpa [bitCells] using h2
    rw [Array.getElem_setIfInBounds (by simpa [bitCells] using hi)]
    split
    · rename_i e
      subst e
      simp [bitCells]
    · rename_i e
      simp [bitCells, bitK_far l k i e]
theorem bitCells_same (l : List Bool) (k N : Nat) (h : l.getD k false = false) : bitCells l k N = bitCells l (k + 1) N := by
  simp [bitCells, bitK_off l k _ h]
theorem bitCells_zero (l : List Bool) (N : Nat) : madeCells #[.int .u8 0] N = bitCells l 0 N := by
  apply Array.ext
  · simp [bitCells, size_madeCells]
  · intro i h1 h2
    simp [bitCells, madeCells, bitK_zero, Nat.mod_one]

set_option maxHeartbeats 400000 in
theorem bits_any (A : Option Addr) (cap : Nat) (l : List Bool) (w : World) (hl : l.length < 1125899906842624) (h : BoolsAt w A l) :
    Calls Tryz.prog 91 #[.slice A l.length cap] w fun e w' => e = .returned (.string (bitsS l)) ∧ Below w.heap.size w w' := by
  obtain ⟨i0, hi, hz0, hz1, hz2⟩ := info_parts (show (Tryz.prog.info? 5).map (fun i => (i.zero, i.size, i.bytes)) = some (some (.int .u8 0), 1, 1) by kernel_rfl)
  have hmk : ∀ u : World, (Instr.makeSlice 59 (.int .i64 (((l.length : Int) + 7) / 8)) (.int .i64 (((l.length : Int) + 7) / 8))).run Tryz.prog u =
      .ok (.slice (some ⟨u.heap.size, 0, none⟩) ((l.length + 7) / 8) ((l.length + 7) / 8)) (u.alloc (.cells (bitCells l 0 ((l.length + 7) / 8)) 5)) := fun u => by
    have h := run_make (P := Tryz.prog) u 59 5 i0 (.int .u8 0) Tryz.underlying59 hi hz0 .i64 .i64 (((l.length : Int) + 7) / 8) (((l.length : Int) + 7) / 8) (by omega) (Int.le_refl _) (by rw [hz2]; omega) (by omega)
    have e : (((l.length : Int) + 7) / 8).toNat = (l.length + 7) / 8 := by omega
    rw [e] at h
    rw [← bitCells_zero]
    simpa [hz1, Value.cells] using h
  have hmf : ∀ (fn : Fn) (first cap : Array Value) (w : World), (Instr.makeFunc fn first cap).run Tryz.prog w = .ok (.func fn first cap) w := fun _ _ _ _ => rfl
  go_enter Tryz.func91, Tryz.ntmps91
  go_wp2_with (first | (go_at_call 120; refine (bytesOf_any _ _ (by omega) (by omega)).mono ?_; rintro e w' ⟨rfl, rfl⟩))
  go_loopw [13] (fun v13 wr => ∃ k : Nat, k ≤ l.length ∧ v13 = .int .i64 k ∧ Below w.heap.size w wr ∧ Box wr w.heap.size 5 (bitCells l k ((l.length + 7) / 8)) ∧
      Box wr (w.heap.size + 1) 59 #[Value.slice (some ⟨w.heap.size, 0, none⟩) ((l.length + 7) / 8) ((l.length + 7) / 8)]) (fun v13 _ => l.length - (intOf v13).toNat)
  case atStart =>
    refine ⟨0, Nat.zero_le _, rfl, ((Below.refl _ _).alloc (Nat.le_refl _) _).alloc (by simp) _, (Box.new w _ _).alloc _, ?_⟩
    exact (Box.new (w.alloc _) _ _).at_ (by simp)
  case round =>
    obtain ⟨k, hk, rfl, hb, hx, hy⟩ := hrel
    have hy0 := hy.cell 0
    by_cases hlt : k < l.length
    · obtain ⟨b, off, rfl, hbl, hc⟩ := h (by omega)
      have hck := (hb.cell (p := ⟨b, off + k, none⟩) hbl).trans (hc k hlt)
      have hj : k / 8 < (l.length + 7) / 8 := by omega
      have hxk := (hx.cell (k / 8)).trans (bitCells_at l k _ _ hj)
      have hfk := hx.free (k / 8)
      have hbound := bitK_lt l k (k / 8)
      clear hc h hmk hmf
      have hgd : l.getD k false = l[k] := by simp [List.getD, hlt]
      have Hgd := Lib.hid hgd
      clear hgd
      cases hv : l[k]
      · rw [hv] at hck
        rw [hv] at Hgd
        have Hx := Lib.hid hx
        have Hy := Lib.hid hy
        clear hx hy hv
        go_wp2
        go_roundw
        case rel => exact ⟨k + 1, by omega, by go_num, hb, (bitCells_same l k _ Hgd.out) ▸ Hx.out, Hy.out⟩
        case measure => simp [intOf]; omega
      · rw [hv] at hck
        rw [hv] at Hgd
        have Hx := Lib.hid hx
        have Hy := Lib.hid hy
        clear hx hy hv
        go_wp2_with (first | (go_at_call 121; refine (bits1_any k _ w.heap.size (w.heap.size + 1) _ _ (by omega) hj hy0 hxk hfk).mono ?_; rintro e w' ⟨rfl, rfl⟩))
        go_roundw
        case rel => exact ⟨k + 1, by omega, by go_num, (hb.setCell (Nat.le_refl _) _).drew, (bitCells_set l k _ Hgd.out) ▸ (Hx.out.set _ _).drew, (Hy.out.apart (by simp) _).drew⟩
        case measure => simp [intOf]; omega
    · obtain rfl : k = l.length := by omega
      have hcv := run_convert_bytes_arg (P := Tryz.prog) wr 59 5 Tryz.underlying59 Tryz.underlying5 w.heap.size 0 ((l.length + 7) / 8) ((l.length + 7) / 8) ((List.range ((l.length + 7) / 8)).map fun j => (bitK l l.length j : Int)) (by simp) (fun i hi => by
        rw [Nat.zero_add, hx.cell i, bitCells_at _ _ _ _ hi]
        simp [hi]) 9 Tryz.underlying9
      clear hmk hmf
      have Hx := Lib.hid hx
      have Hy := Lib.hid hy
      clear hx hy
      go_wp2
      go_ret
      refine ⟨congrArg (fun s : ByteArray => Ending.returned (.string s)) (?_ : _ = bitsS l), hb⟩
      simp [strOfNums, bitsS, bitsL]
end Go.Proofs.YtllgkohgcicbhaaGreatDoor

/-
  num.TakeBits answers the bits, and the rest, or why not; nothing that was there is changed. Condition: a text's length is an int.
-/
namespace Go.Proofs.YtllgkohgcicbhaaGreatDoor
open Go.RowKit

theorem quiet_same {P : Program} {f : FuncId} {args : Array Value} {w : World} {n : Nat} {v : Value}
    (h : Calls P f args (w.drewN n) fun e w' => e = .returned v ∧ w.drewN n = w') : Calls P f args (w.drewN n) fun e w'' => e = .returned v ∧ ∃ m, w'' = w.drewN m :=
  h.mono fun _ _ ⟨he, hm⟩ => ⟨he, n, hm.symm⟩

theorem fault_low (s : ByteArray) (n : Int) (w : World) (hn : n < 0) :
    Calls Tryz.prog 146 #[.string s, .int .i64 n] w fun e w' => e = .returned (.int .i64 1) ∧ w = w' := by
  go_enter Tryz.func146, Tryz.ntmps146
  go_wp2_with fail
  go_ret
  exact ⟨rfl, rfl⟩
theorem fault_high (s : ByteArray) (n : Int) (w : World) (hn : 64 < n) :
    Calls Tryz.prog 146 #[.string s, .int .i64 n] w fun e w' => e = .returned (.int .i64 1) ∧ w = w' := by
  go_enter Tryz.func146, Tryz.ntmps146
  go_wp2_with fail
  go_ret
  exact ⟨rfl, rfl⟩
theorem fault_more (s : ByteArray) (k : Nat) (w : World) (hn : k ≤ 64) (hs : s.size < (k + 7) / 8) :
    Calls Tryz.prog 146 #[.string s, .int .i64 k] w fun e w' => e = .returned (.int .i64 2) ∧ w = w' := by
  go_enter Tryz.func146, Tryz.ntmps146
  go_wp2_with (first | (go_at_call 120; refine (bytesOf_any _ _ (by omega) (by omega)).mono ?_; rintro e w' ⟨rfl, rfl⟩))
  go_ret
  exact ⟨rfl, rfl⟩
theorem fault_whole (s : ByteArray) (k : Nat) (w : World) (hn : k ≤ 64) (hs : (k + 7) / 8 ≤ s.size) (h8 : k % 8 = 0) :
    Calls Tryz.prog 146 #[.string s, .int .i64 k] w fun e w' => e = .returned (.int .i64 0) ∧ w = w' := by
  have h8' : (((k : Int) % 8) != 0) = false := by simp; omega
  clear h8
  go_enter Tryz.func146, Tryz.ntmps146
  go_wp2_with (first | (go_at_call 120; refine (bytesOf_any _ _ (by omega) (by omega)).mono ?_; rintro e w' ⟨rfl, rfl⟩))
  go_ret
  exact ⟨rfl, rfl⟩
theorem fault_tidy (s : ByteArray) (k : Nat) (w : World) (hn : k ≤ 64) (hs : (k + 7) / 8 ≤ s.size) (h8 : k % 8 ≠ 0) (ht : tidy s k = true) :
    Calls Tryz.prog 146 #[.string s, .int .i64 k] w fun e w' => e = .returned (.int .i64 0) ∧ w = w' := by
  have h8' : (((k : Int) % 8) != 0) = true := by simp; omega
  have hlt : k / 8 < s.size := by omega
  have ht' := tidy_go s k hlt h8
  rw [ht] at ht'
  simp only [Bool.not_true] at ht'
  clear ht h8
  go_enter Tryz.func146, Tryz.ntmps146
  go_wp2_with (first | (go_at_call 120; refine (bytesOf_any _ _ (by omega) (by omega)).mono ?_; rintro e w' ⟨rfl, rfl⟩))
  go_ret
  exact ⟨rfl, rfl⟩
theorem fault_dirty (s : ByteArray) (k : Nat) (w : World) (hn : k ≤ 64) (hs : (k + 7) / 8 ≤ s.size) (h8 : k % 8 ≠ 0) (ht : tidy s k = false) :
    Calls Tryz.prog 146 #[.string s, .int .i64 k] w fun e w' => e = .returned (.int .i64 3) ∧ w = w' := by
  have h8' : (((k : Int) % 8) != 0) = true := by simp; omega
  have hlt : k / 8 < s.size := by omega
  have ht' := tidy_go s k hlt h8
  rw [ht] at ht'
  simp only [Bool.not_false] at ht'
  clear ht h8
  go_enter Tryz.func146, Tryz.ntmps146
  go_wp2_with (first | (go_at_call 120; refine (bytesOf_any _ _ (by omega) (by omega)).mono ?_; rintro e w' ⟨rfl, rfl⟩))
  go_ret
  exact ⟨rfl, rfl⟩
theorem fault_any (s : ByteArray) (n : Int) (w : World) :
    Calls Tryz.prog 146 #[.string s, .int .i64 n] w fun e w' => e = .returned (.int .i64 (tbE s n)) ∧ w = w' := by
  unfold tbE
  by_cases h0 : n < 0
  · rw [if_pos h0]; exact fault_low s n w h0
  rw [if_neg h0]
  by_cases h1 : 64 < n
  · rw [if_pos h1]; exact fault_high s n w h1
  rw [if_neg h1]
  obtain ⟨k, rfl⟩ := Int.eq_ofNat_of_zero_le (show 0 ≤ n by omega)
  by_cases h2 : (s.size : Int) < ((k : Int) + 7) / 8
  · rw [if_pos h2]; exact fault_more s k w (by omega) (by omega)
  rw [if_neg h2, Int.toNat_natCast]
  by_cases h8 : k % 8 = 0
  · rw [if_pos (by simp [tidy, h8])]; exact fault_whole s k w (by omega) (by omega) h8
  cases ht : tidy s k
  · rw [if_neg (by simp)]; exact fault_dirty s k w (by omega) (by omega) h8 ht
  · rw [if_pos rfl]; exact fault_tidy s k w (by omega) (by omega) h8 ht

/-- the cells of the bits, after k of n -/
def tbCells (s : ByteArray) (k n : Nat) : Array Value := ((List.range n).map fun i => Value.bool (decide (i < k) && bitAt s i)).toArray
theorem tbCells_at (s : ByteArray) (k n i : Nat) (h : i < n) : (tbCells s k n)[i]? = some (.bool (decide (i < k) && bitAt s i)) := by
  simp [tbCells, h]
theorem tbCells_set (s : ByteArray) (k n : Nat) : (tbCells s k n).setIfInBounds k (.bool (bitAt s k)) = tbCells s (k + 1) n := by
  apply Array.ext
  · simp [tbCells]
  · intro i h1 h2
    have hi : i < n := by simpa [tbCells] using h2
    rw [Array.getElem_setIfInBounds (by simpa [tbCells] using hi)]
    split
    · rename_i e
      subst e
      simp [tbCells]
    · rename_i e
      have : decide (i < k + 1) = decide (i < k) := by simp; omega
      simp [tbCells, this]
theorem tbCells_zero (s : ByteArray) (n : Nat) : madeCells #[.bool false] n = tbCells s 0 n := by
  apply Array.ext
  · simp [tbCells, size_madeCells]
  · intro i h1 h2
    simp [tbCells, madeCells, Nat.mod_one]

/-- what TakeBits answers -/
def TB (s : ByteArray) (n : Int) (w : World) (e : Ending) (w' : World) : Prop :=
  ∃ A c, e = .returned (.tuple #[.slice A (tbL s n).length c, .string (tbR s n), .int .i64 (tbE s n)]) ∧ BoolsAt w' A (tbL s n) ∧ Below w.heap.size w w'

theorem takeBits_not (s : ByteArray) (n : Int) (w : World) (h : tbE s n ≠ 0) : Calls Tryz.prog 128 #[.string s, .int .i64 n] w (TB s n w) := by
  have h' : (tbE s n != 0) = true := by simpa using h
  have hL : tbL s n = [] := by simp [tbL, h]
  have hR : tbR s n = ⟨#[]⟩ := by simp [tbR, h]
  have HL := Lib.hid hL
  have HR := Lib.hid hR
  clear h hL hR
  go_enter Tryz.func128, Tryz.ntmps128
  go_wp2_with (first | (go_at_call 146; refine (fault_any _ _ _).mono ?_; rintro e w' ⟨rfl, rfl⟩))
  go_ret3
  refine ⟨none, 0, ?_, ?_, Below.refl _ _⟩
  · rw [HL.out, HR.out]; rfl
  · rw [HL.out]; intro h; simp at h

set_option maxHeartbeats 400000 in
set_option maxRecDepth 100000 in
theorem takeBits_ok (s : ByteArray) (k : Nat) (w : World) (hk : k ≤ 64) (hs : (k + 7) / 8 ≤ s.size) (h : tbE s k = 0) : Calls Tryz.prog 128 #[.string s, .int .i64 k] w (TB s k w) := by
  have h' : (tbE s k != 0) = false := by simpa using h
  have HL := Lib.hid (show tbL s k = bitsOf s k by simp [tbL, h])
  have HR := Lib.hid (show tbR s k = s.extract ((k + 7) / 8) s.size by simp [tbR, h])
  have HE := Lib.hid h
  clear h
  obtain ⟨i0, hi, hz0, hz1, hz2⟩ := info_parts (show (Tryz.prog.info? 4).map (fun i => (i.zero, i.size, i.bytes)) = some (some (.bool false), 1, 1) by kernel_rfl)
  have hmk : ∀ u : World, (Instr.makeSlice 91 (.int .i64 (k : Int)) (.int .i64 (k : Int))).run Tryz.prog u =
      .ok (.slice (some ⟨u.heap.size, 0, none⟩) k k) (u.alloc (.cells (tbCells s 0 k) 4)) := fun u => by
    have h := run_make (P := Tryz.prog) u 91 4 i0 (.bool false) Tryz.underlying91 hi hz0 .i64 .i64 k k (by omega) (Int.le_refl _) (by rw [hz2]; omega) (by omega)
    rw [Int.toNat_natCast] at h
    rw [← tbCells_zero]
    simpa [hz1, Value.cells] using h
  go_enter Tryz.func128, Tryz.ntmps128
  go_wp2_with (first | (go_at_call 146; refine (fault_any _ _ _).mono ?_; rintro e w' ⟨rfl, rfl⟩))
  go_loopw [19] (fun v wr => ∃ j : Nat, j ≤ k ∧ v = .int .i64 j ∧ Below w.heap.size w wr ∧ Box wr w.heap.size 4 (tbCells s j k)) (fun v _ => k - (intOf v).toNat)
  case atStart => exact ⟨0, Nat.zero_le _, rfl, (Below.refl _ _).alloc (Nat.le_refl _) _, Box.new w _ _⟩
  case round =>
    obtain ⟨j, hj, rfl, hb, hx⟩ := hrel
    clear hmk
    by_cases hlt : j < k
    · have hj8 : j / 8 < s.size := by omega
      have hcj := (hx.cell j).trans (tbCells_at s j k j hlt)
      have hfj := hx.free j
      have HB := Lib.hid (bit_go s j hj8)
      have Hx := Lib.hid hx
      clear hx
      go_wp2
      go_roundw
      case rel => exact ⟨j + 1, by omega, by go_num, hb.setCell (Nat.le_refl _) _, by rw [HB.out]; exact (tbCells_set s j k) ▸ Hx.out.set _ _⟩
      case measure => simp [intOf]; omega
    · obtain rfl : j = k := by omega
      have Hx := Lib.hid hx
      clear hx
      go_wp2
      go_quiet ((go_at_call 120; exact quiet_same (bytesOf_any _ _ (by omega) (by omega))))
      go_wp2
      go_ret3
      refine ⟨some ⟨w.heap.size, 0, none⟩, j, ?_, fun _ => ⟨w.heap.size, 0, rfl, (Hx.out.drewN nq).lt, fun i hi => ?_⟩, below_drewN hb _⟩
      · rw [HL.out, HR.out, HE.out, bitsOf_length]; rfl
      · have hi' : i < j := by rw [HL.out, bitsOf_length] at hi; exact hi
        rw [Nat.zero_add, (Hx.out.drewN nq).cell i, tbCells_at s j j i hi']
        simp [HL.out, bitsOf, hi']

theorem takeBits_any (s : ByteArray) (n : Int) (w : World) : Calls Tryz.prog 128 #[.string s, .int .i64 n] w (TB s n w) := by
  by_cases h : tbE s n = 0
  · have h' := h
    unfold tbE at h'
    by_cases h0 : n < 0
    · rw [if_pos h0] at h'; omega
    rw [if_neg h0] at h'
    by_cases h1 : 64 < n
    · rw [if_pos h1] at h'; omega
    rw [if_neg h1] at h'
    obtain ⟨k, rfl⟩ := Int.eq_ofNat_of_zero_le (show 0 ≤ n by omega)
    by_cases h2 : (s.size : Int) < ((k : Int) + 7) / 8
    · rw [if_pos h2] at h'; omega
    exact takeBits_ok s k w (by omega) (by omega) h
  · exact takeBits_not s n w h
end Go.Proofs.YtllgkohgcicbhaaGreatDoor

/-
  A row of frames, cell by cell. No condition.
-/
namespace Go.Proofs.YtllgkohgcicbhaaGreatDoor
open Go.RowKit

/-- a frame as it stands in memory -/
def encFr (f : Fr) : Value := .agg #[.int .i64 f.t, .int .i64 f.c, .string f.d]
theorem infoFrame : (Tryz.prog.info? 33).map (fun i => (i.zero, i.size, i.bytes)) = some (some (.agg #[.int .i64 0, .int .i64 0, .string ⟨#[]⟩]), 3, 32) := by kernel_rfl
/-- a row of frames, cell by cell -/
def cellsFr (f : Fr) : List Value := [.int .i64 f.t, .int .i64 f.c, .string f.d]
def rowFr (l : List Fr) : List Value := l.flatMap cellsFr
theorem rowFr_snoc (l : List Fr) (f : Fr) : rowFr (l ++ [f]) = rowFr l ++ [.int .i64 f.t, .int .i64 f.c, .string f.d] := by simp [rowFr, cellsFr]
theorem rowFr_length (l : List Fr) : (rowFr l).length = l.length * 3 := by
  induction l with
  | nil => rfl
  | cons f l ih => simp [rowFr, cellsFr] at ih ⊢; omega
theorem cell_three_new (w : World) (x y z : Value) (t : TypeId) : ∀ j u, [x, y, z][j]? = some u → (w.alloc (.cells #[x, y, z] t)).cell? ((⟨w.heap.size, 0, none⟩ : Addr).add j) = some u := by
  intro j u hj
  match j, hj with
  | 0, hj => simp at hj; subst hj; simp [Addr.add]
  | 1, hj => simp at hj; subst hj; simp [Addr.add]
  | 2, hj => simp at hj; subst hj; simp [Addr.add]
theorem info_parts3 {P : Program} {t : TypeId} {z : Option Value} {a b : Nat} (h : (P.info? t).map (fun i => (i.zero, i.size, i.bytes)) = some (z, a, b)) : ∃ i, P.info? t = some i ∧ i.zero = z ∧ i.size = a ∧ i.bytes = b := by
  obtain ⟨i, hi, he⟩ := Option.map_eq_some_iff.1 h
  simp only [Prod.mk.injEq] at he
  exact ⟨i, hi, he.1, he.2.1, he.2.2⟩
end Go.Proofs.YtllgkohgcicbhaaGreatDoor

/-
  Rows of frames in memory. No condition.
-/
namespace Go.Proofs.YtllgkohgcicbhaaGreatDoor
open Go.RowKit

theorem vals_of_row3 {w : World} {base : Nat} {e : TypeId} {v : Value} {l : List Value} {n : Nat} (h : w.ownsRow base e 3 v n l) : ∃ A c, v = .slice A n c ∧ ValsAt w A l ∧ (A = none → n = 0 ∧ c = 0) ∧ n ≤ c := by
  obtain ⟨hlen, ⟨rfl, h0⟩ | ⟨g, cap, cur, rfl, hg, hb, hn, hc, hs, ht⟩⟩ := h
  · exact ⟨none, 0, by rw [h0], (fun h => by omega), fun _ => ⟨h0, rfl⟩, by omega⟩
  · refine ⟨_, cap, rfl, fun _ => ⟨g, 0, rfl, (Array.getElem?_eq_some_iff.1 hb).1, fun i hi => ?_⟩, (fun h => by cases h), hn⟩
    have e1 : w.cell? ⟨g, 0 + i, none⟩ = cur[i]? := by simp [World.cell?, hb]
    rw [e1]
    have h2 : (List.take (n * 3) cur.toList)[i]? = some l[i] := by rw [ht]; exact List.getElem?_eq_getElem hi
    rw [List.getElem?_take] at h2
    split at h2
    · rw [← h2, Array.getElem?_toList]
    · cases h2
/-- the three cells of the frame k -/
theorem row_cells (l : List Fr) : ∀ (k : Nat) (h : k < l.length), (rowFr l)[k * 3]? = some (.int .i64 l[k].t) ∧ (rowFr l)[k * 3 + 1]? = some (.int .i64 l[k].c) ∧ (rowFr l)[k * 3 + 2]? = some (.string l[k].d) := by
  induction l with
  | nil => intro k h; cases h
  | cons f l ih =>
    intro k h
    have e : rowFr (f :: l) = [.int .i64 f.t, .int .i64 f.c, .string f.d] ++ rowFr l := by simp [rowFr, cellsFr]
    cases k with
    | zero => rw [e]; simp
    | succ k =>
      obtain ⟨h1, h2, h3⟩ := ih k (by simpa using h)
      rw [e]
      refine ⟨?_, ?_, ?_⟩
      · rw [show (k + 1) * 3 = k * 3 + 1 + 1 + 1 by omega]
        simpa using h1
      · rw [show (k + 1) * 3 + 1 = (k * 3 + 1) + 1 + 1 + 1 by omega]
        simpa using h2
      · rw [show (k + 1) * 3 + 2 = (k * 3 + 2) + 1 + 1 + 1 by omega]
        simpa using h3
theorem vals_frame {w : World} {A : Option Addr} {l : List Fr} (h : ValsAt w A (rowFr l)) (k : Nat) (hk : k < l.length) :
    ∃ b off, A = some ⟨b, off, none⟩ ∧ b < w.heap.size ∧ ∀ w', Below w.heap.size w w' → w'.cell? ⟨b, off + k * 3, none⟩ = some (.int .i64 l[k].t) ∧ w'.cell? ⟨b, off + k * 3 + 1, none⟩ = some (.int .i64 l[k].c) ∧ w'.cell? ⟨b, off + k * 3 + 2, none⟩ = some (.string l[k].d) := by
  have hl := rowFr_length l
  obtain ⟨b, off, hA, hlt, hc⟩ := h (by omega)
  refine ⟨b, off, hA, hlt, fun w' hb => ?_⟩
  obtain ⟨h1, h2, h3⟩ := row_cells l k hk
  have g : ∀ i v, (rowFr l)[i]? = some v → w'.cell? ⟨b, off + i, none⟩ = some v := fun i v hv => by
    obtain ⟨hi, he⟩ := List.getElem?_eq_some_iff.1 hv
    rw [hb.cell (p := ⟨b, off + i, none⟩) hlt, hc i hi, he]
  exact ⟨g _ _ h1, g _ _ h2, g _ _ h3⟩
end Go.Proofs.YtllgkohgcicbhaaGreatDoor
