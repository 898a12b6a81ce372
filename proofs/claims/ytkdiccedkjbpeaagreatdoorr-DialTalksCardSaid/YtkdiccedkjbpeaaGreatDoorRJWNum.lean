/-
  Several texts joined in one file: each says at its own head, below, what it proves, and its conditions.
-/
import Derived.Test.YtkdiccedkjbpeaaGreatDoorRRows
import Derived.Handy
import Derived.WalkKit
import Derived.WalkSpells
import Derived.WalkLawsBesides
import Derived.Lib.Hide
import Derived.Test.YtkdiccedkjbpeaaGreatDoorRJBits
import Derived.Laws.BytesArg
import Derived.Laws.BitsAllLaws
import Derived.Deep.QuietTactic
import Derived.BigQuiet
import Derived.WalkSmall
/-
  num.isWidth answers whether a number is 1, 2, 4 or 8; it leaves the world as it was. Condition: the package's table of widths holds 1, 2, 4, 8.
-/
namespace Go.Proofs.YtkdiccedkjbpeaaGreatDoorR
open Go.RowKit

/-- is it a width? -/
def isW (n : Int) : Bool := n == 1 || n == 2 || n == 4 || n == 8

/-- the table of widths is there -/
structure Wid (w : World) : Prop where
  c0 : w.cell? ⟨1, 0, none⟩ = some (.int .i64 1)
  c1 : w.cell? ⟨1, 1, none⟩ = some (.int .i64 2)
  c2 : w.cell? ⟨1, 2, none⟩ = some (.int .i64 4)
  c3 : w.cell? ⟨1, 3, none⟩ = some (.int .i64 8)

set_option maxHeartbeats 400000 in
theorem isWidth_any (n : Int) (w : World) (hw : Wid w) :
    Calls Tryz.prog 103 #[.int .i64 n] w fun e w' => e = .returned (.bool (isW n)) ∧ w = w' := by
  obtain ⟨c0, c1, c2, c3⟩ := hw
  have i0 : ∀ w, (Instr.index 149 (.agg #[.int .i64 1, .int .i64 2, .int .i64 4, .int .i64 8]) (.int .i64 0)).run Tryz.prog w = .ok (.int .i64 1) w := fun _ => by kernel_rfl
  have i1 : ∀ w, (Instr.index 149 (.agg #[.int .i64 1, .int .i64 2, .int .i64 4, .int .i64 8]) (.int .i64 1)).run Tryz.prog w = .ok (.int .i64 2) w := fun _ => by kernel_rfl
  have i2 : ∀ w, (Instr.index 149 (.agg #[.int .i64 1, .int .i64 2, .int .i64 4, .int .i64 8]) (.int .i64 2)).run Tryz.prog w = .ok (.int .i64 4) w := fun _ => by kernel_rfl
  have i3 : ∀ w, (Instr.index 149 (.agg #[.int .i64 1, .int .i64 2, .int .i64 4, .int .i64 8]) (.int .i64 3)).run Tryz.prog w = .ok (.int .i64 8) w := fun _ => by kernel_rfl
  go_enter Tryz.func103, Tryz.ntmps103
  go_wp2
  go_rounds 5
  all_goals (go_ret; refine ⟨?_, rfl⟩; simp_all [isW])

theorem Wid.below {w w' : World} (h : Wid w) (hb : Below w.heap.size w w') : Wid w' := by
  have hlt : 1 < w.heap.size := by
    rcases Nat.lt_or_ge 1 w.heap.size with k | k
    · exact k
    · have := h.c0; simp [World.cell?, Array.getElem?_eq_none k] at this
  exact ⟨(hb.cell hlt).trans h.c0, (hb.cell hlt).trans h.c1, (hb.cell hlt).trans h.c2, (hb.cell hlt).trans h.c3⟩

end Go.Proofs.YtkdiccedkjbpeaaGreatDoorR

/-
  num.Put answers a number's bytes, the highest first, or why not; nothing that was there is changed. Condition: the package's table of widths holds 1, 2, 4, 8.
-/
namespace Go.Proofs.YtkdiccedkjbpeaaGreatDoorR
open Go.RowKit

theorem put_arg (n : Int) (v : Int) (w : World) (hw : Wid w) (hn : isW n = false) :
    Calls Tryz.prog 80 #[.int .i64 n, .int .u64 v] w fun e w' => e = .returned (.tuple #[.string ⟨#[]⟩, .int .i64 1]) ∧ w = w' := by
  go_enter Tryz.func80, Tryz.ntmps80
  go_wp2_with (go_at_call 103; refine (isWidth_any _ _ hw).mono ?_; rintro e w' ⟨rfl, rfl⟩)
  go_ret2
  exact ⟨rfl, rfl⟩

/-- 'string(b)' of bytes in a block of their own -/
theorem conv_own (w : World) (xs : List Int) (cap : Nat) :
    (convert 111 9 (.slice (some ⟨w.heap.size, 0, none⟩) xs.length cap)).run Tryz.prog (w.alloc (.cells (xs.map (Value.int .u8)).toArray 5)) = .ok (.string (strOfNums xs)) (w.alloc (.cells (xs.map (Value.int .u8)).toArray 5)) := by
  refine run_convert_bytes_arg (P := Tryz.prog) _ 111 5 Tryz.underlying111 Tryz.underlying5 w.heap.size 0 xs.length cap xs rfl (fun i hi => ?_) 9 Tryz.underlying9
  rw [World.cell?_alloc_new]
  simp [hi]

theorem put_big (n : Int) (v : Int) (w : World) (hw : Wid w) (hn : isW n = true) (h0 : 0 ≤ v) (hv : 256 ^ n.toNat ≤ v) (h1 : v < 18446744073709551616) :
    Calls Tryz.prog 80 #[.int .i64 n, .int .u64 v] w fun e w' => e = .returned (.tuple #[.string ⟨#[]⟩, .int .i64 4]) ∧ w = w' := by
  have h : n = 1 ∨ n = 2 ∨ n = 4 ∨ n = 8 := by simp [isW] at hn; omega
  rcases h with rfl | rfl | rfl | rfl
  · have hv' : 256 ≤ v := hv
    clear hv
    go_enter Tryz.func80, Tryz.ntmps80
    go_wp2_with (go_at_call 103; refine (isWidth_any _ _ hw).mono ?_; rintro e w' ⟨rfl, rfl⟩)
    go_ret2
    exact ⟨rfl, rfl⟩
  · have hv' : 65536 ≤ v := hv
    clear hv
    go_enter Tryz.func80, Tryz.ntmps80
    go_wp2_with (go_at_call 103; refine (isWidth_any _ _ hw).mono ?_; rintro e w' ⟨rfl, rfl⟩)
    go_ret2
    exact ⟨rfl, rfl⟩
  · have hv' : 4294967296 ≤ v := hv
    clear hv
    go_enter Tryz.func80, Tryz.ntmps80
    go_wp2_with (go_at_call 103; refine (isWidth_any _ _ hw).mono ?_; rintro e w' ⟨rfl, rfl⟩)
    go_ret2
    exact ⟨rfl, rfl⟩
  · have hv' : 18446744073709551616 ≤ v := hv
    omega

set_option maxHeartbeats 1000000 in
theorem put_1 (v : Int) (w : World) (hw : Wid w) (h0 : 0 ≤ v) (h1 : v < 256) :
    Calls Tryz.prog 80 #[.int .i64 1, .int .u64 v] w fun e w' => e = .returned (.tuple #[.string (putS 1 v.toNat), .int .i64 0]) ∧ Below w.heap.size w w' := by
  have h8 : isW 1 = true := by decide
  have hmk : ∀ w, (Instr.makeSlice 111 (.int .i64 1) (.int .i64 1)).run Tryz.prog w = .ok (.slice (some ⟨w.heap.size, 0, none⟩) 1 1) (w.alloc (.cells #[.int .u8 0] 5)) := fun _ => by kernel_rfl
  have hcv : ∀ (w : World) (a0 : Int), (convert 111 9 (.slice (some ⟨w.heap.size, 0, none⟩) 1 1)).run Tryz.prog (w.alloc (.cells #[.int .u8 a0] 5)) = .ok (.string ⟨#[UInt8.ofNat a0.toNat]⟩) (w.alloc (.cells #[.int .u8 a0] 5)) := fun w a0 => conv_own w [a0] 1
  go_enter Tryz.func80, Tryz.ntmps80
  go_wp2_with (first | (go_at_call 103; refine (isWidth_any _ _ hw).mono ?_; rintro e w' ⟨rfl, rfl⟩))
  go_rounds 2
  go_ret2
  refine ⟨congrArg (fun s : ByteArray => Ending.returned (.tuple #[.string s, .int .i64 0])) (?_ : _ = putS 1 v.toNat), (Below.refl _ _).alloc (Nat.le_refl _) _⟩
  exact arr1 (byte_eq (by omega))

set_option maxHeartbeats 1000000 in
theorem put_2 (v : Int) (w : World) (hw : Wid w) (h0 : 0 ≤ v) (h1 : v < 65536) :
    Calls Tryz.prog 80 #[.int .i64 2, .int .u64 v] w fun e w' => e = .returned (.tuple #[.string (putS 2 v.toNat), .int .i64 0]) ∧ Below w.heap.size w w' := by
  have h8 : isW 2 = true := by decide
  have hmk : ∀ w, (Instr.makeSlice 111 (.int .i64 2) (.int .i64 2)).run Tryz.prog w = .ok (.slice (some ⟨w.heap.size, 0, none⟩) 2 2) (w.alloc (.cells #[.int .u8 0, .int .u8 0] 5)) := fun _ => by kernel_rfl
  have hcv : ∀ (w : World) (a0 a1 : Int), (convert 111 9 (.slice (some ⟨w.heap.size, 0, none⟩) 2 2)).run Tryz.prog (w.alloc (.cells #[.int .u8 a0, .int .u8 a1] 5)) = .ok (.string ⟨#[UInt8.ofNat a0.toNat, UInt8.ofNat a1.toNat]⟩) (w.alloc (.cells #[.int .u8 a0, .int .u8 a1] 5)) := fun w a0 a1 => conv_own w [a0, a1] 2
  go_enter Tryz.func80, Tryz.ntmps80
  go_wp2_with (first | (go_at_call 103; refine (isWidth_any _ _ hw).mono ?_; rintro e w' ⟨rfl, rfl⟩))
  go_rounds 3
  go_ret2
  refine ⟨congrArg (fun s : ByteArray => Ending.returned (.tuple #[.string s, .int .i64 0])) (?_ : _ = putS 2 v.toNat), (Below.refl _ _).alloc (Nat.le_refl _) _⟩
  exact arr2 (byte_eq (by omega)) (byte_eq (by omega))

set_option maxHeartbeats 1000000 in
theorem put_4 (v : Int) (w : World) (hw : Wid w) (h0 : 0 ≤ v) (h1 : v < 4294967296) :
    Calls Tryz.prog 80 #[.int .i64 4, .int .u64 v] w fun e w' => e = .returned (.tuple #[.string (putS 4 v.toNat), .int .i64 0]) ∧ Below w.heap.size w w' := by
  have h8 : isW 4 = true := by decide
  have hmk : ∀ w, (Instr.makeSlice 111 (.int .i64 4) (.int .i64 4)).run Tryz.prog w = .ok (.slice (some ⟨w.heap.size, 0, none⟩) 4 4) (w.alloc (.cells #[.int .u8 0, .int .u8 0, .int .u8 0, .int .u8 0] 5)) := fun _ => by kernel_rfl
  have hcv : ∀ (w : World) (a0 a1 a2 a3 : Int), (convert 111 9 (.slice (some ⟨w.heap.size, 0, none⟩) 4 4)).run Tryz.prog (w.alloc (.cells #[.int .u8 a0, .int .u8 a1, .int .u8 a2, .int .u8 a3] 5)) = .ok (.string ⟨#[UInt8.ofNat a0.toNat, UInt8.ofNat a1.toNat, UInt8.ofNat a2.toNat, UInt8.ofNat a3.toNat]⟩) (w.alloc (.cells #[.int .u8 a0, .int .u8 a1, .int .u8 a2, .int .u8 a3] 5)) := fun w a0 a1 a2 a3 => conv_own w [a0, a1, a2, a3] 4
  go_enter Tryz.func80, Tryz.ntmps80
  go_wp2_with (first | (go_at_call 103; refine (isWidth_any _ _ hw).mono ?_; rintro e w' ⟨rfl, rfl⟩))
  go_rounds 5
  go_ret2
  refine ⟨congrArg (fun s : ByteArray => Ending.returned (.tuple #[.string s, .int .i64 0])) (?_ : _ = putS 4 v.toNat), (Below.refl _ _).alloc (Nat.le_refl _) _⟩
  exact arr4 (byte_eq (by omega)) (byte_eq (by omega)) (byte_eq (by omega)) (byte_eq (by omega))

set_option maxHeartbeats 1000000 in
theorem put_8 (v : Int) (w : World) (hw : Wid w) (h0 : 0 ≤ v) (h1 : v < 18446744073709551616) :
    Calls Tryz.prog 80 #[.int .i64 8, .int .u64 v] w fun e w' => e = .returned (.tuple #[.string (putS 8 v.toNat), .int .i64 0]) ∧ Below w.heap.size w w' := by
  have h8 : isW 8 = true := by decide
  have hmk : ∀ w, (Instr.makeSlice 111 (.int .i64 8) (.int .i64 8)).run Tryz.prog w = .ok (.slice (some ⟨w.heap.size, 0, none⟩) 8 8) (w.alloc (.cells #[.int .u8 0, .int .u8 0, .int .u8 0, .int .u8 0, .int .u8 0, .int .u8 0, .int .u8 0, .int .u8 0] 5)) := fun _ => by kernel_rfl
  have hcv : ∀ (w : World) (a0 a1 a2 a3 a4 a5 a6 a7 : Int), (convert 111 9 (.slice (some ⟨w.heap.size, 0, none⟩) 8 8)).run Tryz.prog (w.alloc (.cells #[.int .u8 a0, .int .u8 a1, .int .u8 a2, .int .u8 a3, .int .u8 a4, .int .u8 a5, .int .u8 a6, .int .u8 a7] 5)) = .ok (.string ⟨#[UInt8.ofNat a0.toNat, UInt8.ofNat a1.toNat, UInt8.ofNat a2.toNat, UInt8.ofNat a3.toNat, UInt8.ofNat a4.toNat, UInt8.ofNat a5.toNat, UInt8.ofNat a6.toNat, UInt8.ofNat a7.toNat]⟩) (w.alloc (.cells #[.int .u8 a0, .int .u8 a1, .int .u8 a2, .int .u8 a3, .int .u8 a4, .int .u8 a5, .int .u8 a6, .int .u8 a7] 5)) := fun w a0 a1 a2 a3 a4 a5 a6 a7 => conv_own w [a0, a1, a2, a3, a4, a5, a6, a7] 8
  go_enter Tryz.func80, Tryz.ntmps80
  go_wp2_with (first | (go_at_call 103; refine (isWidth_any _ _ hw).mono ?_; rintro e w' ⟨rfl, rfl⟩))
  go_rounds 9
  go_ret2
  refine ⟨congrArg (fun s : ByteArray => Ending.returned (.tuple #[.string s, .int .i64 0])) (?_ : _ = putS 8 v.toNat), (Below.refl _ _).alloc (Nat.le_refl _) _⟩
  exact arr8 (byte_eq (by omega)) (byte_eq (by omega)) (byte_eq (by omega)) (byte_eq (by omega)) (byte_eq (by omega)) (byte_eq (by omega)) (byte_eq (by omega)) (byte_eq (by omega))

theorem put_ok (n : Int) (v : Int) (w : World) (hw : Wid w) (hn : isW n = true) (h0 : 0 ≤ v) (hv : v < 256 ^ n.toNat) :
    Calls Tryz.prog 80 #[.int .i64 n, .int .u64 v] w fun e w' => e = .returned (.tuple #[.string (putS n.toNat v.toNat), .int .i64 0]) ∧ Below w.heap.size w w' := by
  have h : n = 1 ∨ n = 2 ∨ n = 4 ∨ n = 8 := by simp [isW] at hn; omega
  rcases h with rfl | rfl | rfl | rfl
  · exact put_1 v w hw h0 hv
  · exact put_2 v w hw h0 hv
  · exact put_4 v w hw h0 hv
  · exact put_8 v w hw h0 hv

/-- what Put answers: why not, and the bytes -/
def putOk (n v : Int) : Bool := isW n && decide (v < 256 ^ n.toNat)
def putE (n v : Int) : Int := if isW n = true then (if putOk n v = true then 0 else 4) else 1
def putR (n v : Int) : ByteArray := if putOk n v = true then putS n.toNat v.toNat else ⟨#[]⟩

theorem put_any (n : Int) (v : Int) (w : World) (hw : Wid w) (h0 : 0 ≤ v) (h1 : v < 18446744073709551616) :
    Calls Tryz.prog 80 #[.int .i64 n, .int .u64 v] w fun e w' => e = .returned (.tuple #[.string (putR n v), .int .i64 (putE n v)]) ∧ Below w.heap.size w w' := by
  cases hn : isW n
  · refine (put_arg n v w hw hn).mono ?_
    rintro e w' ⟨rfl, rfl⟩
    exact ⟨by simp [putR, putE, putOk, hn], Below.refl _ _⟩
  · by_cases hv : v < 256 ^ n.toNat
    · refine (put_ok n v w hw hn h0 hv).mono ?_
      rintro e w' ⟨rfl, hb⟩
      exact ⟨by simp [putR, putE, putOk, hn, hv], hb⟩
    · refine (put_big n v w hw hn h0 (by omega) h1).mono ?_
      rintro e w' ⟨rfl, rfl⟩
      exact ⟨by simp [putR, putE, putOk, hn, hv], Below.refl _ _⟩
theorem putE_zero (n v : Int) : (putE n v == 0) = putOk n v := by
  unfold putE
  cases hn : isW n
  · simp [putOk, hn]
  · cases hk : putOk n v <;> simp
theorem putOk_w {n v : Int} (h : putOk n v = true) : isW n = true := by simp [putOk] at h; exact h.1
theorem putOk_lt {n v : Int} (h : putOk n v = true) : v < 256 ^ n.toNat := by simp [putOk] at h; exact h.2
theorem isW_cases {n : Int} (h : isW n = true) : n = 1 ∨ n = 2 ∨ n = 4 ∨ n = 8 := by simp [isW] at h; omega
end Go.Proofs.YtkdiccedkjbpeaaGreatDoorR

/-
  num.Take answers the number of the first bytes, and the rest, or why not; nothing that was there is changed. Condition: the package's table of widths holds 1, 2, 4, 8.
-/
namespace Go.Proofs.YtkdiccedkjbpeaaGreatDoorR
open Go.RowKit

theorem take_arg (s : ByteArray) (n : Int) (w : World) (hw : Wid w) (hn : isW n = false) :
    Calls Tryz.prog 131 #[.string s, .int .i64 n] w fun e w' => e = .returned (.tuple #[.int .u64 0, .string ⟨#[]⟩, .int .i64 1]) ∧ w = w' := by
  go_enter Tryz.func131, Tryz.ntmps131
  go_wp2_with (go_at_call 103; refine (isWidth_any _ _ hw).mono ?_; rintro e w' ⟨rfl, rfl⟩)
  go_ret3
  exact ⟨rfl, rfl⟩

theorem take_more (s : ByteArray) (n : Int) (w : World) (hw : Wid w) (hn : isW n = true) (hs : (s.size : Int) < n) :
    Calls Tryz.prog 131 #[.string s, .int .i64 n] w fun e w' => e = .returned (.tuple #[.int .u64 0, .string ⟨#[]⟩, .int .i64 2]) ∧ w = w' := by
  go_enter Tryz.func131, Tryz.ntmps131
  go_wp2_with (go_at_call 103; refine (isWidth_any _ _ hw).mono ?_; rintro e w' ⟨rfl, rfl⟩)
  go_ret3
  exact ⟨rfl, rfl⟩

theorem or_byte (x b : Nat) (hb : b < 256) (hx : x < 72057594037927936) :
    bits .or .u64 ((x : Int) * 256) (IntKind.u64.wrap (b : Int)) = ((x * 256 + b : Nat) : Int) := by
  rw [IntWalk.u64_in (b : Int) (by omega)]
  have h := u64_or_nat (x * 256) b (by omega) (by omega)
  rw [nat_join 8 (x * 256) b (by omega) (by omega)] at h
  rw [← h]
  congr 1
theorem take_succ (s : ByteArray) (k : Nat) (h : k < s.size) : takeL (s.data.toList.take (k + 1)) = takeL (s.data.toList.take k) * 256 + (s[k]'h).toNat := by
  rw [List.take_succ_eq_append_getElem (by simpa using h), takeL_snoc]; rfl

set_option maxHeartbeats 400000 in
theorem take_ok (s : ByteArray) (n : Nat) (w : World) (hw : Wid w) (hn : isW n = true) (h8 : n ≤ 8) (hs : n ≤ s.size) :
    Calls Tryz.prog 131 #[.string s, .int .i64 n] w fun e w' => e = .returned (.tuple #[.int .u64 (takeL (s.data.toList.take n)), .string (s.extract n s.size), .int .i64 0]) ∧ Below w.heap.size w w' := by
  have hd : decide (s.size < n) = false := by simp; omega
  go_enter Tryz.func131, Tryz.ntmps131
  go_wp2_with (go_at_call 103; refine (isWidth_any _ _ hw).mono ?_; rintro e w' ⟨rfl, rfl⟩)
  go_loop [7, 19] (fun v i => ∃ k : Nat, k ≤ n ∧ i = .int .i64 k ∧ v = .int .u64 (takeL (s.data.toList.take k))) (fun _ i => n - (intOf i).toNat)
  case atStart => exact ⟨0, Nat.zero_le _, rfl, rfl⟩
  case round =>
    obtain ⟨k, hk, rfl, rfl⟩ := hrel
    by_cases hlt : k < n
    · have HS := Lib.hid (take_succ s k (by omega))
      have hb1 : takeL (s.data.toList.take k) < 72057594037927936 := by
        have h := takeL_lt (s.data.toList.take k)
        have hl : (s.data.toList.take k).length ≤ 7 := by have := List.length_take_le k s.data.toList; omega
        exact Nat.lt_of_lt_of_le h (by have := Nat.pow_le_pow_right (n := 256) (by omega) hl; simpa using this)
      have hb : (takeL (s.data.toList.take k) : Int) * 256 ≤ 18446744073709551615 := by omega
      go_wp2
      go_round
      case rel => exact ⟨k + 1, by omega, by go_num, by rw [HS.out, ← or_byte _ _ (by exact UInt8.toNat_lt _) hb1]⟩
      case measure => simp [intOf]; omega
    · obtain rfl : k = n := by omega
      go_wp2
      go_quiet (fail)
      go_wp2
      go_ret3
      exact ⟨rfl, below_drewN (Below.refl _ _) _⟩

/-- what Take answers: why not, the number, and the rest -/
def takeOk (s : ByteArray) (n : Int) : Bool := isW n && decide (n ≤ s.size)
def takeE (s : ByteArray) (n : Int) : Int := if isW n = true then (if takeOk s n = true then 0 else 2) else 1
def takeV (s : ByteArray) (n : Int) : Int := if takeOk s n = true then (takeL (s.data.toList.take n.toNat) : Int) else 0
def takeR (s : ByteArray) (n : Int) : ByteArray := if takeOk s n = true then s.extract n.toNat s.size else ⟨#[]⟩

theorem take_any (s : ByteArray) (n : Int) (w : World) (hw : Wid w) :
    Calls Tryz.prog 131 #[.string s, .int .i64 n] w fun e w' => e = .returned (.tuple #[.int .u64 (takeV s n), .string (takeR s n), .int .i64 (takeE s n)]) ∧ Below w.heap.size w w' := by
  cases hn : isW n
  · refine (take_arg s n w hw hn).mono ?_
    rintro e w' ⟨rfl, rfl⟩
    exact ⟨by simp [takeR, takeV, takeE, takeOk, hn], Below.refl _ _⟩
  · by_cases hv : n ≤ s.size
    · have h := isW n = true
      obtain ⟨k, rfl⟩ : ∃ k : Nat, n = k := ⟨n.toNat, by simp [isW] at hn; omega⟩
      refine (take_ok s k w hw hn (by simp [isW] at hn; omega) (by omega)).mono ?_
      rintro e w' ⟨rfl, hb⟩
      exact ⟨by simp [takeR, takeV, takeE, takeOk, hn, hv], hb⟩
    · refine (take_more s n w hw hn (by omega)).mono ?_
      rintro e w' ⟨rfl, rfl⟩
      exact ⟨by simp [takeR, takeV, takeE, takeOk, hn, hv], Below.refl _ _⟩
theorem takeE_zero (s : ByteArray) (n : Int) : (takeE s n == 0) = takeOk s n := by
  unfold takeE
  cases hn : isW n
  · simp [takeOk, hn]
  · cases hk : takeOk s n <;> simp
end Go.Proofs.YtkdiccedkjbpeaaGreatDoorR

/-
  num.Skip answers so many bytes and the rest, or that bytes are missing; nothing that was there is changed. No condition but that a text's length is an int.
-/
namespace Go.Proofs.YtkdiccedkjbpeaaGreatDoorR
open Go.RowKit

/-- what Skip answers -/
def skipOk (s : ByteArray) (n : Int) : Bool := decide (n ≤ s.size)
def skipE (s : ByteArray) (n : Int) : Int := if skipOk s n = true then 0 else 2
def skipA (s : ByteArray) (n : Int) : ByteArray := if skipOk s n = true then s.extract 0 n.toNat else ⟨#[]⟩
def skipB (s : ByteArray) (n : Int) : ByteArray := if skipOk s n = true then s.extract n.toNat s.size else ⟨#[]⟩

theorem skip_any (s : ByteArray) (n : Int) (w : World) (h0 : 0 ≤ n) (hs : s.size ≤ maxLen) :
    Calls Tryz.prog 137 #[.string s, .int .u64 n] w fun e w' => e = .returned (.tuple #[.string (skipA s n), .string (skipB s n), .int .i64 (skipE s n)]) ∧ Below w.heap.size w w' := by
  unfold maxLen at hs
  obtain ⟨k, rfl⟩ := Int.eq_ofNat_of_zero_le h0
  by_cases hk : k ≤ s.size
  · have Hok := Lib.hid (show skipOk s k = true by simp [skipOk]; omega)
    go_enter Tryz.func137, Tryz.ntmps137
    go_wp2
    go_quiet (fail)
    go_wp2
    go_ret3
    refine ⟨?_, below_drewN (Below.refl _ _) _⟩
    simp [skipA, skipB, skipE, Hok.out]
  · have Hok := Lib.hid (show skipOk s k = false by simp [skipOk]; omega)
    go_enter Tryz.func137, Tryz.ntmps137
    go_wp2
    go_ret3
    exact ⟨by simp [skipA, skipB, skipE, Hok.out], Below.refl _ _⟩

end Go.Proofs.YtkdiccedkjbpeaaGreatDoorR
