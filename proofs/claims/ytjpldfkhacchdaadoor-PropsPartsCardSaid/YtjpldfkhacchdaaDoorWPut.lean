/-
  num.Put answers a number's bytes, the highest first, or why not; nothing that was there is changed. Condition: the package's table of widths holds 1, 2, 4, 8.
-/
import Derived.Test.YtjpldfkhacchdaaDoorWWidth
import Derived.Test.YtjpldfkhacchdaaDoorJBits
import Derived.Laws.BytesArg
namespace Go.Proofs.YtjpldfkhacchdaaDoor
open Go.RowKit

theorem put_arg (n : Int) (v : Int) (w : World) (hw : Wid w) (hn : isW n = false) :
    Calls Tryd.prog 47 #[.int .i64 n, .int .u64 v] w fun e w' => e = .returned (.tuple #[.string ⟨#[]⟩, .int .i64 1]) ∧ w = w' := by
  go_enter Tryd.func47, Tryd.ntmps47
  go_wp2_with (go_at_call 54; refine (isWidth_any _ _ hw).mono ?_; rintro e w' ⟨rfl, rfl⟩)
  go_ret2
  exact ⟨rfl, rfl⟩

/-- 'string(b)' of bytes in a block of their own -/
theorem conv_own (w : World) (xs : List Int) (cap : Nat) :
    (convert 56 9 (.slice (some ⟨w.heap.size, 0, none⟩) xs.length cap)).run Tryd.prog (w.alloc (.cells (xs.map (Value.int .u8)).toArray 5)) = .ok (.string (strOfNums xs)) (w.alloc (.cells (xs.map (Value.int .u8)).toArray 5)) := by
  refine run_convert_bytes_arg (P := Tryd.prog) _ 56 5 Tryd.underlying56 Tryd.underlying5 w.heap.size 0 xs.length cap xs rfl (fun i hi => ?_) 9 Tryd.underlying9
  rw [World.cell?_alloc_new]
  simp [hi]

theorem put_big (n : Int) (v : Int) (w : World) (hw : Wid w) (hn : isW n = true) (h0 : 0 ≤ v) (hv : 256 ^ n.toNat ≤ v) (h1 : v < 18446744073709551616) :
    Calls Tryd.prog 47 #[.int .i64 n, .int .u64 v] w fun e w' => e = .returned (.tuple #[.string ⟨#[]⟩, .int .i64 4]) ∧ w = w' := by
  have h : n = 1 ∨ n = 2 ∨ n = 4 ∨ n = 8 := by simp [isW] at hn; omega
  rcases h with rfl | rfl | rfl | rfl
  · have hv' : 256 ≤ v := hv
    clear hv
    go_enter Tryd.func47, Tryd.ntmps47
    go_wp2_with (go_at_call 54; refine (isWidth_any _ _ hw).mono ?_; rintro e w' ⟨rfl, rfl⟩)
    go_ret2
    exact ⟨rfl, rfl⟩
  · have hv' : 65536 ≤ v := hv
    clear hv
    go_enter Tryd.func47, Tryd.ntmps47
    go_wp2_with (go_at_call 54; refine (isWidth_any _ _ hw).mono ?_; rintro e w' ⟨rfl, rfl⟩)
    go_ret2
    exact ⟨rfl, rfl⟩
  · have hv' : 4294967296 ≤ v := hv
    clear hv
    go_enter Tryd.func47, Tryd.ntmps47
    go_wp2_with (go_at_call 54; refine (isWidth_any _ _ hw).mono ?_; rintro e w' ⟨rfl, rfl⟩)
    go_ret2
    exact ⟨rfl, rfl⟩
  · have hv' : 18446744073709551616 ≤ v := hv
    omega

set_option maxHeartbeats 1000000 in
theorem put_1 (v : Int) (w : World) (hw : Wid w) (h0 : 0 ≤ v) (h1 : v < 256) :
    Calls Tryd.prog 47 #[.int .i64 1, .int .u64 v] w fun e w' => e = .returned (.tuple #[.string (putS 1 v.toNat), .int .i64 0]) ∧ Below w.heap.size w w' := by
  have h8 : isW 1 = true := by decide
  have hmk : ∀ w, (Instr.makeSlice 56 (.int .i64 1) (.int .i64 1)).run Tryd.prog w = .ok (.slice (some ⟨w.heap.size, 0, none⟩) 1 1) (w.alloc (.cells #[.int .u8 0] 5)) := fun _ => by kernel_rfl
  have hcv : ∀ (w : World) (a0 : Int), (convert 56 9 (.slice (some ⟨w.heap.size, 0, none⟩) 1 1)).run Tryd.prog (w.alloc (.cells #[.int .u8 a0] 5)) = .ok (.string ⟨#[UInt8.ofNat a0.toNat]⟩) (w.alloc (.cells #[.int .u8 a0] 5)) := fun w a0 => conv_own w [a0] 1
  go_enter Tryd.func47, Tryd.ntmps47
  go_wp2_with (first | (go_at_call 54; refine (isWidth_any _ _ hw).mono ?_; rintro e w' ⟨rfl, rfl⟩))
  go_rounds 2
  go_ret2
  refine ⟨congrArg (fun s : ByteArray => Ending.returned (.tuple #[.string s, .int .i64 0])) (?_ : _ = putS 1 v.toNat), (Below.refl _ _).alloc (Nat.le_refl _) _⟩
  exact arr1 (byte_eq (by omega))

set_option maxHeartbeats 1000000 in
theorem put_2 (v : Int) (w : World) (hw : Wid w) (h0 : 0 ≤ v) (h1 : v < 65536) :
    Calls Tryd.prog 47 #[.int .i64 2, .int .u64 v] w fun e w' => e = .returned (.tuple #[.string (putS 2 v.toNat), .int .i64 0]) ∧ Below w.heap.size w w' := by
  have h8 : isW 2 = true := by decide
  have hmk : ∀ w, (Instr.makeSlice 56 (.int .i64 2) (.int .i64 2)).run Tryd.prog w = .ok (.slice (some ⟨w.heap.size, 0, none⟩) 2 2) (w.alloc (.cells #[.int .u8 0, .int .u8 0] 5)) := fun _ => by kernel_rfl
  have hcv : ∀ (w : World) (a0 a1 : Int), (convert 56 9 (.slice (some ⟨w.heap.size, 0, none⟩) 2 2)).run Tryd.prog (w.alloc (.cells #[.int .u8 a0, .int .u8 a1] 5)) = .ok (.string ⟨#[UInt8.ofNat a0.toNat, UInt8.ofNat a1.toNat]⟩) (w.alloc (.cells #[.int .u8 a0, .int .u8 a1] 5)) := fun w a0 a1 => conv_own w [a0, a1] 2
  go_enter Tryd.func47, Tryd.ntmps47
  go_wp2_with (first | (go_at_call 54; refine (isWidth_any _ _ hw).mono ?_; rintro e w' ⟨rfl, rfl⟩))
  go_rounds 3
  go_ret2
  refine ⟨congrArg (fun s : ByteArray => Ending.returned (.tuple #[.string s, .int .i64 0])) (?_ : _ = putS 2 v.toNat), (Below.refl _ _).alloc (Nat.le_refl _) _⟩
  exact arr2 (byte_eq (by omega)) (byte_eq (by omega))

set_option maxHeartbeats 1000000 in
theorem put_4 (v : Int) (w : World) (hw : Wid w) (h0 : 0 ≤ v) (h1 : v < 4294967296) :
    Calls Tryd.prog 47 #[.int .i64 4, .int .u64 v] w fun e w' => e = .returned (.tuple #[.string (putS 4 v.toNat), .int .i64 0]) ∧ Below w.heap.size w w' := by
  have h8 : isW 4 = true := by decide
  have hmk : ∀ w, (Instr.makeSlice 56 (.int .i64 4) (.int .i64 4)).run Tryd.prog w = .ok (.slice (some ⟨w.heap.size, 0, none⟩) 4 4) (w.alloc (.cells #[.int .u8 0, .int .u8 0, .int .u8 0, .int .u8 0] 5)) := fun _ => by kernel_rfl
  have hcv : ∀ (w : World) (a0 a1 a2 a3 : Int), (convert 56 9 (.slice (some ⟨w.heap.size, 0, none⟩) 4 4)).run Tryd.prog (w.alloc (.cells #[.int .u8 a0, .int .u8 a1, .int .u8 a2, .int .u8 a3] 5)) = .ok (.string ⟨#[UInt8.ofNat a0.toNat, UInt8.ofNat a1.toNat, UInt8.ofNat a2.toNat, UInt8.ofNat a3.toNat]⟩) (w.alloc (.cells #[.int .u8 a0, .int .u8 a1, .int .u8 a2, .int .u8 a3] 5)) := fun w a0 a1 a2 a3 => conv_own w [a0, a1, a2, a3] 4
  go_enter Tryd.func47, Tryd.ntmps47
  go_wp2_with (first | (go_at_call 54; refine (isWidth_any _ _ hw).mono ?_; rintro e w' ⟨rfl, rfl⟩))
  go_rounds 5
  go_ret2
  refine ⟨congrArg (fun s : ByteArray => Ending.returned (.tuple #[.string s, .int .i64 0])) (?_ : _ = putS 4 v.toNat), (Below.refl _ _).alloc (Nat.le_refl _) _⟩
  exact arr4 (byte_eq (by omega)) (byte_eq (by omega)) (byte_eq (by omega)) (byte_eq (by omega))

set_option maxHeartbeats 1000000 in
theorem put_8 (v : Int) (w : World) (hw : Wid w) (h0 : 0 ≤ v) (h1 : v < 18446744073709551616) :
    Calls Tryd.prog 47 #[.int .i64 8, .int .u64 v] w fun e w' => e = .returned (.tuple #[.string (putS 8 v.toNat), .int .i64 0]) ∧ Below w.heap.size w w' := by
  have h8 : isW 8 = true := by decide
  have hmk : ∀ w, (Instr.makeSlice 56 (.int .i64 8) (.int .i64 8)).run Tryd.prog w = .ok (.slice (some ⟨w.heap.size, 0, none⟩) 8 8) (w.alloc (.cells #[.int .u8 0, .int .u8 0, .int .u8 0, .int .u8 0, .int .u8 0, .int .u8 0, .int .u8 0, .int .u8 0] 5)) := fun _ => by kernel_rfl
  have hcv : ∀ (w : World) (a0 a1 a2 a3 a4 a5 a6 a7 : Int), (convert 56 9 (.slice (some ⟨w.heap.size, 0, none⟩) 8 8)).run Tryd.prog (w.alloc (.cells #[.int .u8 a0, .int .u8 a1, .int .u8 a2, .int .u8 a3, .int .u8 a4, .int .u8 a5, .int .u8 a6, .int .u8 a7] 5)) = .ok (.string ⟨#[UInt8.ofNat a0.toNat, UInt8.ofNat a1.toNat, UInt8.ofNat a2.toNat, UInt8.ofNat a3.toNat, UInt8.ofNat a4.toNat, UInt8.ofNat a5.toNat, UInt8.ofNat a6.toNat, UInt8.ofNat a7.toNat]⟩) (w.alloc (.cells #[.int .u8 a0, .int .u8 a1, .int .u8 a2, .int .u8 a3, .int .u8 a4, .int .u8 a5, .int .u8 a6, .int .u8 a7] 5)) := fun w a0 a1 a2 a3 a4 a5 a6 a7 => conv_own w [a0, a1, a2, a3, a4, a5, a6, a7] 8
  go_enter Tryd.func47, Tryd.ntmps47
  go_wp2_with (first | (go_at_call 54; refine (isWidth_any _ _ hw).mono ?_; rintro e w' ⟨rfl, rfl⟩))
  go_rounds 9
  go_ret2
  refine ⟨congrArg (fun s : ByteArray => Ending.returned (.tuple #[.string s, .int .i64 0])) (?_ : _ = putS 8 v.toNat), (Below.refl _ _).alloc (Nat.le_refl _) _⟩
  exact arr8 (byte_eq (by omega)) (byte_eq (by omega)) (byte_eq (by omega)) (byte_eq (by omega)) (byte_eq (by omega)) (byte_eq (by omega)) (byte_eq (by omega)) (byte_eq (by omega))

theorem put_ok (n : Int) (v : Int) (w : World) (hw : Wid w) (hn : isW n = true) (h0 : 0 ≤ v) (hv : v < 256 ^ n.toNat) :
    Calls Tryd.prog 47 #[.int .i64 n, .int .u64 v] w fun e w' => e = .returned (.tuple #[.string (putS n.toNat v.toNat), .int .i64 0]) ∧ Below w.heap.size w w' := by
  have h : n = 1 ∨ n = 2 ∨ n = 4 ∨ n = 8 := by simp [isW] at hn; omega
  rcases h with rfl | rfl | rfl | rfl
  · exact put_1 v w hw h0 hv
  · exact put_2 v w hw h0 hv
  · exact put_4 v w hw h0 hv
  · exact put_8 v w hw h0 hv

/-- what Put answers: why not, and the bytes -/
def putOk (n v : Int) : Bool := isW n && decide (v < 256 ^ n.toNat)
def putE (n v : Int) : Int := if isW n = true then (if putOk n v = true then 0 else 4) else 1
def putR (n v : Int) : ByteArray := if putOk n v = true then putS n.toNat v.toNat else ⟨#[]⟩

theorem put_any (n : Int) (v : Int) (w : World) (hw : Wid w) (h0 : 0 ≤ v) (h1 : v < 18446744073709551616) :
    Calls Tryd.prog 47 #[.int .i64 n, .int .u64 v] w fun e w' => e = .returned (.tuple #[.string (putR n v), .int .i64 (putE n v)]) ∧ Below w.heap.size w w' := by
  cases hn : isW n
  · refine (put_arg n v w hw hn).mono ?_
    rintro e w' ⟨rfl, rfl⟩
    exact ⟨by simp [putR, putE, putOk, hn], Below.refl _ _⟩
  · by_cases hv : v < 256 ^ n.toNat
    · refine (put_ok n v w hw hn h0 hv).mono ?_
      rintro e w' ⟨rfl, hb⟩
      exact ⟨by simp [putR, putE, putOk, hn, hv], hb⟩
    · refine (put_big n v w hw hn h0 (by omega) h1).mono ?_
      rintro e w' ⟨rfl, rfl⟩
      exact ⟨by simp [putR, putE, putOk, hn, hv], Below.refl _ _⟩
theorem putE_zero (n v : Int) : (putE n v == 0) = putOk n v := by
  unfold putE
  cases hn : isW n
  · simp [putOk, hn]
  · cases hk : putOk n v <;> simp
theorem putOk_w {n v : Int} (h : putOk n v = true) : isW n = true := by simp [putOk] at h; exact h.1
theorem putOk_lt {n v : Int} (h : putOk n v = true) : v < 256 ^ n.toNat := by simp [putOk] at h; exact h.2
theorem isW_cases {n : Int} (h : isW n = true) : n = 1 ∨ n = 2 ∨ n = 4 ∨ n = 8 := by simp [isW] at h; omega
end Go.Proofs.YtjpldfkhacchdaaDoor
