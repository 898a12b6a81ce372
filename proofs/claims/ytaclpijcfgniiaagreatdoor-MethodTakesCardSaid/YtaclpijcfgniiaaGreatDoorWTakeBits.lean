/-
  num.TakeBits answers the bits, and the rest, or why not; nothing that was there is changed. Condition: a text's length is an int.
-/
import Derived.Test.YtaclpijcfgniiaaGreatDoorWBits
import Derived.Test.YtaclpijcfgniiaaGreatDoorJBits
namespace Go.Proofs.YtaclpijcfgniiaaGreatDoor
open Go.RowKit

theorem quiet_same {P : Program} {f : FuncId} {args : Array Value} {w : World} {n : Nat} {v : Value}
    (h : Calls P f args (w.drewN n) fun e w' => e = .returned v ∧ w.drewN n = w') : Calls P f args (w.drewN n) fun e w'' => e = .returned v ∧ ∃ m, w'' = w.drewN m :=
  h.mono fun _ _ ⟨he, hm⟩ => ⟨he, n, hm.symm⟩

theorem fault_low (s : ByteArray) (n : Int) (w : World) (hn : n < 0) :
    Calls Tryz.prog 78 #[.string s, .int .i64 n] w fun e w' => e = .returned (.int .i64 1) ∧ w = w' := by
  go_enter Tryz.func78, Tryz.ntmps78
  go_wp2_with fail
  go_ret
  exact ⟨rfl, rfl⟩
theorem fault_high (s : ByteArray) (n : Int) (w : World) (hn : 64 < n) :
    Calls Tryz.prog 78 #[.string s, .int .i64 n] w fun e w' => e = .returned (.int .i64 1) ∧ w = w' := by
  go_enter Tryz.func78, Tryz.ntmps78
  go_wp2_with fail
  go_ret
  exact ⟨rfl, rfl⟩
theorem fault_more (s : ByteArray) (k : Nat) (w : World) (hn : k ≤ 64) (hs : s.size < (k + 7) / 8) :
    Calls Tryz.prog 78 #[.string s, .int .i64 k] w fun e w' => e = .returned (.int .i64 2) ∧ w = w' := by
  go_enter Tryz.func78, Tryz.ntmps78
  go_wp2_with (first | (go_at_call 58; refine (bytesOf_any _ _ (by omega) (by omega)).mono ?_; rintro e w' ⟨rfl, rfl⟩))
  go_ret
  exact ⟨rfl, rfl⟩
theorem fault_whole (s : ByteArray) (k : Nat) (w : World) (hn : k ≤ 64) (hs : (k + 7) / 8 ≤ s.size) (h8 : k % 8 = 0) :
    Calls Tryz.prog 78 #[.string s, .int .i64 k] w fun e w' => e = .returned (.int .i64 0) ∧ w = w' := by
  have h8' : (((k : Int) % 8) != 0) = false := by simp; omega
  clear h8
  go_enter Tryz.func78, Tryz.ntmps78
  go_wp2_with (first | (go_at_call 58; refine (bytesOf_any _ _ (by omega) (by omega)).mono ?_; rintro e w' ⟨rfl, rfl⟩))
  go_ret
  exact ⟨rfl, rfl⟩
theorem fault_tidy (s : ByteArray) (k : Nat) (w : World) (hn : k ≤ 64) (hs : (k + 7) / 8 ≤ s.size) (h8 : k % 8 ≠ 0) (ht : tidy s k = true) :
    Calls Tryz.prog 78 #[.string s, .int .i64 k] w fun e w' => e = .returned (.int .i64 0) ∧ w = w' := by
  have h8' : (((k : Int) % 8) != 0) = true := by simp; omega
  have hlt : k / 8 < s.size := by omega
  have ht' := tidy_go s k hlt h8
  rw [ht] at ht'
  simp only [Bool.not_true] at ht'
  clear ht h8
  go_enter Tryz.func78, Tryz.ntmps78
  go_wp2_with (first | (go_at_call 58; refine (bytesOf_any _ _ (by omega) (by omega)).mono ?_; rintro e w' ⟨rfl, rfl⟩))
  go_ret
  exact ⟨rfl, rfl⟩
theorem fault_dirty (s : ByteArray) (k : Nat) (w : World) (hn : k ≤ 64) (hs : (k + 7) / 8 ≤ s.size) (h8 : k % 8 ≠ 0) (ht : tidy s k = false) :
    Calls Tryz.prog 78 #[.string s, .int .i64 k] w fun e w' => e = .returned (.int .i64 3) ∧ w = w' := by
  have h8' : (((k : Int) % 8) != 0) = true := by simp; omega
  have hlt : k / 8 < s.size := by omega
  have ht' := tidy_go s k hlt h8
  rw [ht] at ht'
  simp only [Bool.not_false] at ht'
  clear ht h8
  go_enter Tryz.func78, Tryz.ntmps78
  go_wp2_with (first | (go_at_call 58; refine (bytesOf_any _ _ (by omega) (by omega)).mono ?_; rintro e w' ⟨rfl, rfl⟩))
  go_ret
  exact ⟨rfl, rfl⟩
theorem fault_any (s : ByteArray) (n : Int) (w : World) :
    Calls Tryz.prog 78 #[.string s, .int .i64 n] w fun e w' => e = .returned (.int .i64 (tbE s n)) ∧ w = w' := by
  unfold tbE
  by_cases h0 : n < 0
  · rw [if_pos h0]; exact fault_low s n w h0
  rw [if_neg h0]
  by_cases h1 : 64 < n
  · rw [if_pos h1]; exact fault_high s n w h1
  rw [if_neg h1]
  obtain ⟨k, rfl⟩ := Int.eq_ofNat_of_zero_le (show 0 ≤ n by omega)
  by_cases h2 : (s.size : Int) < ((k : Int) + 7) / 8
  · rw [if_pos h2]; exact fault_more s k w (by omega) (by omega)
  rw [if_neg h2, Int.toNat_natCast]
  by_cases h8 : k % 8 = 0
  · rw [if_pos (by simp [tidy, h8])]; exact fault_whole s k w (by omega) (by omega) h8
  cases ht : tidy s k
  · rw [if_neg (by simp)]; exact fault_dirty s k w (by omega) (by omega) h8 ht
  · rw [if_pos rfl]; exact fault_tidy s k w (by omega) (by omega) h8 ht

/-- the cells of the bits, after k of n -/
def tbCells (s : ByteArray) (k n : Nat) : Array Value := ((List.range n).map fun i => Value.bool (decide (i < k) && bitAt s i)).toArray
theorem tbCells_at (s : ByteArray) (k n i : Nat) (h : i < n) : (tbCells s k n)[i]? = some (.bool (decide (i < k) && bitAt s i)) := by
  simp [tbCells, h]
theorem tbCells_set (s : ByteArray) (k n : Nat) : (tbCells s k n).setIfInBounds k (.bool (bitAt s k)) = tbCells s (k + 1) n := by
  apply Array.ext
  · simp [tbCells]
  · intro i h1 h2
    have hi : i < n := by simpa [tbCells] using h2
    rw [Array.getElem_setIfInBounds (by simpa [tbCells] using hi)]
    split
    · rename_i e
      subst e
      simp [tbCells]
    · rename_i e
      have : decide (i < k + 1) = decide (i < k) := by simp; omega
      simp [tbCells, this]
theorem tbCells_zero (s : ByteArray) (n : Nat) : madeCells #[.bool false] n = tbCells s 0 n := by
  apply Array.ext
  · simp [tbCells, size_madeCells]
  · intro i h1 h2
    simp [tbCells, madeCells, Nat.mod_one]

/-- what TakeBits answers -/
def TB (s : ByteArray) (n : Int) (w : World) (e : Ending) (w' : World) : Prop :=
  ∃ A c, e = .returned (.tuple #[.slice A (tbL s n).length c, .string (tbR s n), .int .i64 (tbE s n)]) ∧ BoolsAt w' A (tbL s n) ∧ Below w.heap.size w w'

theorem takeBits_not (s : ByteArray) (n : Int) (w : World) (h : tbE s n ≠ 0) : Calls Tryz.prog 62 #[.string s, .int .i64 n] w (TB s n w) := by
  have h' : (tbE s n != 0) = true := by simpa using h
  have hL : tbL s n = [] := by simp [tbL, h]
  have hR : tbR s n = ⟨#[]⟩ := by simp [tbR, h]
  have HL := Lib.hid hL
  have HR := Lib.hid hR
  clear h hL hR
  go_enter Tryz.func62, Tryz.ntmps62
  go_wp2_with (first | (go_at_call 78; refine (fault_any _ _ _).mono ?_; rintro e w' ⟨rfl, rfl⟩))
  go_ret3
  refine ⟨none, 0, ?_, ?_, Below.refl _ _⟩
  · rw [HL.out, HR.out]; rfl
  · rw [HL.out]; intro h; simp at h

set_option maxHeartbeats 400000 in
set_option maxRecDepth 100000 in
theorem takeBits_ok (s : ByteArray) (k : Nat) (w : World) (hk : k ≤ 64) (hs : (k + 7) / 8 ≤ s.size) (h : tbE s k = 0) : Calls Tryz.prog 62 #[.string s, .int .i64 k] w (TB s k w) := by
  have h' : (tbE s k != 0) = false := by simpa using h
  have HL := Lib.hid (show tbL s k = bitsOf s k by simp [tbL, h])
  have HR := Lib.hid (show tbR s k = s.extract ((k + 7) / 8) s.size by simp [tbR, h])
  have HE := Lib.hid h
  clear h
  obtain ⟨i0, hi, hz0, hz1, hz2⟩ := info_parts (show (Tryz.prog.info? 4).map (fun i => (i.zero, i.size, i.bytes)) = some (some (.bool false), 1, 1) by kernel_rfl)
  have hmk : ∀ u : World, (Instr.makeSlice 46 (.int .i64 (k : Int)) (.int .i64 (k : Int))).run Tryz.prog u =
      .ok (.slice (some ⟨u.heap.size, 0, none⟩) k k) (u.alloc (.cells (tbCells s 0 k) 4)) := fun u => by
    have h := run_make (P := Tryz.prog) u 46 4 i0 (.bool false) Tryz.underlying46 hi hz0 .i64 .i64 k k (by omega) (Int.le_refl _) (by rw [hz2]; omega) (by omega)
    rw [Int.toNat_natCast] at h
    rw [← tbCells_zero]
    simpa [hz1, Value.cells] using h
  go_enter Tryz.func62, Tryz.ntmps62
  go_wp2_with (first | (go_at_call 78; refine (fault_any _ _ _).mono ?_; rintro e w' ⟨rfl, rfl⟩))
  go_loopw [19] (fun v wr => ∃ j : Nat, j ≤ k ∧ v = .int .i64 j ∧ Below w.heap.size w wr ∧ Box wr w.heap.size 4 (tbCells s j k)) (fun v _ => k - (intOf v).toNat)
  case atStart => exact ⟨0, Nat.zero_le _, rfl, (Below.refl _ _).alloc (Nat.le_refl _) _, Box.new w _ _⟩
  case round =>
    obtain ⟨j, hj, rfl, hb, hx⟩ := hrel
    clear hmk
    by_cases hlt : j < k
    · have hj8 : j / 8 < s.size := by omega
      have hcj := (hx.cell j).trans (tbCells_at s j k j hlt)
      have hfj := hx.free j
      have HB := Lib.hid (bit_go s j hj8)
      have Hx := Lib.hid hx
      clear hx
      go_wp2
      go_roundw
      case rel => exact ⟨j + 1, by omega, by go_num, hb.setCell (Nat.le_refl _) _, by rw [HB.out]; exact (tbCells_set s j k) ▸ Hx.out.set _ _⟩
      case measure => simp [intOf]; omega
    · obtain rfl : j = k := by omega
      have Hx := Lib.hid hx
      clear hx
      go_wp2
      go_quiet ((go_at_call 58; exact quiet_same (bytesOf_any _ _ (by omega) (by omega))))
      go_wp2
      go_ret3
      refine ⟨some ⟨w.heap.size, 0, none⟩, j, ?_, fun _ => ⟨w.heap.size, 0, rfl, (Hx.out.drewN nq).lt, fun i hi => ?_⟩, below_drewN hb _⟩
      · rw [HL.out, HR.out, HE.out, bitsOf_length]; rfl
      · have hi' : i < j := by rw [HL.out, bitsOf_length] at hi; exact hi
        rw [Nat.zero_add, (Hx.out.drewN nq).cell i, tbCells_at s j j i hi']
        simp [HL.out, bitsOf, hi']

theorem takeBits_any (s : ByteArray) (n : Int) (w : World) : Calls Tryz.prog 62 #[.string s, .int .i64 n] w (TB s n w) := by
  by_cases h : tbE s n = 0
  · have h' := h
    unfold tbE at h'
    by_cases h0 : n < 0
    · rw [if_pos h0] at h'; omega
    rw [if_neg h0] at h'
    by_cases h1 : 64 < n
    · rw [if_pos h1] at h'; omega
    rw [if_neg h1] at h'
    obtain ⟨k, rfl⟩ := Int.eq_ofNat_of_zero_le (show 0 ≤ n by omega)
    by_cases h2 : (s.size : Int) < ((k : Int) + 7) / 8
    · rw [if_pos h2] at h'; omega
    exact takeBits_ok s k w (by omega) (by omega) h
  · exact takeBits_not s n w h
end Go.Proofs.YtaclpijcfgniiaaGreatDoor
