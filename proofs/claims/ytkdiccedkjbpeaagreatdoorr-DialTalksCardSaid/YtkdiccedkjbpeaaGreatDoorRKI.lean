/-
  Several texts joined in one file: each says at its own head, below, what it proves, and its conditions.
-/
import Derived.Test.YtkdiccedkjbpeaaGreatDoorRJWNum
import Derived.Test.YtkdiccedkjbpeaaGreatDoorRJBits
import Derived.Laws.BytesArg
import Derived.Laws.BitsAllLaws
import Derived.Deep.QuietTactic
import Derived.BigQuiet
import Derived.WalkSmall
import Derived.Deep.RegionHeld3
/-
  num.bytesOf answers how many bytes so many bits need; it leaves the world as it was. No condition but that the number is far below the greatest int.
-/
namespace Go.Proofs.YtkdiccedkjbpeaaGreatDoorR
open Go.RowKit

/-- how many bytes n bits need -/
theorem bytesOf_any (n : Int) (w : World) (h0 : 0 ≤ n) (h1 : n ≤ 9223372036854775800) :
    Calls Tryz.prog 101 #[.int .i64 n] w fun e w' => e = .returned (.int .i64 ((n + 7) / 8)) ∧ w = w' := by
  go_enter Tryz.func101, Tryz.ntmps101
  go_wp2
  go_ret
  exact ⟨rfl, rfl⟩

end Go.Proofs.YtkdiccedkjbpeaaGreatDoorR

/-
  num.Bits answers bits' bytes.
-/
namespace Go.Proofs.YtkdiccedkjbpeaaGreatDoorR
open Go.RowKit

set_option maxHeartbeats 400000 in
theorem bits1_any (k N g B : Nat) (x : Int) (w : World) (hk : k < 1125899906842624) (hN : k / 8 < N)
    (hB : w.cell? ⟨B, 0, none⟩ = some (.slice (some ⟨g, 0, none⟩) N N)) (hg : w.cell? ⟨g, k / 8, none⟩ = some (.int .u8 x)) (hf : w.frozen? ⟨g, k / 8, none⟩ = false) :
    Calls Tryz.prog 102 #[.int .i64 k, .pointer (some ⟨B, 0, none⟩)] w fun e w' => e = .returned (.tuple #[]) ∧ w' = (w.setCell ⟨g, k / 8, none⟩ (.int .u8 (bits .or .u8 x (2 ^ (k % 8) % 256)))).drew := by
  go_enter Tryz.func102, Tryz.ntmps102
  go_wp2
  go_region
  go_wp2
  go_end0
  exact ⟨rfl, rfl⟩

/-- the cells of the bytes, after k bits -/
def bitCells (l : List Bool) (k N : Nat) : Array Value := ((List.range N).map fun j => Value.int .u8 (bitK l k j : Int)).toArray
theorem bitCells_at (l : List Bool) (k N j : Nat) (h : j < N) : (bitCells l k N)[j]? = some (.int .u8 (bitK l k j : Int)) := by
  simp [bitCells, h]
theorem bitCells_set (l : List Bool) (k N : Nat) (h : l.getD k false = true) :
    (bitCells l k N).setIfInBounds (k / 8) (.int .u8 (bits .or .u8 (bitK l k (k / 8) : Int) (2 ^ (k % 8) % 256))) = bitCells l (k + 1) N := by
  rw [or_bit l k h]
  apply Array.ext
  · simp [bitCells]
  · intro i h1 h2
    have hi : i < N := by simpa [bitCells] using h2
    rw [Array.getElem_setIfInBounds (by simpa [bitCells] using hi)]
    split
    · rename_i e
      subst e
      simp [bitCells]
    · rename_i e
      simp [bitCells, bitK_far l k i e]
theorem bitCells_same (l : List Bool) (k N : Nat) (h : l.getD k false = false) : bitCells l k N = bitCells l (k + 1) N := by
  simp [bitCells, bitK_off l k _ h]
theorem bitCells_zero (l : List Bool) (N : Nat) : madeCells #[.int .u8 0] N = bitCells l 0 N := by
  apply Array.ext
  · simp [bitCells, size_madeCells]
  · intro i h1 h2
    simp [bitCells, madeCells, bitK_zero, Nat.mod_one]

set_option maxHeartbeats 400000 in
theorem bits_any (A : Option Addr) (cap : Nat) (l : List Bool) (w : World) (hl : l.length < 1125899906842624) (h : BoolsAt w A l) :
    Calls Tryz.prog 78 #[.slice A l.length cap] w fun e w' => e = .returned (.string (bitsS l)) ∧ Below w.heap.size w w' := by
  obtain ⟨i0, hi, hz0, hz1, hz2⟩ := info_parts (show (Tryz.prog.info? 5).map (fun i => (i.zero, i.size, i.bytes)) = some (some (.int .u8 0), 1, 1) by kernel_rfl)
  have hmk : ∀ u : World, (Instr.makeSlice 111 (.int .i64 (((l.length : Int) + 7) / 8)) (.int .i64 (((l.length : Int) + 7) / 8))).run Tryz.prog u =
      .ok (.slice (some ⟨u.heap.size, 0, none⟩) ((l.length + 7) / 8) ((l.length + 7) / 8)) (u.alloc (.cells (bitCells l 0 ((l.length + 7) / 8)) 5)) := fun u => by
    have h := run_make (P := Tryz.prog) u 111 5 i0 (.int .u8 0) Tryz.underlying111 hi hz0 .i64 .i64 (((l.length : Int) + 7) / 8) (((l.length : Int) + 7) / 8) (by omega) (Int.le_refl _) (by rw [hz2]; omega) (by omega)
    have e : (((l.length : Int) + 7) / 8).toNat = (l.length + 7) / 8 := by omega
    rw [e] at h
    rw [← bitCells_zero]
    simpa [hz1, Value.cells] using h
  have hmf : ∀ (fn : Fn) (first cap : Array Value) (w : World), (Instr.makeFunc fn first cap).run Tryz.prog w = .ok (.func fn first cap) w := fun _ _ _ _ => rfl
  go_enter Tryz.func78, Tryz.ntmps78
  go_wp2_with (first | (go_at_call 101; refine (bytesOf_any _ _ (by omega) (by omega)).mono ?_; rintro e w' ⟨rfl, rfl⟩))
  go_loopw [13] (fun v13 wr => ∃ k : Nat, k ≤ l.length ∧ v13 = .int .i64 k ∧ Below w.heap.size w wr ∧ Box wr w.heap.size 5 (bitCells l k ((l.length + 7) / 8)) ∧
      Box wr (w.heap.size + 1) 111 #[Value.slice (some ⟨w.heap.size, 0, none⟩) ((l.length + 7) / 8) ((l.length + 7) / 8)]) (fun v13 _ => l.length - (intOf v13).toNat)
  case atStart =>
    refine ⟨0, Nat.zero_le _, rfl, ((Below.refl _ _).alloc (Nat.le_refl _) _).alloc (by simp) _, (Box.new w _ _).alloc _, ?_⟩
    exact (Box.new (w.alloc _) _ _).at_ (by simp)
  case round =>
    obtain ⟨k, hk, rfl, hb, hx, hy⟩ := hrel
    have hy0 := hy.cell 0
    by_cases hlt : k < l.length
    · obtain ⟨b, off, rfl, hbl, hc⟩ := h (by omega)
      have hck := (hb.cell (p := ⟨b, off + k, none⟩) hbl).trans (hc k hlt)
      have hj : k / 8 < (l.length + 7) / 8 := by omega
      have hxk := (hx.cell (k / 8)).trans (bitCells_at l k _ _ hj)
      have hfk := hx.free (k / 8)
      have hbound := bitK_lt l k (k / 8)
      clear hc h hmk hmf
      have hgd : l.getD k false = l[k] := by simp [List.getD, hlt]
      have Hgd := Lib.hid hgd
      clear hgd
      cases hv : l[k]
      · rw [hv] at hck
        rw [hv] at Hgd
        have Hx := Lib.hid hx
        have Hy := Lib.hid hy
        clear hx hy hv
        go_wp2
        go_roundw
        case rel => exact ⟨k + 1, by omega, by go_num, hb, (bitCells_same l k _ Hgd.out) ▸ Hx.out, Hy.out⟩
        case measure => simp [intOf]; omega
      · rw [hv] at hck
        rw [hv] at Hgd
        have Hx := Lib.hid hx
        have Hy := Lib.hid hy
        clear hx hy hv
        go_wp2_with (first | (go_at_call 102; refine (bits1_any k _ w.heap.size (w.heap.size + 1) _ _ (by omega) hj hy0 hxk hfk).mono ?_; rintro e w' ⟨rfl, rfl⟩))
        go_roundw
        case rel => exact ⟨k + 1, by omega, by go_num, (hb.setCell (Nat.le_refl _) _).drew, (bitCells_set l k _ Hgd.out) ▸ (Hx.out.set _ _).drew, (Hy.out.apart (by simp) _).drew⟩
        case measure => simp [intOf]; omega
    · obtain rfl : k = l.length := by omega
      have hcv := run_convert_bytes_arg (P := Tryz.prog) wr 111 5 Tryz.underlying111 Tryz.underlying5 w.heap.size 0 ((l.length + 7) / 8) ((l.length + 7) / 8) ((List.range ((l.length + 7) / 8)).map fun j => (bitK l l.length j : Int)) (by simp) (fun i hi => by
        rw [Nat.zero_add, hx.cell i, bitCells_at _ _ _ _ hi]
        simp [hi]) 9 Tryz.underlying9
      clear hmk hmf
      have Hx := Lib.hid hx
      have Hy := Lib.hid hy
      clear hx hy
      go_wp2
      go_ret
      refine ⟨congrArg (fun s : ByteArray => Ending.returned (.string s)) (?_ : _ = bitsS l), hb⟩
      simp [strOfNums, bitsS, bitsL]
end Go.Proofs.YtkdiccedkjbpeaaGreatDoorR
