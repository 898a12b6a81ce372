/-
  method.takeBits and take answer as the plain functions say; nothing that was there is changed. Conditions: the package num's table of widths holds 1, 2, 4, 8; texts of fewer than 2^62 bytes; at most 16 letters, each a letter of values.
-/
import Derived.WalkMore
import Derived.Deep.RegionLaw
import Derived.Deep.AppendLies
import Derived.Deep.MidRow
import Derived.Test.YtmpfkommeakgbaaDoorWMBits
import Derived.Test.YtmpfkommeakgbaaDoorMRow
import Derived.Test.YtmpfkommeakgbaaDoorMKeep
namespace Go.Proofs.YtmpfkommeakgbaaDoor
open Go.RowKit

theorem infoVal : (Tryd.prog.info? 27).map (fun i => (i.zero, i.size, i.bytes)) = some (some (.agg #[.int .u64 0, .string ⟨#[]⟩]), 2, 24) := by kernel_rfl
theorem info_partsV {P : Program} {t : TypeId} {z : Option Value} {a b : Nat} (h : (P.info? t).map (fun i => (i.zero, i.size, i.bytes)) = some (z, a, b)) : ∃ i, P.info? t = some i ∧ i.zero = z ∧ i.size = a ∧ i.bytes = b := by
  obtain ⟨i, hi, he⟩ := Option.map_eq_some_iff.1 h
  simp only [Prod.mk.injEq] at he
  exact ⟨i, hi, he.1, he.2.1, he.2.2⟩

set_option maxRecDepth 100000 in
set_option maxHeartbeats 1000000 in
theorem mtakeBits_ok (s : ByteArray) (n : Nat) (w : World) (hn : n ≤ 64) (hE : tbE s n = 0) :
    Calls Tryd.prog 37 #[.string s, .int .i64 (n : Int)] w fun e w' => ∃ g, e = .returned (.tuple #[.slice (some ⟨g, 0, none⟩) n n, .string (tbR s n), .int .i64 0]) ∧ ValsAt w' (some ⟨g, 0, none⟩) (rowV ((bitsOf s n).map bitV)) ∧ Below w.heap.size w w' := by
  have hT := takeBits_any s n w
  have hL : tbL s n = bitsOf s n := by rw [tbL, if_pos hE, Int.toNat_natCast]
  unfold TB at hT
  rw [hE, hL] at hT
  have hbl := bitsOf_length s n
  generalize tbR s n = R at hT
  generalize bitsOf s n = bs at hT hbl
  clear hL hE
  obtain ⟨i0, hi, hz0, hz1, hz2⟩ := info_partsV infoVal
  have hmk : ∀ u : World, (Instr.makeSlice 22 (.int .i64 (n : Int)) (.int .i64 (n : Int))).run Tryd.prog u =
      .ok (.slice (some ⟨u.heap.size, 0, none⟩) n n) (u.alloc (.cells (bvCells bs 0 n) 27)) := fun u => by
    have h := run_make (P := Tryd.prog) u 22 27 i0 (.agg #[.int .u64 0, .string ⟨#[]⟩]) Tryd.underlying22 hi hz0 .i64 .i64 n n (by omega) (Int.le_refl _) (by rw [hz2]; omega) (by omega)
    rw [Int.toNat_natCast, hz1] at h
    rw [← bvCells_zero]
    exact h
  go_enter Tryd.func37, Tryd.ntmps37
  go_wp2_with fail
  refine hT.mono ?_
  rintro e w1 ⟨A, c, rfl, hB, hb1⟩
  clear hT
  rw [hbl]
  go_wp2_with fail
  go_loopw [27] (fun v wr => ∃ j : Nat, j ≤ n ∧ v = .int .i64 j ∧ Below w1.heap.size w1 wr ∧ Box wr w1.heap.size 27 (bvCells bs j n)) (fun v _ => n - (intOf v).toNat)
  case atStart => exact ⟨0, Nat.zero_le _, rfl, (Below.refl _ _).alloc (Nat.le_refl _) _, Box.new w1 _ _⟩
  case round =>
    obtain ⟨j, hj, rfl, hb, hx⟩ := hrel
    clear hmk
    by_cases hlt : j < n
    · obtain ⟨b0, off, rfl, hb0, hc⟩ := hB (by omega)
      have hck := (hb.cell (p := ⟨b0, off + j, none⟩) hb0).trans (hc j (by omega))
      have hgd : bs.getD j false = bs[j] := by simp [List.getD, show j < bs.length by omega]
      rw [← hgd] at hck
      have hcj := (hx.cell (j * 2)).trans (bvCells_at bs j n j hlt).1
      have hfj := hx.free (j * 2)
      have e1 : IntKind.i64.wrap ((j : Int) + 1) = ((j + 1 : Nat) : Int) := by simp only [IntKind.wrap_i64]; omega
      have Hx := Lib.hid hx
      clear hx hc hB hgd hbl
      cases hv : bs.getD j false
      · rw [hv] at hck
        have HO : Hid (bs.getD j false = false) := Lib.hid hv
        clear hv hcj hfj
        go_wp2
        go_roundw
        case rel => exact ⟨j + 1, hlt, rfl, hb, by rw [bvCells_off bs j n HO.out]; exact Hx.out⟩
        case measure => simp only [intOf]; omega
      · rw [hv] at hck
        have HO : Hid (bs.getD j false = true) := Lib.hid hv
        clear hv
        go_wp2
        go_roundw
        case rel => exact ⟨j + 1, hlt, rfl, hb.setCell (p := ⟨w1.heap.size, j * 2, none⟩) (Nat.le_refl _) _, by rw [← bvCells_on bs j n hlt HO.out]; exact Hx.out.set (j * 2) _⟩
        case measure => simp only [intOf]; omega
    · obtain rfl : j = n := by omega
      have Hx := Lib.hid hx
      have Hbl := Lib.hid hbl
      clear hx hB hbl
      go_wp2
      go_ret3
      exact ⟨w1.heap.size, rfl, bvCells_vals Hbl.out Hx.out, hb1.trans (hb.mono hb1.size)⟩

set_option maxHeartbeats 1000000 in
theorem mtakeBits_not (s : ByteArray) (n : Nat) (w : World) (hE : tbE s n ≠ 0) :
    Calls Tryd.prog 37 #[.string s, .int .i64 (n : Int)] w fun e w' => e = .returned (.tuple #[.slice none 0 0, .string ⟨#[]⟩, .int .i64 (tbE s n)]) ∧ Below w.heap.size w w' := by
  have hT := takeBits_any s n w
  unfold TB at hT
  generalize tbR s n = R at hT
  generalize tbL s n = bs at hT
  have tE : (tbE s n != 0) = true := by simpa using hE
  generalize tbE s n = E at hT tE
  clear hE
  go_enter Tryd.func37, Tryd.ntmps37
  go_wp2_with fail
  refine hT.mono ?_
  rintro e w1 ⟨A, c, rfl, hB, hb1⟩
  clear hT hB
  go_wp2
  go_ret3
  exact ⟨rfl, hb1⟩
end Go.Proofs.YtmpfkommeakgbaaDoor
