/-
  Several texts joined in one file: each says at its own head, below, what it proves, and its conditions.
-/
import Derived.Test.YtdgidbiolklneaaDoorJPlain
import Derived.Test.YtdgidbiolklneaaDoorJWNum
import Derived.Test.YtdgidbiolklneaaDoorJBits
import Derived.Laws.BytesArg
import Derived.Laws.BitsAllLaws
import Derived.Deep.QuietTactic
import Derived.BigQuiet
import Derived.WalkSmall
import Derived.Deep.RegionHeld3
/-
  text.Short, TakeShort, TakeLong answer as the plain functions of PText say, for every text of fewer than 2^62 bytes; nothing that was there is changed. Condition: the package num's table of widths holds 1, 2, 4, 8.
-/
namespace Go.Proofs.YtdgidbiolklneaaDoor
open Go.RowKit

theorem lay_any (k : Int) (s : ByteArray) (w : World) (hw : Wid w) (hk : isW k = true) (hs : s.size < 4611686018427387904) :
    Calls Tryd.prog 69 #[.int .i64 k, .string s] w fun e w' => e = .returned (.tuple #[.string (layR k s), .int .i64 (layE k s)]) ∧ Below w.heap.size w w' := by
  go_enter Tryd.func69, Tryd.ntmps69
  go_wp2_with fail
  refine (put_any k s.size w hw (by omega) (by omega)).mono ?_
  rintro e w1 ⟨rfl, hb⟩
  cases h : layOk k s
  · have h' : putOk k s.size = false := h
    obtain ⟨t1, -⟩ := putE_not h'
    have H := Lib.hid h
    clear h h'
    go_wp2
    go_ret2
    exact ⟨by simp [layR, layE, H.out], hb⟩
  · have h' : putOk k s.size = true := h
    rw [putE_of h']
    have s1 : (putR k s.size).size ≤ 8 := by have := putR_size h'; have := isW_nat hk; omega
    have H := Lib.hid h
    clear h h'
    go_wp2
    go_ret2
    refine ⟨?_, hb⟩
    rw [layR_of H.out, layE_of H.out]
    rfl

theorem ttake_any (k : Int) (s : ByteArray) (w : World) (hw : Wid w) (hs : s.size < 4611686018427387904) :
    Calls Tryd.prog 87 #[.int .i64 k, .string s] w fun e w' => e = .returned (.tuple #[.string (ttA k s), .string (ttR k s), .int .i64 (ttE k s)]) ∧ Below w.heap.size w w' := by
  go_enter Tryd.func87, Tryd.ntmps87
  go_wp2_with fail
  refine (take_any s k w hw).mono ?_
  rintro e w1 ⟨rfl, hb⟩
  cases h : takeOk s k
  · obtain ⟨t1, -⟩ := takeE_not h
    have H := Lib.hid h
    clear h
    go_wp2
    go_ret3
    exact ⟨by simp [ttA, ttR, ttE, H.out], hb⟩
  · rw [takeE_of h]
    have H := Lib.hid h
    clear h
    go_wp2_with fail
    refine (skip_any _ _ w1 (takeV_nonneg s k) (by have := takeR_le s k; unfold maxLen; omega)).mono ?_
    rintro e w2 ⟨rfl, hb2⟩
    go_wp2
    go_ret3
    exact ⟨by simp [ttA, ttR, ttE, H.out], hb.trans (hb2.mono hb.size)⟩

theorem short_any (s : ByteArray) (w : World) (hw : Wid w) (hs : s.size < 4611686018427387904) :
    Calls Tryd.prog 64 #[.string s] w fun e w' => e = .returned (.tuple #[.string (layR 1 s), .int .i64 (layE 1 s)]) ∧ Below w.heap.size w w' := by
  go_enter Tryd.func64, Tryd.ntmps64
  go_wp2_with fail
  refine (lay_any 1 s w hw (by decide) hs).mono ?_
  rintro e w1 ⟨rfl, hb⟩
  go_wp2
  go_ret2
  exact ⟨rfl, hb⟩
theorem takeShort_any (s : ByteArray) (w : World) (hw : Wid w) (hs : s.size < 4611686018427387904) :
    Calls Tryd.prog 88 #[.string s] w fun e w' => e = .returned (.tuple #[.string (ttA 1 s), .string (ttR 1 s), .int .i64 (ttE 1 s)]) ∧ Below w.heap.size w w' := by
  go_enter Tryd.func88, Tryd.ntmps88
  go_wp2_with fail
  refine (ttake_any 1 s w hw hs).mono ?_
  rintro e w1 ⟨rfl, hb⟩
  go_wp2
  go_ret3
  exact ⟨rfl, hb⟩
theorem takeLong_any (s : ByteArray) (w : World) (hw : Wid w) (hs : s.size < 4611686018427387904) :
    Calls Tryd.prog 83 #[.string s] w fun e w' => e = .returned (.tuple #[.string (ttA 4 s), .string (ttR 4 s), .int .i64 (ttE 4 s)]) ∧ Below w.heap.size w w' := by
  go_enter Tryd.func83, Tryd.ntmps83
  go_wp2_with fail
  refine (ttake_any 4 s w hw hs).mono ?_
  rintro e w1 ⟨rfl, hb⟩
  go_wp2
  go_ret3
  exact ⟨rfl, hb⟩
end Go.Proofs.YtdgidbiolklneaaDoor

/-
  text.Long answers as the plain functions of PText say, for every text of fewer than 2^62 bytes; nothing that was there is changed. Condition: the package num's table of widths holds 1, 2, 4, 8.
-/
namespace Go.Proofs.YtdgidbiolklneaaDoor
open Go.RowKit

theorem long_any (s : ByteArray) (w : World) (hw : Wid w) (hs : s.size < 4611686018427387904) :
    Calls Tryd.prog 68 #[.string s] w fun e w' => e = .returned (.tuple #[.string (layR 4 s), .int .i64 (layE 4 s)]) ∧ Below w.heap.size w w' := by
  go_enter Tryd.func68, Tryd.ntmps68
  go_wp2_with fail
  refine (lay_any 4 s w hw (by decide) hs).mono ?_
  rintro e w1 ⟨rfl, hb⟩
  go_wp2
  go_ret2
  exact ⟨rfl, hb⟩
end Go.Proofs.YtdgidbiolklneaaDoor

/-
  num.bytesOf answers how many bytes so many bits need; it leaves the world as it was. No condition but that the number is far below the greatest int.
-/
namespace Go.Proofs.YtdgidbiolklneaaDoor
open Go.RowKit

/-- how many bytes n bits need -/
theorem bytesOf_any (n : Int) (w : World) (h0 : 0 ≤ n) (h1 : n ≤ 9223372036854775800) :
    Calls Tryd.prog 58 #[.int .i64 n] w fun e w' => e = .returned (.int .i64 ((n + 7) / 8)) ∧ w = w' := by
  go_enter Tryd.func58, Tryd.ntmps58
  go_wp2
  go_ret
  exact ⟨rfl, rfl⟩

end Go.Proofs.YtdgidbiolklneaaDoor

/-
  num.Bits answers bits' bytes.
-/
namespace Go.Proofs.YtdgidbiolklneaaDoor
open Go.RowKit

set_option maxHeartbeats 400000 in
theorem bits1_any (k N g B : Nat) (x : Int) (w : World) (hk : k < 1125899906842624) (hN : k / 8 < N)
    (hB : w.cell? ⟨B, 0, none⟩ = some (.slice (some ⟨g, 0, none⟩) N N)) (hg : w.cell? ⟨g, k / 8, none⟩ = some (.int .u8 x)) (hf : w.frozen? ⟨g, k / 8, none⟩ = false) :
    Calls Tryd.prog 59 #[.int .i64 k, .pointer (some ⟨B, 0, none⟩)] w fun e w' => e = .returned (.tuple #[]) ∧ w' = (w.setCell ⟨g, k / 8, none⟩ (.int .u8 (bits .or .u8 x (2 ^ (k % 8) % 256)))).drew := by
  go_enter Tryd.func59, Tryd.ntmps59
  go_wp2
  go_region
  go_wp2
  go_end0
  exact ⟨rfl, rfl⟩

/-- the cells of the bytes, after k bits -/
def bitCells (l : List Bool) (k N : Nat) : Array Value := ((List.range N).map fun j => Value.int .u8 (bitK l k j : Int)).toArray
theorem bitCells_at (l : List Bool) (k N j : Nat) (h : j < N) : (bitCells l k N)[j]? = some (.int .u8 (bitK l k j : Int)) := by
  simp [bitCells, h]
theorem bitCells_set (l : List Bool) (k N : Nat) (h : l.getD k false = true) :
    (bitCells l k N).setIfInBounds (k / 8) (.int .u8 (bits .or .u8 (bitK l k (k / 8) : Int) (2 ^ (k % 8) % 256))) = bitCells l (k + 1) N := by
  rw [or_bit l k h]
  apply Array.ext
  · simp [bitCells]
  · intro i h1 h2
    have hi : i < N := by simpa [bitCells] using h2
    rw [Array.getElem_setIfInBounds (by simpa [bitCells] using hi)]
    split
    · rename_i e
      subst e
      simp [bitCells]
    · rename_i e
      simp [bitCells, bitK_far l k i e]
theorem bitCells_same (l : List Bool) (k N : Nat) (h : l.getD k false = false) : bitCells l k N = bitCells l (k + 1) N := by
  simp [bitCells, bitK_off l k _ h]
theorem bitCells_zero (l : List Bool) (N : Nat) : madeCells #[.int .u8 0] N = bitCells l 0 N := by
  apply Array.ext
  · simp [bitCells, size_madeCells]
  · intro i h1 h2
    simp [bitCells, madeCells, bitK_zero, Nat.mod_one]

set_option maxHeartbeats 400000 in
theorem bits_any (A : Option Addr) (cap : Nat) (l : List Bool) (w : World) (hl : l.length < 1125899906842624) (h : BoolsAt w A l) :
    Calls Tryd.prog 36 #[.slice A l.length cap] w fun e w' => e = .returned (.string (bitsS l)) ∧ Below w.heap.size w w' := by
  obtain ⟨i0, hi, hz0, hz1, hz2⟩ := info_parts (show (Tryd.prog.info? 5).map (fun i => (i.zero, i.size, i.bytes)) = some (some (.int .u8 0), 1, 1) by kernel_rfl)
  have hmk : ∀ u : World, (Instr.makeSlice 42 (.int .i64 (((l.length : Int) + 7) / 8)) (.int .i64 (((l.length : Int) + 7) / 8))).run Tryd.prog u =
      .ok (.slice (some ⟨u.heap.size, 0, none⟩) ((l.length + 7) / 8) ((l.length + 7) / 8)) (u.alloc (.cells (bitCells l 0 ((l.length + 7) / 8)) 5)) := fun u => by
    have h := run_make (P := Tryd.prog) u 42 5 i0 (.int .u8 0) Tryd.underlying42 hi hz0 .i64 .i64 (((l.length : Int) + 7) / 8) (((l.length : Int) + 7) / 8) (by omega) (Int.le_refl _) (by rw [hz2]; omega) (by omega)
    have e : (((l.length : Int) + 7) / 8).toNat = (l.length + 7) / 8 := by omega
    rw [e] at h
    rw [← bitCells_zero]
    simpa [hz1, Value.cells] using h
  have hmf : ∀ (fn : Fn) (first cap : Array Value) (w : World), (Instr.makeFunc fn first cap).run Tryd.prog w = .ok (.func fn first cap) w := fun _ _ _ _ => rfl
  go_enter Tryd.func36, Tryd.ntmps36
  go_wp2_with (first | (go_at_call 58; refine (bytesOf_any _ _ (by omega) (by omega)).mono ?_; rintro e w' ⟨rfl, rfl⟩))
  go_loopw [13] (fun v13 wr => ∃ k : Nat, k ≤ l.length ∧ v13 = .int .i64 k ∧ Below w.heap.size w wr ∧ Box wr w.heap.size 5 (bitCells l k ((l.length + 7) / 8)) ∧
      Box wr (w.heap.size + 1) 42 #[Value.slice (some ⟨w.heap.size, 0, none⟩) ((l.length + 7) / 8) ((l.length + 7) / 8)]) (fun v13 _ => l.length - (intOf v13).toNat)
  case atStart =>
    refine ⟨0, Nat.zero_le _, rfl, ((Below.refl _ _).alloc (Nat.le_refl _) _).alloc (by simp) _, (Box.new w _ _).alloc _, ?_⟩
    exact (Box.new (w.alloc _) _ _).at_ (by simp)
  case round =>
    obtain ⟨k, hk, rfl, hb, hx, hy⟩ := hrel
    have hy0 := hy.cell 0
    by_cases hlt : k < l.length
    · obtain ⟨b, off, rfl, hbl, hc⟩ := h (by omega)
      have hck := (hb.cell (p := ⟨b, off + k, none⟩) hbl).trans (hc k hlt)
      have hj : k / 8 < (l.length + 7) / 8 := by omega
      have hxk := (hx.cell (k / 8)).trans (bitCells_at l k _ _ hj)
      have hfk := hx.free (k / 8)
      have hbound := bitK_lt l k (k / 8)
      clear hc h hmk hmf
      have hgd : l.getD k false = l[k] := by simp [List.getD, hlt]
      have Hgd := Lib.hid hgd
      clear hgd
      cases hv : l[k]
      · rw [hv] at hck
        rw [hv] at Hgd
        have Hx := Lib.hid hx
        have Hy := Lib.hid hy
        clear hx hy hv
        go_wp2
        go_roundw
        case rel => exact ⟨k + 1, by omega, by go_num, hb, (bitCells_same l k _ Hgd.out) ▸ Hx.out, Hy.out⟩
        case measure => simp [intOf]; omega
      · rw [hv] at hck
        rw [hv] at Hgd
        have Hx := Lib.hid hx
        have Hy := Lib.hid hy
        clear hx hy hv
        go_wp2_with (first | (go_at_call 59; refine (bits1_any k _ w.heap.size (w.heap.size + 1) _ _ (by omega) hj hy0 hxk hfk).mono ?_; rintro e w' ⟨rfl, rfl⟩))
        go_roundw
        case rel => exact ⟨k + 1, by omega, by go_num, (hb.setCell (Nat.le_refl _) _).drew, (bitCells_set l k _ Hgd.out) ▸ (Hx.out.set _ _).drew, (Hy.out.apart (by simp) _).drew⟩
        case measure => simp [intOf]; omega
    · obtain rfl : k = l.length := by omega
      have hcv := run_convert_bytes_arg (P := Tryd.prog) wr 42 5 Tryd.underlying42 Tryd.underlying5 w.heap.size 0 ((l.length + 7) / 8) ((l.length + 7) / 8) ((List.range ((l.length + 7) / 8)).map fun j => (bitK l l.length j : Int)) (by simp) (fun i hi => by
        rw [Nat.zero_add, hx.cell i, bitCells_at _ _ _ _ hi]
        simp [hi]) 9 Tryd.underlying9
      clear hmk hmf
      have Hx := Lib.hid hx
      have Hy := Lib.hid hy
      clear hx hy
      go_wp2
      go_ret
      refine ⟨congrArg (fun s : ByteArray => Ending.returned (.string s)) (?_ : _ = bitsS l), hb⟩
      simp [strOfNums, bitsS, bitsL]
end Go.Proofs.YtdgidbiolklneaaDoor
