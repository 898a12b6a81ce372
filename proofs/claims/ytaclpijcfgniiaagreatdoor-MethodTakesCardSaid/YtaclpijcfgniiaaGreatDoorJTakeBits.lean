/-
  Several texts joined in one file: each says at its own head, below, what it proves, and its conditions.
-/
import Derived.Test.YtaclpijcfgniiaaGreatDoorWTakeBits
import Derived.Test.YtaclpijcfgniiaaGreatDoorWMOne
import Derived.Test.YtaclpijcfgniiaaGreatDoorJMV
import Derived.WalkMore
import Derived.Deep.RegionLaw
import Derived.Deep.AppendLies
import Derived.Deep.MidRow
import Derived.Test.YtaclpijcfgniiaaGreatDoorJMem
/-
  strings.TrimLeft of one letter, method.bitsAhead and takeBits answer as the plain functions say; nothing that was there is changed. Conditions: a text's length is an int; at most 64 bits.
-/
namespace Go.Proofs.YtaclpijcfgniiaaGreatDoor
open Go.RowKit

theorem extract_drop (L : ByteArray) (k : Nat) : (L.extract k L.size).data.toList = L.data.toList.drop k := by
  rw [Lib.extract_data, List.take_of_length_le (by rw [List.length_drop, ba_len]; exact Nat.le_refl _)]
theorem nb_drop : ∀ (ls : List UInt8) (k : Nat), k ≤ nb ls → nb (ls.drop k) + k = nb ls
  | _, 0, _ => by simp
  | [], k + 1, h => by simp [nb] at h
  | c :: ls, k + 1, h => by
    by_cases hc : c = 98
    · have e : nb (c :: ls) = nb ls + 1 := by rw [nb, if_pos hc]
      rw [e] at h ⊢
      have := nb_drop ls k (by omega)
      rw [List.drop_succ_cons]
      omega
    · have e : nb (c :: ls) = 0 := by rw [nb, if_neg hc]
      rw [e] at h
      omega
theorem nb_zero {ls : List UInt8} (h : nb ls = 0) : ls = [] ∨ ∃ c t, ls = c :: t ∧ ¬ c = 98 := by
  cases ls with
  | nil => exact .inl rfl
  | cons c t =>
    refine .inr ⟨c, t, rfl, fun hc => ?_⟩
    rw [nb, if_pos hc] at h
    omega
theorem nb_succ {ls : List UInt8} {n : Nat} (h : nb ls = n + 1) : ∃ t, ls = 98 :: t ∧ nb t = n := by
  cases ls with
  | nil => simp [nb] at h
  | cons c t =>
    rw [nb] at h
    by_cases hc : c = 98
    · rw [if_pos hc] at h; exact ⟨t, by rw [hc], by omega⟩
    · rw [if_neg hc] at h; omega

set_option maxHeartbeats 1000000 in
theorem trimLeftByte_any (L : ByteArray) (w : World) :
    Calls Tryz.prog 74 #[.string L, .int .u8 98] w fun e w' => e = .returned (.string (L.extract (nb L.data.toList) L.size)) ∧ Below w.heap.size w w' := by
  obtain ⟨N, hN⟩ : ∃ N, nb L.data.toList = N := ⟨_, rfl⟩
  have hNL : N ≤ L.size := by rw [← hN, ← ba_len]; exact nb_le _
  rw [hN]
  have HN := Lib.hid hN
  clear hN
  go_enter Tryz.func74, Tryz.ntmps74
  go_wp2
  go_loop [0] (fun x => ∃ k : Nat, k ≤ N ∧ x = .string (L.extract k L.size)) (fun x => match x with | .string s => s.size | _ => 0)
  case atStart => exact ⟨0, Nat.zero_le _, by simp⟩
  case round =>
    obtain ⟨k, hk, rfl⟩ := hrel
    have hsz : (L.extract k L.size).size = L.size - k := by rw [ByteArray.size_extract]; omega
    have hx := extract_drop L k
    have hnb := nb_drop L.data.toList k (by rw [HN.out]; exact hk)
    rw [← hx, HN.out] at hnb
    have hex : (L.extract k L.size).extract 1 (L.extract k L.size).size = L.extract (k + 1) L.size := by
      apply ba_ext
      rw [extract_drop, extract_drop, extract_drop, List.drop_drop]
    clear hx
    obtain ⟨T, hT⟩ : ∃ T, L.extract k L.size = T := ⟨_, rfl⟩
    rw [hT] at hsz hnb hex ⊢
    have HT := Lib.hid hT
    clear hT
    have HX := Lib.hid hex
    have HZ := Lib.hid hsz
    by_cases hlt : k < N
    · obtain ⟨t, ht, -⟩ := nb_succ (n := N - k - 1) (ls := T.data.toList) (by omega)
      have h0 : 0 < T.size := by omega
      have hT0 : ((T[0]'h0).toNat : Int) = 98 := by
        have e : T[0]'h0 = T.data.toList[0]'(by rw [ba_len]; exact h0) := rfl
        rw [e]
        simp only [ht]
        rfl
      clear hex hsz ht hnb
      have HS : Hid (T.size = L.size - k) := HZ
      go_wp2
      refine ⟨⟨k + 1, hlt, by rw [HX.out]⟩, ?_⟩
      rw [HX.out]
      simp only [ByteArray.size_extract]
      have := HS.out
      omega
    · obtain rfl : k = N := by omega
      rcases nb_zero (ls := T.data.toList) (by omega) with h | ⟨c, t, ht, hc⟩
      · have hT : T = ⟨#[]⟩ := ba_ext h
        subst hT
        clear hex hsz hnb h
        go_wp2
        go_ret
        exact ⟨by rw [HT.out]; rfl, Below.refl _ _⟩
      · have h0 : 0 < T.size := by rw [← ba_len, ht]; simp
        have hT0 : (((T[0]'h0).toNat : Int) == 98) = false := by
          have e : T[0]'h0 = T.data.toList[0]'(by rw [ba_len]; exact h0) := rfl
          have e2 : T[0]'h0 = c := by rw [e]; simp only [ht]; rfl
          rw [e2]
          have : c.toNat ≠ 98 := fun h => hc (UInt8.toNat_inj.1 (by rw [h]; rfl))
          simp
          omega
        clear hex hsz hnb ht
        go_wp2
        go_ret
        exact ⟨by rw [HT.out]; rfl, Below.refl _ _⟩

set_option maxRecDepth 100000 in
set_option maxHeartbeats 1000000 in
theorem trimLeft_any (L : ByteArray) (w : World) :
    Calls Tryz.prog 61 #[.string L, .string ⟨#[98]⟩] w fun e w' => e = .returned (.string (L.extract (nb L.data.toList) L.size)) ∧ Below w.heap.size w w' := by
  have hT := trimLeftByte_any L w
  rcases str_cases L with ⟨rfl, -⟩ | ⟨ts, -⟩
  · clear hT
    have e0 : (⟨#[]⟩ : ByteArray).extract (nb (⟨#[]⟩ : ByteArray).data.toList) (⟨#[]⟩ : ByteArray).size = ⟨#[]⟩ := rfl
    rw [e0]
    clear e0
    go_enter Tryz.func61, Tryz.ntmps61
    go_wp2
    go_ret
    exact ⟨rfl, Below.refl _ _⟩
  · generalize L.extract (nb L.data.toList) L.size = r at hT
    go_enter Tryz.func61, Tryz.ntmps61
    go_wp2_with fail
    refine hT.mono ?_
    rintro e w1 ⟨rfl, hb⟩
    clear hT
    go_wp2
    go_ret
    exact ⟨rfl, hb⟩
theorem bitsAhead_any (L : ByteArray) (w : World) (hs : L.size < 4611686018427387904) :
    Calls Tryz.prog 39 #[.string L] w fun e w' => e = .returned (.int .i64 (nb L.data.toList : Nat)) ∧ Below w.heap.size w w' := by
  have hT := trimLeft_any L w
  have hNL : nb L.data.toList ≤ L.size := by rw [← ba_len]; exact nb_le _
  have hsz : (L.extract (nb L.data.toList) L.size).size = L.size - nb L.data.toList := by rw [ByteArray.size_extract]; omega
  generalize L.extract (nb L.data.toList) L.size = r at hT hsz
  generalize nb L.data.toList = N at hNL hsz
  have e1 : IntKind.i64.wrap ((L.size : Int) - (r.size : Int)) = (N : Int) := by simp only [IntKind.wrap_i64]; omega
  have HZ := Lib.hid hsz
  clear hsz
  go_enter Tryz.func39, Tryz.ntmps39
  go_wp2_with fail
  refine hT.mono ?_
  rintro e w1 ⟨rfl, hb⟩
  clear hT
  go_wp2
  go_ret
  exact ⟨rfl, hb⟩

/-- bit i, of those ahead of k; the cells of values out of bits, after k of n -/
def bvI (bs : List Bool) (k i : Nat) : Int := if decide (i < k) && bs.getD i false then 1 else 0
def bvCells (bs : List Bool) (k n : Nat) : Array Value := ((List.range n).flatMap fun i => [Value.int .u64 (bvI bs k i), Value.string ⟨#[]⟩]).toArray
theorem bvList_at (f : Nat → Value) (z : Value) : ∀ (n i : Nat), i < n → (((List.range n).flatMap fun i => [f i, z]))[i * 2]? = some (f i) ∧ (((List.range n).flatMap fun i => [f i, z]))[i * 2 + 1]? = some z := by
  intro n
  induction n with
  | zero => intro i h; omega
  | succ n ih =>
    intro i h
    have hl : ((List.range n).flatMap fun i => [f i, z]).length = n * 2 := by
      clear ih h
      induction n with
      | zero => rfl
      | succ n ih2 => rw [List.range_succ, List.flatMap_append, List.length_append, ih2]; simp; omega
    rw [List.range_succ, List.flatMap_append]
    by_cases hi : i < n
    · obtain ⟨h1, h2⟩ := ih i hi
      rw [List.getElem?_append_left (by rw [hl]; omega), List.getElem?_append_left (by rw [hl]; omega)]
      exact ⟨h1, h2⟩
    · obtain rfl : i = n := by omega
      rw [List.getElem?_append_right (by rw [hl]; omega), List.getElem?_append_right (by rw [hl]; omega), hl]
      refine ⟨?_, ?_⟩
      · rw [show i * 2 - i * 2 = 0 by omega]; simp
      · rw [show i * 2 + 1 - i * 2 = 1 by omega]; simp
theorem bvCells_size (bs : List Bool) (k n : Nat) : (bvCells bs k n).size = n * 2 := by
  unfold bvCells
  rw [List.size_toArray]
  induction n with
  | zero => rfl
  | succ n ih => rw [List.range_succ, List.flatMap_append, List.length_append, ih]; simp; omega
theorem bvCells_at (bs : List Bool) (k n i : Nat) (h : i < n) : (bvCells bs k n)[i * 2]? = some (.int .u64 (bvI bs k i)) ∧ (bvCells bs k n)[i * 2 + 1]? = some (.string ⟨#[]⟩) := by
  unfold bvCells
  rw [List.getElem?_toArray, List.getElem?_toArray]
  exact bvList_at (fun i => Value.int .u64 (bvI bs k i)) (Value.string ⟨#[]⟩) n i h
theorem bvCells_ext {a b : Array Value} {n : Nat} (h1 : a.size = n * 2) (h2 : b.size = n * 2) (h : ∀ i, i < n → a[i * 2]? = b[i * 2]? ∧ a[i * 2 + 1]? = b[i * 2 + 1]?) : a = b := by
  apply Array.ext_getElem?
  intro j
  by_cases hj : j < n * 2
  · obtain ⟨g1, g2⟩ := h (j / 2) (by omega)
    have hm : j % 2 = 0 ∨ j % 2 = 1 := by omega
    rcases hm with hm | hm
    · rw [show j / 2 * 2 = j by omega] at g1; exact g1
    · rw [show j / 2 * 2 + 1 = j by omega] at g2; exact g2
  · rw [Array.getElem?_eq_none (by omega), Array.getElem?_eq_none (by omega)]
theorem bvI_far (bs : List Bool) (k i : Nat) (e : ¬ i = k) : bvI bs (k + 1) i = bvI bs k i := by
  have : decide (i < k + 1) = decide (i < k) := by simp; omega
  rw [bvI, bvI, this]
theorem bvI_at (bs : List Bool) (k : Nat) : bvI bs (k + 1) k = if bs.getD k false = true then 1 else 0 := by
  have : decide (k < k + 1) = true := by simp
  rw [bvI, this, Bool.true_and]
theorem bvI_not (bs : List Bool) (k : Nat) : bvI bs k k = 0 := by
  have : decide (k < k) = false := by simp
  rw [bvI, this, Bool.false_and]
  rfl
theorem bvCells_off (bs : List Bool) (k n : Nat) (h : bs.getD k false = false) : bvCells bs (k + 1) n = bvCells bs k n := by
  refine bvCells_ext (bvCells_size _ _ _) (bvCells_size _ _ _) fun i hi => ?_
  obtain ⟨a1, a2⟩ := bvCells_at bs (k + 1) n i hi
  obtain ⟨b1, b2⟩ := bvCells_at bs k n i hi
  rw [a1, a2, b1, b2]
  refine ⟨?_, rfl⟩
  by_cases e : i = k
  · subst e; rw [bvI_at, bvI_not, h]; rfl
  · rw [bvI_far _ _ _ e]
theorem bvCells_on (bs : List Bool) (k n : Nat) (hk : k < n) (h : bs.getD k false = true) : (bvCells bs k n).setIfInBounds (k * 2) (.int .u64 1) = bvCells bs (k + 1) n := by
  refine bvCells_ext (by rw [Array.size_setIfInBounds, bvCells_size]) (bvCells_size _ _ _) fun i hi => ?_
  obtain ⟨a1, a2⟩ := bvCells_at bs (k + 1) n i hi
  obtain ⟨b1, b2⟩ := bvCells_at bs k n i hi
  rw [a1, a2, Array.getElem?_setIfInBounds, Array.getElem?_setIfInBounds, if_neg (show ¬ k * 2 = i * 2 + 1 by omega), b2]
  refine ⟨?_, rfl⟩
  by_cases e : i = k
  · subst e
    rw [if_pos rfl, if_pos (by rw [bvCells_size]; omega), bvI_at, if_pos h]
  · rw [if_neg (by omega), b1, bvI_far _ _ _ e]
theorem made_at (n i : Nat) (hi : i < n) (a b : Value) : (madeCells #[a, b] (n * 2))[i * 2]? = some a ∧ (madeCells #[a, b] (n * 2))[i * 2 + 1]? = some b := by
  have hs : (madeCells #[a, b] (n * 2)).size = n * 2 := by rw [size_madeCells]
  rw [Array.getElem?_eq_getElem (by rw [hs]; omega), Array.getElem?_eq_getElem (by rw [hs]; omega)]
  simp [madeCells]
theorem bvCells_zero (bs : List Bool) (n : Nat) : madeCells #[.int .u64 0, .string ⟨#[]⟩] (n * 2) = bvCells bs 0 n := by
  refine bvCells_ext (by rw [size_madeCells]) (bvCells_size _ _ _) fun i hi => ?_
  obtain ⟨a1, a2⟩ := bvCells_at bs 0 n i hi
  obtain ⟨b1, b2⟩ := made_at n i hi (.int .u64 0) (.string ⟨#[]⟩)
  rw [a1, a2, b1, b2]
  simp [bvI]
theorem bvCells_vals {w : World} {g n : Nat} {bs : List Bool} (hn : bs.length = n) (hx : Box w g 48 (bvCells bs n n)) : ValsAt w (some ⟨g, 0, none⟩) (rowV (bs.map bitV)) := fun _ => by
  refine ⟨g, 0, rfl, hx.lt, fun i hi => ?_⟩
  rw [Nat.zero_add, hx.cell i]
  have hl := rowV_length (bs.map bitV)
  rw [List.length_map, hn] at hl
  have hk : i / 2 < n := by omega
  have hkl : i / 2 < (bs.map bitV).length := by rw [List.length_map, hn]; exact hk
  obtain ⟨a1, a2⟩ := bvCells_at bs n n (i / 2) hk
  obtain ⟨r1, r2⟩ := v_cells (bs.map bitV) (i / 2) hkl
  have hv := List.getElem?_eq_getElem hi
  have hb : bs.getD (i / 2) false = bs[i / 2]'(by omega) := by simp [List.getD, show i / 2 < bs.length by omega]
  have hm : i % 2 = 0 ∨ i % 2 = 1 := by omega
  rcases hm with hm | hm
  · rw [show i / 2 * 2 = i by omega] at a1 r1
    rw [a1, ← hv, r1, List.getElem_map, bvI, hb]
    simp [bitV, hk]
  · rw [show i / 2 * 2 + 1 = i by omega] at a2 r2
    rw [a2, ← hv, r2, List.getElem_map]
    rfl
end Go.Proofs.YtaclpijcfgniiaaGreatDoor

/-
  method.takeBits and take answer as the plain functions say; nothing that was there is changed. Conditions: the package num's table of widths holds 1, 2, 4, 8; texts of fewer than 2^62 bytes; at most 16 letters, each a letter of values.
-/
namespace Go.Proofs.YtaclpijcfgniiaaGreatDoor
open Go.RowKit


set_option maxRecDepth 100000 in
set_option maxHeartbeats 1000000 in
theorem mtakeBits_ok (s : ByteArray) (n : Nat) (w : World) (hn : n ≤ 64) (hE : tbE s n = 0) :
    Calls Tryz.prog 40 #[.string s, .int .i64 (n : Int)] w fun e w' => ∃ g, e = .returned (.tuple #[.slice (some ⟨g, 0, none⟩) n n, .string (tbR s n), .int .i64 0]) ∧ ValsAt w' (some ⟨g, 0, none⟩) (rowV ((bitsOf s n).map bitV)) ∧ Below w.heap.size w w' := by
  have hT := takeBits_any s n w
  have hL : tbL s n = bitsOf s n := by rw [tbL, if_pos hE, Int.toNat_natCast]
  unfold TB at hT
  rw [hE, hL] at hT
  have hbl := bitsOf_length s n
  generalize tbR s n = R at hT
  generalize bitsOf s n = bs at hT hbl
  clear hL hE
  obtain ⟨i0, hi, hz0, hz1, hz2⟩ := info_partsV infoVal
  have hmk : ∀ u : World, (Instr.makeSlice 22 (.int .i64 (n : Int)) (.int .i64 (n : Int))).run Tryz.prog u =
      .ok (.slice (some ⟨u.heap.size, 0, none⟩) n n) (u.alloc (.cells (bvCells bs 0 n) 48)) := fun u => by
    have h := run_make (P := Tryz.prog) u 22 48 i0 (.agg #[.int .u64 0, .string ⟨#[]⟩]) Tryz.underlying22 hi hz0 .i64 .i64 n n (by omega) (Int.le_refl _) (by rw [hz2]; omega) (by omega)
    rw [Int.toNat_natCast, hz1] at h
    rw [← bvCells_zero]
    exact h
  go_enter Tryz.func40, Tryz.ntmps40
  go_wp2_with fail
  refine hT.mono ?_
  rintro e w1 ⟨A, c, rfl, hB, hb1⟩
  clear hT
  rw [hbl]
  go_wp2_with fail
  go_loopw [27] (fun v wr => ∃ j : Nat, j ≤ n ∧ v = .int .i64 j ∧ Below w1.heap.size w1 wr ∧ Box wr w1.heap.size 48 (bvCells bs j n)) (fun v _ => n - (intOf v).toNat)
  case atStart => exact ⟨0, Nat.zero_le _, rfl, (Below.refl _ _).alloc (Nat.le_refl _) _, Box.new w1 _ _⟩
  case round =>
    obtain ⟨j, hj, rfl, hb, hx⟩ := hrel
    clear hmk
    by_cases hlt : j < n
    · obtain ⟨b0, off, rfl, hb0, hc⟩ := hB (by omega)
      have hck := (hb.cell (p := ⟨b0, off + j, none⟩) hb0).trans (hc j (by omega))
      have hgd : bs.getD j false = bs[j] := by simp [List.getD, show j < bs.length by omega]
      rw [← hgd] at hck
      have hcj := (hx.cell (j * 2)).trans (bvCells_at bs j n j hlt).1
      have hfj := hx.free (j * 2)
      have e1 : IntKind.i64.wrap ((j : Int) + 1) = ((j + 1 : Nat) : Int) := by simp only [IntKind.wrap_i64]; omega
      have Hx := Lib.hid hx
      clear hx hc hB hgd hbl
      cases hv : bs.getD j false
      · rw [hv] at hck
        have HO : Hid (bs.getD j false = false) := Lib.hid hv
        clear hv hcj hfj
        go_wp2
        go_roundw
        case rel => exact ⟨j + 1, hlt, rfl, hb, by rw [bvCells_off bs j n HO.out]; exact Hx.out⟩
        case measure => simp only [intOf]; omega
      · rw [hv] at hck
        have HO : Hid (bs.getD j false = true) := Lib.hid hv
        clear hv
        go_wp2
        go_roundw
        case rel => exact ⟨j + 1, hlt, rfl, hb.setCell (p := ⟨w1.heap.size, j * 2, none⟩) (Nat.le_refl _) _, by rw [← bvCells_on bs j n hlt HO.out]; exact Hx.out.set (j * 2) _⟩
        case measure => simp only [intOf]; omega
    · obtain rfl : j = n := by omega
      have Hx := Lib.hid hx
      have Hbl := Lib.hid hbl
      clear hx hB hbl
      go_wp2
      go_ret3
      exact ⟨w1.heap.size, rfl, bvCells_vals Hbl.out Hx.out, hb1.trans (hb.mono hb1.size)⟩

set_option maxHeartbeats 1000000 in
theorem mtakeBits_not (s : ByteArray) (n : Nat) (w : World) (hE : tbE s n ≠ 0) :
    Calls Tryz.prog 40 #[.string s, .int .i64 (n : Int)] w fun e w' => e = .returned (.tuple #[.slice none 0 0, .string ⟨#[]⟩, .int .i64 (tbE s n)]) ∧ Below w.heap.size w w' := by
  have hT := takeBits_any s n w
  unfold TB at hT
  generalize tbR s n = R at hT
  generalize tbL s n = bs at hT
  have tE : (tbE s n != 0) = true := by simpa using hE
  generalize tbE s n = E at hT tE
  clear hE
  go_enter Tryz.func40, Tryz.ntmps40
  go_wp2_with fail
  refine hT.mono ?_
  rintro e w1 ⟨A, c, rfl, hB, hb1⟩
  clear hT hB
  go_wp2
  go_ret3
  exact ⟨rfl, hb1⟩
end Go.Proofs.YtaclpijcfgniiaaGreatDoor
