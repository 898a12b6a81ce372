/-
  The document's own Pairs of interchangeref02 answers what text.Pairs answers; nothing that was there is changed. Condition: a text of at most 1048576 bytes.
-/
import Derived.Test.YtnaplfekhjjknaaDoorWPairs
import Derived.Test.YtnaplfekhjjknaaDoorRCut
import Derived.Test.YtnaplfekhjjknaaDoorMStr
namespace Go.Proofs.YtnaplfekhjjknaaDoor
open Go.RowKit

/-- where the bytes 0 stand, the first one of the list being number o -/
def zerosL : List UInt8 → Nat → List Nat
  | [], _ => []
  | b :: l, o => if b == 0 then o :: zerosL l (o + 1) else zerosL l (o + 1)
theorem zerosL_append (a b : List UInt8) (o : Nat) : zerosL (a ++ b) o = zerosL a o ++ zerosL b (o + a.length) := by
  induction a generalizing o with
  | nil => simp [zerosL]
  | cons x a ih =>
    rw [List.cons_append, zerosL, zerosL, ih, List.length_cons]
    have e : o + 1 + a.length = o + (a.length + 1) := by omega
    rw [e]
    split <;> rfl
theorem zerosL_len (l : List UInt8) (o : Nat) : (zerosL l o).length = Lib.countByte l 0 := by
  unfold Lib.countByte
  induction l generalizing o with
  | nil => rfl
  | cons b l ih =>
    rw [zerosL, List.count_cons]
    split
    · rw [List.length_cons, ih]
    · rw [ih]; simp
theorem zerosL_le (l : List UInt8) (o : Nat) : (zerosL l o).length ≤ l.length := by
  rw [zerosL_len]; exact List.count_le_length
theorem zerosL_head {l : List UInt8} {o j : Nat} {r : List Nat} (h : zerosL l o = j :: r) : o ≤ j ∧ Lib.indexByte l 0 = ((j - o : Nat) : Int) ∧ j - o < l.length := by
  induction l generalizing o with
  | nil => cases h
  | cons b l ih =>
    rw [zerosL] at h
    cases hb : b == 0
    · rw [hb] at h
      obtain ⟨h1, h2, h3⟩ := ih h
      refine ⟨by omega, ?_, by rw [List.length_cons]; omega⟩
      rw [Lib.indexByte, hb, h2]
      have : (((j - (o + 1) : Nat) : Int) == -1) = false := by rw [beq_eq_false_iff_ne]; omega
      rw [this]
      simp only [Bool.false_eq_true, if_false]
      omega
    · rw [hb] at h
      simp only [if_true, List.cons.injEq] at h
      refine ⟨by omega, ?_, by rw [List.length_cons]; omega⟩
      rw [Lib.indexByte, hb]
      simp; omega
def zerosTo (s : ByteArray) (k : Nat) : List Nat := zerosL (s.data.toList.take k) 0
theorem zerosTo_succ (s : ByteArray) (k : Nat) (h : k < s.size) : zerosTo s (k + 1) = zerosTo s k ++ (if ((s[k]'h).toNat : Int) == 0 then [k] else []) := by
  rw [zerosTo, List.take_succ_eq_append_getElem (by simpa using h), zerosL_append, zerosTo]
  congr 1
  have e : s.data.toList[k]'(by simpa using h) = s[k]'h := by simp; rfl
  have e2 : (List.take k s.data.toList).length = k := by rw [List.length_take, ba_len]; omega
  have e3 : ((s[k]'h) == 0) = (((s[k]'h).toNat : Int) == 0) := by
    rw [Bool.eq_iff_iff]
    simp only [beq_iff_eq]
    constructor
    · intro h; rw [h]; rfl
    · intro h
      apply UInt8.toNat_inj.1
      have : (0 : UInt8).toNat = 0 := rfl
      omega
  rw [e, e2, zerosL, zerosL, e3]
  simp
theorem zerosTo_le (s : ByteArray) (k : Nat) : (zerosTo s k).length ≤ s.size := by
  have h := zerosL_le (s.data.toList.take k) 0
  rw [List.length_take, ba_len] at h
  unfold zerosTo
  omega
theorem zeros_all (s : ByteArray) : zerosTo s s.size = zerosL s.data.toList 0 := by
  rw [zerosTo, List.take_of_length_le (by rw [ba_len]; exact Nat.le_refl _)]
/-- the places of the bytes 0 tell what PLAIN answers -/
theorem pair_zeros (s : ByteArray) : (pairOk s = true ↔ ∃ j, zerosTo s s.size = [0, j]) ∧ ∀ j, zerosTo s s.size = [0, j] → 1 ≤ j ∧ j < s.size ∧ pairA s = s.extract 1 j ∧ pairB s = s.extract (j + 1) s.size := by
  rw [zeros_all]
  have hx : (s.extract 1 s.size).data.toList = s.data.toList.drop 1 := by
    rw [Lib.extract_data, List.take_of_length_le (by rw [List.length_drop, ba_len]; omega)]
  have hsz := ba_len s
  have key : (pairOk s = true ↔ ∃ j, zerosL s.data.toList 0 = [0, j]) := by
    rw [pairOk, hx, hasFirst]
    cases hl : s.data.toList with
    | nil => simp [zerosL]
    | cons b l =>
      rw [zerosL]
      cases hb : b == 0
      · simp only [List.head?_cons, Bool.false_eq_true, if_false]
        have hb' : b ≠ 0 := by simpa using hb
        constructor
        · intro h; simp at h; exact absurd h.1 hb'
        · rintro ⟨j, h⟩; have := (zerosL_head h).1; omega
      · have hb' : b = 0 := by simpa using hb
        subst hb'
        simp only [List.head?_cons, if_true, List.drop_succ_cons, List.drop_zero, beq_self_eq_true, Bool.true_and, beq_iff_eq]
        rw [← zerosL_len l 1]
        constructor
        · intro h
          obtain ⟨j, hj⟩ := List.length_eq_one_iff.1 h
          exact ⟨j, by rw [hj]⟩
        · rintro ⟨j, h⟩
          simp only [List.cons.injEq, true_and] at h
          rw [h]; rfl
  refine ⟨key, fun j hj => ?_⟩
  have hok := key.2 ⟨j, hj⟩
  have hj2 : ∃ l, s.data.toList = 0 :: l ∧ zerosL l 1 = [j] := by
    cases hl : s.data.toList with
    | nil => rw [hl] at hj; cases hj
    | cons b l =>
      rw [hl, zerosL] at hj
      cases hb : b == 0
      · rw [hb] at hj; have := (zerosL_head hj).1; omega
      · have hb' : b = 0 := by simpa using hb
        subst hb'
        refine ⟨l, rfl, ?_⟩
        simpa using hj
  obtain ⟨l, hl, hz⟩ := hj2
  obtain ⟨h1, h2, h3⟩ := zerosL_head hz
  have hlen : s.size = l.length + 1 := by rw [← hsz, hl, List.length_cons]
  have hat : cutAt (s.extract 1 s.size) 0 = ((j - 1 : Nat) : Int) := by rw [cutAt, hx, hl]; exact h2
  refine ⟨h1, by omega, ?_, ?_⟩
  · rw [pairA, if_pos hok, cutA, hat, if_pos (by omega)]
    apply ba_ext
    rw [Lib.extract_data, hx, Lib.extract_data]
    simp
  · rw [pairB, if_pos hok, cutB, hat, if_pos (by omega)]
    apply ba_ext
    rw [Lib.extract_data, hx, Lib.extract_data, List.drop_drop, ByteArray.size_extract]
    have e : 1 + (((j - 1 : Nat) : Int).toNat + 1) = j + 1 := by omega
    rw [e]
    congr 1
    omega

theorem infoInt : (Tryd.prog.info? 3).map (fun i => (i.zero, i.size, i.bytes)) = some (some (.int .i64 0), 1, 8) := by kernel_rfl
/-- numbers as the row's values -/
def nums (l : List Nat) : List Value := l.map fun (i : Nat) => Value.int .i64 (i : Int)
theorem nums_snoc (l : List Nat) (k : Nat) : nums (l ++ [k]) = nums l ++ [.int .i64 (k : Int)] := by simp [nums]

set_option maxHeartbeats 1000000 in
theorem rpairs_any (s : ByteArray) (w : World) (hs : s.size ≤ 1048576) :
    Calls Tryd.prog 21 #[.string s] w fun e w' => e = .returned (.tuple #[.string (pairA s), .string (pairB s), .bool (pairOk s)]) ∧ Below w.heap.size w w' := by
  obtain ⟨i0, hi, hz0, hz1, hz2⟩ := info_parts infoInt
  have HP := Lib.hid (pair_zeros s)
  go_enter Tryd.func21, Tryd.ntmps21
  go_wp2
  go_loopw [5, 6] (fun o v wr => ∃ k : Nat, k ≤ s.size ∧ v = .int .i64 k ∧ wr.ownsRow w.heap.size 3 1 o (zerosTo s k).length (nums (zerosTo s k)) ∧ Below w.heap.size w wr) (fun _ v _ => s.size - (intOf v).toNat)
  case atStart => exact ⟨0, Nat.zero_le _, rfl, World.ownsRow_nil _ _ _ _, Below.refl _ _⟩
  case round =>
    obtain ⟨k, hk, rfl, hown, hb⟩ := hrel
    by_cases hlt : k < s.size
    · have HS := Lib.hid (zerosTo_succ s k hlt)
      have hpl := zerosTo_le s k
      generalize zerosTo s k = zs at HS hown hpl
      cases hz : (((s[k]'hlt).toNat : Int) == 0)
      · rw [hz] at HS
        go_wp2
        go_roundw
        case rel => exact ⟨k + 1, by omega, by go_num, by rw [HS.out]; simpa using hown, hb⟩
        case measure => simp [intOf]; omega
      · rw [hz] at HS
        go_wp2_with (first
          | (at_builtin; refine wpList_append_own _ rfl _ _ 53 rfl w.heap.size 3 i0 (.int .i64 0) 1 8 Tryd.underlying53 hi hz0 hz1 hz2 rfl (by decide) _ _ _ rfl (hown.alloc _) ⟨wr.heap.size, 0, none⟩ 1 1 [.int .i64 (k : Int)] rfl rfl (cell_one_new _ _ _) (by simp [Value.oneCell']) (by unfold maxLen; omega) (by omega) (by have := hb.size; simp; omega) ?_))
        intro o' w1 hown' hgrow _
        have hb1 := row_below hown hb hgrow
        have Hown : Hid (w1.ownsRow w.heap.size 3 1 o' (zs ++ [k]).length (nums (zs ++ [k]))) := Lib.hid (by rw [nums_snoc]; simpa using hown')
        clear hown' hgrow hown hb
        go_wp2
        go_roundw
        case rel => exact ⟨k + 1, by omega, by go_num, by rw [HS.out]; exact Hown.out, hb1⟩
        case measure => simp [intOf]; omega
    · obtain rfl : k = s.size := by omega
      obtain ⟨A, c, rfl, hv⟩ := vals_of_row hown
      clear hown
      generalize zerosTo s s.size = zs at HP hv ⊢
      by_cases h2 : zs.length = 2
      · obtain ⟨i, j, rfl⟩ : ∃ i j, zs = [i, j] := by
          match zs, h2 with
          | [i, j], _ => exact ⟨i, j, rfl⟩
        obtain ⟨b, off, rfl, hbl, hc⟩ := hv (by simp [nums])
        have c0 : wr.cell? ⟨b, off, none⟩ = some (.int .i64 (i : Int)) := hc 0 (by simp [nums])
        have c1 : wr.cell? ⟨b, off + 1, none⟩ = some (.int .i64 (j : Int)) := hc 1 (by simp [nums])
        clear hc hv
        by_cases hi0 : i = 0
        · subst hi0
          have Hok := Lib.hid (HP.out.1.2 ⟨j, rfl⟩)
          obtain ⟨j1, j2, p1, p2⟩ := HP.out.2 j rfl
          have P1 := Lib.hid p1
          have P2 := Lib.hid p2
          clear p1 p2 HP h2
          go_wp2
          go_quiet (fail)
          go_wp2
          go_ret3
          refine ⟨?_, below_drewN hb _⟩
          rw [P1.out, P2.out, Hok.out]
          rfl
        · have Hok := Lib.hid (show pairOk s = false by
            rw [Bool.eq_false_iff]
            intro h
            obtain ⟨j', h⟩ := HP.out.1.1 h
            simp at h
            exact hi0 h.1)
          have d0 : ((i : Int) != 0) = true := by simpa using hi0
          clear HP h2 hi0
          go_wp2
          go_ret3
          exact ⟨by simp [pairA, pairB, Hok.out], hb⟩
      · have Hok := Lib.hid (show pairOk s = false by
          rw [Bool.eq_false_iff]
          intro h
          obtain ⟨j', h⟩ := HP.out.1.1 h
          rw [h] at h2
          exact h2 rfl)
        have d0 : ((zs.length : Int) != 2) = true := by simp; omega
        clear HP h2 hv
        go_wp2
        go_ret3
        exact ⟨by simp [pairA, pairB, Hok.out], hb⟩
end Go.Proofs.YtnaplfekhjjknaaDoor
