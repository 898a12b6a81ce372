/-
  The document's own Which of chapter 7 answers, in memory of its own, the properties that flags tell; nothing that was there is changed. No condition.
-/
import Derived.Test.YtjpldfkhacchdaaDoorPProp
import Derived.Test.YtjpldfkhacchdaaDoorMValI
import Derived.Test.YtjpldfkhacchdaaDoorJMem
namespace Go.Proofs.YtjpldfkhacchdaaDoor
open Go.RowKit

def whI (l : List (Fin 14)) : List Int := l.map fun i => (i.1 : Int)
theorem whI_length (l : List (Fin 14)) : (whI l).length = l.length := by rw [whI, List.length_map]
theorem infoIntP : (Tryd.prog.info? 3).map (fun i => (i.zero, i.size, i.bytes)) = some (some (.int .i64 0), 1, 8) := by kernel_rfl

set_option maxRecDepth 100000 in
set_option maxHeartbeats 1000000 in
theorem rwhich_any (n : Nat) (w : World) (hn : n < 18446744073709551616) :
    Calls Tryd.prog 30 #[.int .u64 (n : Int)] w fun e w' => ∃ v, e = .returned v ∧ w'.ownsRow w.heap.size 3 1 v (wh (n : Int)).length (intVals (whI (wh (n : Int)))) ∧ Below w.heap.size w w' := by
  obtain ⟨i0, hi, hz0, hz1, hz2⟩ := info_partsV infoIntP
  go_enter Tryd.func30, Tryd.ntmps30
  go_wp2
  go_loopw [3, 4, 5] (fun o pv v wr => ∃ k : Nat, k ≤ 14 ∧ v = .int .i64 k ∧ (∃ p : Nat, Hid (p = 2 ^ (15 - k)) ∧ pv = .int .u64 p) ∧ wr.ownsRow w.heap.size 3 1 o (whK (n : Int) k).length (intVals (whI (whK (n : Int) k))) ∧ Below w.heap.size w wr) (fun _ _ v _ => 14 - (intOf v).toNat)
  case atStart => exact ⟨0, by omega, rfl, ⟨32768, Lib.hid rfl, rfl⟩, World.ownsRow_nil _ _ _ _, Below.refl _ _⟩
  case round =>
    obtain ⟨k, hk, rfl, ⟨p, HPp, rfl⟩, hown, hb⟩ := hrel
    by_cases hlt : k < 14
    · have HS := Lib.hid (whK_succ (n : Int) k hlt)
      have hpl : (whK (n : Int) k).length ≤ 14 := Nat.le_trans (whK_le _ _) (wh_le _)
      have hp0 : 0 < p := by rw [HPp.out]; exact Nat.pow_pos (by omega)
      have hp1 : ((p : Int) == 0) = false := by simp; omega
      have HP2 : Hid (p / 2 = 2 ^ (15 - (k + 1))) := Lib.hid (by
        have e : 15 - k = (15 - (k + 1)) + 1 := by omega
        rw [HPp.out, e, Nat.pow_succ]
        omega)
      have hpk : p ≤ 32768 := by
        rw [HPp.out]
        exact Nat.pow_le_pow_right (n := 2) (by omega) (show 15 - k ≤ 15 by omega)
      have hle : n / p ≤ n := Nat.div_le_self _ _
      have hq : ((n : Int) / (p : Int)) = ((n / p : Nat) : Int) := by omega
      have hw1 : IntKind.u64.wrap ((n : Int) / (p : Int)) = ((n / p : Nat) : Int) := by
        rw [hq]
        generalize n / p = q at hle ⊢
        simp only [IntKind.wrap_u64]
        omega
      have hbit : ((IntKind.u64.wrap ((n : Int) / (p : Int))).tmod 2 == 1) = bitP (n : Int) ⟨k, hlt⟩ := by
        rw [hw1, bitP, HPp.out]
        have e : (((n / 2 ^ (15 - k) : Nat) : Int)).tmod 2 = ((n / 2 ^ (15 - k) % 2 : Nat) : Int) := by
          generalize n / 2 ^ (15 - k) = q
          rw [Int.tmod_eq_emod_of_nonneg (Int.natCast_nonneg q)]
          omega
        rw [e, Int.toNat_natCast]
        rw [Bool.eq_iff_iff]
        simp only [beq_iff_eq]
        omega
      have hd : IntKind.u64.wrap ((p : Int) / 2) = ((p / 2 : Nat) : Int) := by
        simp only [IntKind.wrap_u64]
        omega
      clear hw1 hq hle
      clear HPp
      generalize whK (n : Int) k = zs at HS hown hpl
      generalize bitP (n : Int) ⟨k, hlt⟩ = b at HS hbit
      cases b
      · go_wp2
        go_roundw
        case rel => exact ⟨k + 1, by omega, by go_num, ⟨p / 2, HP2, by simp only [Value.int.injEq, true_and]; omega⟩, by rw [HS.out]; simpa using hown, hb⟩
        case measure => simp [intOf]; omega
      · go_wp2_with (first
          | (at_builtin; refine wpList_append_own _ rfl _ _ 71 rfl w.heap.size 3 i0 (.int .i64 0) 1 8 Tryd.underlying71 hi hz0 hz1 hz2 rfl (by decide) _ _ _ rfl (hown.alloc _) ⟨wr.heap.size, 0, none⟩ 1 1 [.int .i64 (k : Int)] rfl rfl (cell_one_new _ _ _) (by simp [Value.oneCell']) (by unfold maxLen; omega) (by omega) (by have := hb.size; simp; omega) ?_))
        intro o' w1 hown' hgrow _
        have hb1 := rowBelow (Nat.le_refl _) hown hb hgrow
        have Hown : Hid (w1.ownsRow w.heap.size 3 1 o' (zs ++ [(⟨k, hlt⟩ : Fin 14)]).length (intVals (whI (zs ++ [(⟨k, hlt⟩ : Fin 14)])))) := Lib.hid (by
          rw [whI, List.map_append, List.map_singleton, intVals_snoc, List.length_append]; exact hown')
        clear hown' hgrow hown hb
        go_wp2
        go_roundw
        case rel => exact ⟨k + 1, by omega, by go_num, ⟨p / 2, HP2, by simp only [Value.int.injEq, true_and]; omega⟩, by rw [HS.out]; exact Hown.out, hb1⟩
        case measure => simp [intOf]; omega
    · obtain rfl : k = 14 := by omega
      go_wp2
      go_ret
      exact ⟨_, rfl, hown, hb⟩

theorem rwhich_len (f : Int) (w : World) (h0 : 0 ≤ f) (h1 : f < 18446744073709551616) :
    Calls Tryd.prog 30 #[.int .u64 f] w fun e w' => ∃ A c, e = .returned (.slice A (wh f).length c) ∧ ValsAt w' A (intVals (whI (wh f))) ∧ Below w.heap.size w w' := by
  obtain ⟨n, rfl⟩ := Int.eq_ofNat_of_zero_le h0
  refine (rwhich_any n w (by omega)).mono ?_
  rintro e w' ⟨v, rfl, hrow, hb⟩
  obtain ⟨A, c, rfl, hV, -⟩ := vals_row hrow
  exact ⟨A, c, rfl, hV, hb⟩
end Go.Proofs.YtjpldfkhacchdaaDoor
