/-
  props.isProperty and props.place: which places there are, and where a property's value stands among those that flags tell. Conditions: flags of 16 bits.
-/
import Derived.Test.YtjpldfkhacchdaaDoorWPShape
namespace Go.Proofs.YtjpldfkhacchdaaDoor
open Go.RowKit

theorem popc_zero : popc 16 0 = 0 := by decide
theorem whK_popc {f : Int} (h1 : f < 65536) : ∀ k, k ≤ 14 → (whK f k).length = popc 16 (f.toNat / 2 ^ (16 - k))
  | 0, _ => by
    have e : f.toNat / 2 ^ (16 - 0) = 0 := Nat.div_eq_of_lt (by omega)
    rw [whK_zero, e, popc_zero]; rfl
  | k + 1, hk => by
    have ih := whK_popc h1 k (by omega)
    have e0 : 16 - (k + 1) = 15 - k := by omega
    have e1 : 16 - k = (15 - k) + 1 := by omega
    obtain ⟨y, hy⟩ : ∃ y, y = f.toNat / 2 ^ (15 - k) := ⟨_, rfl⟩
    have e2 : f.toNat / 2 ^ (16 - k) = y / 2 := by rw [e1, Nat.pow_succ, ← Nat.div_div_eq_div_mul, ← hy]
    have hylt : y < 65536 := by
      rw [hy]
      exact Nat.lt_of_le_of_lt (Nat.div_le_self _ _) (by omega)
    have hp := popc_twice (x := y / 2) (b := y % 2) (by omega) (by omega)
    have e3 : 2 * (y / 2) + y % 2 = y := by omega
    rw [e3] at hp
    have hb : bitP f ⟨k, by omega⟩ = (y % 2 == 1) := by rw [bitP, hy]
    rw [e0, ← hy, hp, ← e2, ← ih, whK_succ f k (by omega), hb]
    by_cases h : y % 2 = 1
    · rw [h]; simp
    · have h0 : y % 2 = 0 := by omega
      rw [h0]; simp

theorem isProperty_any (i : Int) (w : World) : Calls Tryd.prog 40 #[.int .i64 i] w fun e w' => e = .returned (.bool (decide (0 ≤ i ∧ i < 14))) ∧ w' = w := by
  by_cases h0 : 0 ≤ i
  · by_cases h1 : i < 14
    · rw [decide_eq_true (show 0 ≤ i ∧ i < 14 from ⟨h0, h1⟩)]
      go_enter Tryd.func40, Tryd.ntmps40
      go_wp2
      go_ret
      exact ⟨rfl, rfl⟩
    · rw [decide_eq_false (fun h : 0 ≤ i ∧ i < 14 => h1 h.2)]
      go_enter Tryd.func40, Tryd.ntmps40
      go_wp2
      go_ret
      exact ⟨rfl, rfl⟩
  · rw [decide_eq_false (fun h : 0 ≤ i ∧ i < 14 => h0 h.1)]
    go_enter Tryd.func40, Tryd.ntmps40
    go_wp2
    go_ret
    exact ⟨rfl, rfl⟩

theorem ones_int (x : Int) (n : Nat) (w : World) (h : x = (n : Int)) (h1 : n < 65536) : Calls Tryd.prog 45 #[.int .u64 x] w fun e w' => e = .returned (.int .i64 (popc 16 n : Nat)) ∧ w' = w := by
  rw [h]
  exact ones_any n w h1
set_option maxHeartbeats 2000000 in
theorem place_any (f : Nat) (i : Fin 14) (w : World) (hf : f < 65536) : Calls Tryd.prog 41 #[.int .u64 (f : Int), .int .i64 (i.1 : Int)] w fun e w' => e = .returned (.tuple #[.int .i64 ((whK (f : Int) i.1).length : Nat), .int .i64 ((whK (f : Int) (i.1 + 1)).length : Nat)]) ∧ w' = w := by
  have h1 := whK_popc (f := (f : Int)) (by omega) i.1 (by omega)
  have h2 := whK_popc (f := (f : Int)) (by omega) (i.1 + 1) (by omega)
  rw [Int.toNat_natCast] at h1 h2
  rw [h1, h2]
  clear h1 h2
  obtain ⟨i, hi⟩ := i
  have hc : i = 0 ∨ i = 1 ∨ i = 2 ∨ i = 3 ∨ i = 4 ∨ i = 5 ∨ i = 6 ∨ i = 7 ∨ i = 8 ∨ i = 9 ∨ i = 10 ∨ i = 11 ∨ i = 12 ∨ i = 13 := by omega
  rcases hc with rfl | rfl | rfl | rfl | rfl | rfl | rfl | rfl | rfl | rfl | rfl | rfl | rfl | rfl
  · have k1 : ((f : Int) / 32768 / 2) = ((f / 65536 : Nat) : Int) := by omega
    have k2 : ((f : Int) / 32768) = ((f / 32768 : Nat) : Int) := by omega
    have k3 : f / 65536 < 65536 := by omega
    have k4 : f / 32768 < 65536 := by omega
    have hO1 := fun W => ones_int _ _ W k1 k3
    have hO2 := fun W => ones_int _ _ W k2 k4
    show Calls Tryd.prog 41 #[.int .u64 (f : Int), .int .i64 (0 : Nat)] w fun e w' => e = .returned (.tuple #[.int .i64 (popc 16 (f / 65536) : Nat), .int .i64 (popc 16 (f / 32768) : Nat)]) ∧ w' = w
    generalize popc 16 (f / 65536) = p1 at hO1 ⊢
    generalize popc 16 (f / 32768) = p2 at hO2 ⊢
    clear k1 k2 k3 k4 hi hf
    go_enter Tryd.func41, Tryd.ntmps41
    go_wp2_with fail
    refine (hO1 w).mono ?_
    rintro e w1 ⟨rfl, rfl⟩
    go_wp2_with fail
    refine (hO2 _).mono ?_
    rintro e w1 ⟨rfl, rfl⟩
    go_wp2
    go_ret2
    exact ⟨rfl, rfl⟩
  · have k1 : ((f : Int) / 16384 / 2) = ((f / 32768 : Nat) : Int) := by omega
    have k2 : ((f : Int) / 16384) = ((f / 16384 : Nat) : Int) := by omega
    have k3 : f / 32768 < 65536 := by omega
    have k4 : f / 16384 < 65536 := by omega
    have hO1 := fun W => ones_int _ _ W k1 k3
    have hO2 := fun W => ones_int _ _ W k2 k4
    show Calls Tryd.prog 41 #[.int .u64 (f : Int), .int .i64 (1 : Nat)] w fun e w' => e = .returned (.tuple #[.int .i64 (popc 16 (f / 32768) : Nat), .int .i64 (popc 16 (f / 16384) : Nat)]) ∧ w' = w
    generalize popc 16 (f / 32768) = p1 at hO1 ⊢
    generalize popc 16 (f / 16384) = p2 at hO2 ⊢
    clear k1 k2 k3 k4 hi hf
    go_enter Tryd.func41, Tryd.ntmps41
    go_wp2_with fail
    refine (hO1 w).mono ?_
    rintro e w1 ⟨rfl, rfl⟩
    go_wp2_with fail
    refine (hO2 _).mono ?_
    rintro e w1 ⟨rfl, rfl⟩
    go_wp2
    go_ret2
    exact ⟨rfl, rfl⟩
  · have k1 : ((f : Int) / 8192 / 2) = ((f / 16384 : Nat) : Int) := by omega
    have k2 : ((f : Int) / 8192) = ((f / 8192 : Nat) : Int) := by omega
    have k3 : f / 16384 < 65536 := by omega
    have k4 : f / 8192 < 65536 := by omega
    have hO1 := fun W => ones_int _ _ W k1 k3
    have hO2 := fun W => ones_int _ _ W k2 k4
    show Calls Tryd.prog 41 #[.int .u64 (f : Int), .int .i64 (2 : Nat)] w fun e w' => e = .returned (.tuple #[.int .i64 (popc 16 (f / 16384) : Nat), .int .i64 (popc 16 (f / 8192) : Nat)]) ∧ w' = w
    generalize popc 16 (f / 16384) = p1 at hO1 ⊢
    generalize popc 16 (f / 8192) = p2 at hO2 ⊢
    clear k1 k2 k3 k4 hi hf
    go_enter Tryd.func41, Tryd.ntmps41
    go_wp2_with fail
    refine (hO1 w).mono ?_
    rintro e w1 ⟨rfl, rfl⟩
    go_wp2_with fail
    refine (hO2 _).mono ?_
    rintro e w1 ⟨rfl, rfl⟩
    go_wp2
    go_ret2
    exact ⟨rfl, rfl⟩
  · have k1 : ((f : Int) / 4096 / 2) = ((f / 8192 : Nat) : Int) := by omega
    have k2 : ((f : Int) / 4096) = ((f / 4096 : Nat) : Int) := by omega
    have k3 : f / 8192 < 65536 := by omega
    have k4 : f / 4096 < 65536 := by omega
    have hO1 := fun W => ones_int _ _ W k1 k3
    have hO2 := fun W => ones_int _ _ W k2 k4
    show Calls Tryd.prog 41 #[.int .u64 (f : Int), .int .i64 (3 : Nat)] w fun e w' => e = .returned (.tuple #[.int .i64 (popc 16 (f / 8192) : Nat), .int .i64 (popc 16 (f / 4096) : Nat)]) ∧ w' = w
    generalize popc 16 (f / 8192) = p1 at hO1 ⊢
    generalize popc 16 (f / 4096) = p2 at hO2 ⊢
    clear k1 k2 k3 k4 hi hf
    go_enter Tryd.func41, Tryd.ntmps41
    go_wp2_with fail
    refine (hO1 w).mono ?_
    rintro e w1 ⟨rfl, rfl⟩
    go_wp2_with fail
    refine (hO2 _).mono ?_
    rintro e w1 ⟨rfl, rfl⟩
    go_wp2
    go_ret2
    exact ⟨rfl, rfl⟩
  · have k1 : ((f : Int) / 2048 / 2) = ((f / 4096 : Nat) : Int) := by omega
    have k2 : ((f : Int) / 2048) = ((f / 2048 : Nat) : Int) := by omega
    have k3 : f / 4096 < 65536 := by omega
    have k4 : f / 2048 < 65536 := by omega
    have hO1 := fun W => ones_int _ _ W k1 k3
    have hO2 := fun W => ones_int _ _ W k2 k4
    show Calls Tryd.prog 41 #[.int .u64 (f : Int), .int .i64 (4 : Nat)] w fun e w' => e = .returned (.tuple #[.int .i64 (popc 16 (f / 4096) : Nat), .int .i64 (popc 16 (f / 2048) : Nat)]) ∧ w' = w
    generalize popc 16 (f / 4096) = p1 at hO1 ⊢
    generalize popc 16 (f / 2048) = p2 at hO2 ⊢
    clear k1 k2 k3 k4 hi hf
    go_enter Tryd.func41, Tryd.ntmps41
    go_wp2_with fail
    refine (hO1 w).mono ?_
    rintro e w1 ⟨rfl, rfl⟩
    go_wp2_with fail
    refine (hO2 _).mono ?_
    rintro e w1 ⟨rfl, rfl⟩
    go_wp2
    go_ret2
    exact ⟨rfl, rfl⟩
  · have k1 : ((f : Int) / 1024 / 2) = ((f / 2048 : Nat) : Int) := by omega
    have k2 : ((f : Int) / 1024) = ((f / 1024 : Nat) : Int) := by omega
    have k3 : f / 2048 < 65536 := by omega
    have k4 : f / 1024 < 65536 := by omega
    have hO1 := fun W => ones_int _ _ W k1 k3
    have hO2 := fun W => ones_int _ _ W k2 k4
    show Calls Tryd.prog 41 #[.int .u64 (f : Int), .int .i64 (5 : Nat)] w fun e w' => e = .returned (.tuple #[.int .i64 (popc 16 (f / 2048) : Nat), .int .i64 (popc 16 (f / 1024) : Nat)]) ∧ w' = w
    generalize popc 16 (f / 2048) = p1 at hO1 ⊢
    generalize popc 16 (f / 1024) = p2 at hO2 ⊢
    clear k1 k2 k3 k4 hi hf
    go_enter Tryd.func41, Tryd.ntmps41
    go_wp2_with fail
    refine (hO1 w).mono ?_
    rintro e w1 ⟨rfl, rfl⟩
    go_wp2_with fail
    refine (hO2 _).mono ?_
    rintro e w1 ⟨rfl, rfl⟩
    go_wp2
    go_ret2
    exact ⟨rfl, rfl⟩
  · have k1 : ((f : Int) / 512 / 2) = ((f / 1024 : Nat) : Int) := by omega
    have k2 : ((f : Int) / 512) = ((f / 512 : Nat) : Int) := by omega
    have k3 : f / 1024 < 65536 := by omega
    have k4 : f / 512 < 65536 := by omega
    have hO1 := fun W => ones_int _ _ W k1 k3
    have hO2 := fun W => ones_int _ _ W k2 k4
    show Calls Tryd.prog 41 #[.int .u64 (f : Int), .int .i64 (6 : Nat)] w fun e w' => e = .returned (.tuple #[.int .i64 (popc 16 (f / 1024) : Nat), .int .i64 (popc 16 (f / 512) : Nat)]) ∧ w' = w
    generalize popc 16 (f / 1024) = p1 at hO1 ⊢
    generalize popc 16 (f / 512) = p2 at hO2 ⊢
    clear k1 k2 k3 k4 hi hf
    go_enter Tryd.func41, Tryd.ntmps41
    go_wp2_with fail
    refine (hO1 w).mono ?_
    rintro e w1 ⟨rfl, rfl⟩
    go_wp2_with fail
    refine (hO2 _).mono ?_
    rintro e w1 ⟨rfl, rfl⟩
    go_wp2
    go_ret2
    exact ⟨rfl, rfl⟩
  · have k1 : ((f : Int) / 256 / 2) = ((f / 512 : Nat) : Int) := by omega
    have k2 : ((f : Int) / 256) = ((f / 256 : Nat) : Int) := by omega
    have k3 : f / 512 < 65536 := by omega
    have k4 : f / 256 < 65536 := by omega
    have hO1 := fun W => ones_int _ _ W k1 k3
    have hO2 := fun W => ones_int _ _ W k2 k4
    show Calls Tryd.prog 41 #[.int .u64 (f : Int), .int .i64 (7 : Nat)] w fun e w' => e = .returned (.tuple #[.int .i64 (popc 16 (f / 512) : Nat), .int .i64 (popc 16 (f / 256) : Nat)]) ∧ w' = w
    generalize popc 16 (f / 512) = p1 at hO1 ⊢
    generalize popc 16 (f / 256) = p2 at hO2 ⊢
    clear k1 k2 k3 k4 hi hf
    go_enter Tryd.func41, Tryd.ntmps41
    go_wp2_with fail
    refine (hO1 w).mono ?_
    rintro e w1 ⟨rfl, rfl⟩
    go_wp2_with fail
    refine (hO2 _).mono ?_
    rintro e w1 ⟨rfl, rfl⟩
    go_wp2
    go_ret2
    exact ⟨rfl, rfl⟩
  · have k1 : ((f : Int) / 128 / 2) = ((f / 256 : Nat) : Int) := by omega
    have k2 : ((f : Int) / 128) = ((f / 128 : Nat) : Int) := by omega
    have k3 : f / 256 < 65536 := by omega
    have k4 : f / 128 < 65536 := by omega
    have hO1 := fun W => ones_int _ _ W k1 k3
    have hO2 := fun W => ones_int _ _ W k2 k4
    show Calls Tryd.prog 41 #[.int .u64 (f : Int), .int .i64 (8 : Nat)] w fun e w' => e = .returned (.tuple #[.int .i64 (popc 16 (f / 256) : Nat), .int .i64 (popc 16 (f / 128) : Nat)]) ∧ w' = w
    generalize popc 16 (f / 256) = p1 at hO1 ⊢
    generalize popc 16 (f / 128) = p2 at hO2 ⊢
    clear k1 k2 k3 k4 hi hf
    go_enter Tryd.func41, Tryd.ntmps41
    go_wp2_with fail
    refine (hO1 w).mono ?_
    rintro e w1 ⟨rfl, rfl⟩
    go_wp2_with fail
    refine (hO2 _).mono ?_
    rintro e w1 ⟨rfl, rfl⟩
    go_wp2
    go_ret2
    exact ⟨rfl, rfl⟩
  · have k1 : ((f : Int) / 64 / 2) = ((f / 128 : Nat) : Int) := by omega
    have k2 : ((f : Int) / 64) = ((f / 64 : Nat) : Int) := by omega
    have k3 : f / 128 < 65536 := by omega
    have k4 : f / 64 < 65536 := by omega
    have hO1 := fun W => ones_int _ _ W k1 k3
    have hO2 := fun W => ones_int _ _ W k2 k4
    show Calls Tryd.prog 41 #[.int .u64 (f : Int), .int .i64 (9 : Nat)] w fun e w' => e = .returned (.tuple #[.int .i64 (popc 16 (f / 128) : Nat), .int .i64 (popc 16 (f / 64) : Nat)]) ∧ w' = w
    generalize popc 16 (f / 128) = p1 at hO1 ⊢
    generalize popc 16 (f / 64) = p2 at hO2 ⊢
    clear k1 k2 k3 k4 hi hf
    go_enter Tryd.func41, Tryd.ntmps41
    go_wp2_with fail
    refine (hO1 w).mono ?_
    rintro e w1 ⟨rfl, rfl⟩
    go_wp2_with fail
    refine (hO2 _).mono ?_
    rintro e w1 ⟨rfl, rfl⟩
    go_wp2
    go_ret2
    exact ⟨rfl, rfl⟩
  · have k1 : ((f : Int) / 32 / 2) = ((f / 64 : Nat) : Int) := by omega
    have k2 : ((f : Int) / 32) = ((f / 32 : Nat) : Int) := by omega
    have k3 : f / 64 < 65536 := by omega
    have k4 : f / 32 < 65536 := by omega
    have hO1 := fun W => ones_int _ _ W k1 k3
    have hO2 := fun W => ones_int _ _ W k2 k4
    show Calls Tryd.prog 41 #[.int .u64 (f : Int), .int .i64 (10 : Nat)] w fun e w' => e = .returned (.tuple #[.int .i64 (popc 16 (f / 64) : Nat), .int .i64 (popc 16 (f / 32) : Nat)]) ∧ w' = w
    generalize popc 16 (f / 64) = p1 at hO1 ⊢
    generalize popc 16 (f / 32) = p2 at hO2 ⊢
    clear k1 k2 k3 k4 hi hf
    go_enter Tryd.func41, Tryd.ntmps41
    go_wp2_with fail
    refine (hO1 w).mono ?_
    rintro e w1 ⟨rfl, rfl⟩
    go_wp2_with fail
    refine (hO2 _).mono ?_
    rintro e w1 ⟨rfl, rfl⟩
    go_wp2
    go_ret2
    exact ⟨rfl, rfl⟩
  · have k1 : ((f : Int) / 16 / 2) = ((f / 32 : Nat) : Int) := by omega
    have k2 : ((f : Int) / 16) = ((f / 16 : Nat) : Int) := by omega
    have k3 : f / 32 < 65536 := by omega
    have k4 : f / 16 < 65536 := by omega
    have hO1 := fun W => ones_int _ _ W k1 k3
    have hO2 := fun W => ones_int _ _ W k2 k4
    show Calls Tryd.prog 41 #[.int .u64 (f : Int), .int .i64 (11 : Nat)] w fun e w' => e = .returned (.tuple #[.int .i64 (popc 16 (f / 32) : Nat), .int .i64 (popc 16 (f / 16) : Nat)]) ∧ w' = w
    generalize popc 16 (f / 32) = p1 at hO1 ⊢
    generalize popc 16 (f / 16) = p2 at hO2 ⊢
    clear k1 k2 k3 k4 hi hf
    go_enter Tryd.func41, Tryd.ntmps41
    go_wp2_with fail
    refine (hO1 w).mono ?_
    rintro e w1 ⟨rfl, rfl⟩
    go_wp2_with fail
    refine (hO2 _).mono ?_
    rintro e w1 ⟨rfl, rfl⟩
    go_wp2
    go_ret2
    exact ⟨rfl, rfl⟩
  · have k1 : ((f : Int) / 8 / 2) = ((f / 16 : Nat) : Int) := by omega
    have k2 : ((f : Int) / 8) = ((f / 8 : Nat) : Int) := by omega
    have k3 : f / 16 < 65536 := by omega
    have k4 : f / 8 < 65536 := by omega
    have hO1 := fun W => ones_int _ _ W k1 k3
    have hO2 := fun W => ones_int _ _ W k2 k4
    show Calls Tryd.prog 41 #[.int .u64 (f : Int), .int .i64 (12 : Nat)] w fun e w' => e = .returned (.tuple #[.int .i64 (popc 16 (f / 16) : Nat), .int .i64 (popc 16 (f / 8) : Nat)]) ∧ w' = w
    generalize popc 16 (f / 16) = p1 at hO1 ⊢
    generalize popc 16 (f / 8) = p2 at hO2 ⊢
    clear k1 k2 k3 k4 hi hf
    go_enter Tryd.func41, Tryd.ntmps41
    go_wp2_with fail
    refine (hO1 w).mono ?_
    rintro e w1 ⟨rfl, rfl⟩
    go_wp2_with fail
    refine (hO2 _).mono ?_
    rintro e w1 ⟨rfl, rfl⟩
    go_wp2
    go_ret2
    exact ⟨rfl, rfl⟩
  · have k1 : ((f : Int) / 4 / 2) = ((f / 8 : Nat) : Int) := by omega
    have k2 : ((f : Int) / 4) = ((f / 4 : Nat) : Int) := by omega
    have k3 : f / 8 < 65536 := by omega
    have k4 : f / 4 < 65536 := by omega
    have hO1 := fun W => ones_int _ _ W k1 k3
    have hO2 := fun W => ones_int _ _ W k2 k4
    show Calls Tryd.prog 41 #[.int .u64 (f : Int), .int .i64 (13 : Nat)] w fun e w' => e = .returned (.tuple #[.int .i64 (popc 16 (f / 8) : Nat), .int .i64 (popc 16 (f / 4) : Nat)]) ∧ w' = w
    generalize popc 16 (f / 8) = p1 at hO1 ⊢
    generalize popc 16 (f / 4) = p2 at hO2 ⊢
    clear k1 k2 k3 k4 hi hf
    go_enter Tryd.func41, Tryd.ntmps41
    go_wp2_with fail
    refine (hO1 w).mono ?_
    rintro e w1 ⟨rfl, rfl⟩
    go_wp2_with fail
    refine (hO2 _).mono ?_
    rintro e w1 ⟨rfl, rfl⟩
    go_wp2
    go_ret2
    exact ⟨rfl, rfl⟩
end Go.Proofs.YtjpldfkhacchdaaDoor
