/-
  Several texts joined in one file: each says at its own head, below, what it proves, and its conditions.
-/
import Derived.Laws.BitsAllLaws
import Derived.Test.YtdgidbiolklneaaDoorRows
import Derived.Test.YtdgidbiolklneaaDoorJSame8
/-
  How many bits of a number below 65536 are set, reckoned as math/bits does, is the sum of its bits. No condition.
-/
namespace Go.Proofs.YtdgidbiolklneaaDoor

def on1 (x : Nat) : Nat := ((x / 2) &&& 6148914691236517205) + (x &&& 6148914691236517205)
def on2 (y : Nat) : Nat := ((y / 4) &&& 3689348814741910323) + (y &&& 3689348814741910323)
def on3 (y : Nat) : Nat := (y / 16 + y) &&& 1085102592571150095
def on4 (k y : Nat) : Nat := y + y / k
def onesN (x : Nat) : Nat := on4 4294967296 (on4 65536 (on4 256 (on3 (on2 (on1 x))))) % 128
def popc : Nat → Nat → Nat
  | 0, _ => 0
  | n + 1, x => x % 2 + popc n (x / 2)
theorem popc_more : ∀ (n x : Nat), x < 2 ^ n → popc (n + 1) x = popc n x
  | 0, x, h => by
    obtain rfl : x = 0 := by simpa using h
    rfl
  | n + 1, x, h => by
    rw [popc, popc_more n (x / 2) (by rw [Nat.pow_succ] at h; omega)]
    rfl
theorem popc_twice {x b : Nat} (h : x < 32768) (hb : b < 2) : popc 16 (2 * x + b) = popc 16 x + b := by
  rw [popc_more 15 x (by simpa using h)]
  rw [popc, show (2 * x + b) % 2 = b by omega, show (2 * x + b) / 2 = x by omega]
  omega
def onAll : Nat → Nat → Nat → Bool
  | 0, x, c => onesN x == c
  | d + 1, x, c => onAll d (2 * x) c && onAll d (2 * x + 1) (c + 1)
theorem onAll_to : ∀ (d x : Nat), 2 ^ d * x < 65536 → x < 65536 → onAll d x (popc 16 x) = true → ∀ y, y < 2 ^ d → 2 ^ d * x + y < 65536 → onesN (2 ^ d * x + y) = popc 16 (2 ^ d * x + y)
  | 0, x, _, _, h, y, hy, _ => by
    obtain rfl : y = 0 := by simpa using hy
    simpa [onAll] using h
  | d + 1, x, hx, hx2, h, y, hy, hlt => by
    rw [onAll, Bool.and_eq_true] at h
    rw [Nat.pow_succ] at hy hx hlt ⊢
    have e0 : 2 ^ d * (2 * x) = 2 ^ d * 2 * x := by rw [Nat.mul_assoc]
    have p1 : 1 ≤ 2 ^ d := Nat.one_le_two_pow
    have hxs : 2 * x ≤ 2 ^ d * (2 * x) := Nat.le_mul_of_pos_left _ p1
    obtain ⟨g1, g2⟩ := h
    rcases Nat.lt_or_ge y (2 ^ d) with hd | hd
    · have hx3 : x < 32768 := by omega
      have hh := popc_twice (x := x) (b := 0) hx3 (by decide)
      rw [Nat.add_zero, Nat.add_zero] at hh
      rw [← hh] at g1
      have := onAll_to d (2 * x) (by omega) (by omega) g1 y hd (by omega)
      rwa [e0] at this
    · have e : 2 ^ d * (2 * x + 1) + (y - 2 ^ d) = 2 ^ d * 2 * x + y := by
        rw [Nat.mul_add, e0, Nat.mul_one]
        omega
      have e1 : 2 ^ d * (2 * x + 1) = 2 ^ d * 2 * x + 2 ^ d := by rw [Nat.mul_add, e0, Nat.mul_one]
      have hx3 : x < 32768 := by omega
      rw [← popc_twice (x := x) (b := 1) hx3 (by decide)] at g2
      have := onAll_to d (2 * x + 1) (by omega) (by omega) g2 (y - 2 ^ d) (by omega) (by omega)
      rwa [e] at this
set_option maxRecDepth 100000 in
theorem onAll_16 : onAll 16 0 0 = true := by decide +kernel
theorem onesN_popc {x : Nat} (h : x < 65536) : onesN x = popc 16 x := by
  have := onAll_to 16 0 (by decide) (by decide) onAll_16 x h (by simpa using h)
  simpa using this
end Go.Proofs.YtdgidbiolklneaaDoor

/-
  math/bits.OnesCount64 of a number below 65536, and props.flag, place, isProperty, answer as the plain functions say; nothing is changed. Conditions: as said.
-/
namespace Go.Proofs.YtdgidbiolklneaaDoor
open Go.RowKit

theorem and_nat (a b : Nat) (ha : a < 18446744073709551616) (hb : b < 18446744073709551616) : bits .and .u64 (a : Int) (b : Int) = ((a &&& b : Nat) : Int) := u64_and_nat a b ha hb
theorem wrap_nat (a : Nat) (ha : a < 18446744073709551616) : IntKind.u64.wrap (a : Int) = (a : Int) := by simp only [IntKind.wrap_u64]; omega
def on1I (x : Int) : Int := IntKind.u64.wrap (bits BinOp.and IntKind.u64 (x / 2) 6148914691236517205 + bits BinOp.and IntKind.u64 x 6148914691236517205)
def on2I (y : Int) : Int := IntKind.u64.wrap (bits BinOp.and IntKind.u64 (y / 4) 3689348814741910323 + bits BinOp.and IntKind.u64 y 3689348814741910323)
def on3I (y : Int) : Int := bits BinOp.and IntKind.u64 (IntKind.u64.wrap (y / 16 + y)) 1085102592571150095
def on4I (k : Int) (y : Int) : Int := IntKind.u64.wrap (y + y / k)
theorem on1_nat {x : Nat} (h : x < 18446744073709551616) : on1I (x : Int) = (on1 x : Nat) ∧ on1 x ≤ x + x := by
  have h1 : x / 2 &&& 6148914691236517205 ≤ x / 2 := Nat.and_le_left
  have h2 : x &&& 6148914691236517205 ≤ x := Nat.and_le_left
  have h3 : x / 2 &&& 6148914691236517205 ≤ 6148914691236517205 := Nat.and_le_right
  have h4 : x &&& 6148914691236517205 ≤ 6148914691236517205 := Nat.and_le_right
  refine ⟨?_, by unfold on1; omega⟩
  unfold on1I on1
  rw [show ((x : Int) / 2) = ((x / 2 : Nat) : Int) from rfl]
  rw [show (6148914691236517205 : Int) = ((6148914691236517205 : Nat) : Int) from rfl]
  rw [and_nat _ _ (by omega) (by omega), and_nat _ _ h (by omega), ← Int.natCast_add, wrap_nat _ (by omega)]
theorem on2_nat {x : Nat} (h : x < 18446744073709551616) : on2I (x : Int) = (on2 x : Nat) ∧ on2 x ≤ x + x := by
  have h1 : x / 4 &&& 3689348814741910323 ≤ x / 4 := Nat.and_le_left
  have h2 : x &&& 3689348814741910323 ≤ x := Nat.and_le_left
  have h3 : x / 4 &&& 3689348814741910323 ≤ 3689348814741910323 := Nat.and_le_right
  have h4 : x &&& 3689348814741910323 ≤ 3689348814741910323 := Nat.and_le_right
  refine ⟨?_, by unfold on2; omega⟩
  unfold on2I on2
  rw [show ((x : Int) / 4) = ((x / 4 : Nat) : Int) from rfl]
  rw [show (3689348814741910323 : Int) = ((3689348814741910323 : Nat) : Int) from rfl]
  rw [and_nat _ _ (by omega) (by omega), and_nat _ _ h (by omega), ← Int.natCast_add, wrap_nat _ (by omega)]
theorem on3_nat {x : Nat} (h : x < 1099511627776) : on3I (x : Int) = (on3 x : Nat) ∧ on3 x ≤ x + x := by
  have h1 : (x / 16 + x) &&& 1085102592571150095 ≤ x / 16 + x := Nat.and_le_left
  refine ⟨?_, by unfold on3; omega⟩
  unfold on3I on3
  rw [show ((x : Int) / 16) = ((x / 16 : Nat) : Int) from rfl]
  rw [show (1085102592571150095 : Int) = ((1085102592571150095 : Nat) : Int) from rfl]
  rw [← Int.natCast_add, wrap_nat _ (by omega), and_nat _ _ (by omega) (by omega)]
theorem on4_nat {x k : Nat} (h : x < 1099511627776) : on4I (k : Int) (x : Int) = (on4 k x : Nat) ∧ on4 k x ≤ x + x := by
  have h1 : x / k ≤ x := Nat.div_le_self x k
  refine ⟨?_, by unfold on4; omega⟩
  unfold on4I on4
  rw [show ((x : Int) / (k : Int)) = ((x / k : Nat) : Int) from rfl, ← Int.natCast_add, wrap_nat _ (by omega)]
def onesI (x : Int) : Int := bits BinOp.and IntKind.i64 (wrap64 (on4I 4294967296 (on4I 65536 (on4I 256 (on3I (on2I (on1I x))))))) 127
theorem ones_nat {x : Nat} (h : x < 65536) : onesI (x : Int) = (popc 16 x : Nat) := by
  obtain ⟨e1, b1⟩ := on1_nat (x := x) (by omega)
  obtain ⟨e2, b2⟩ := on2_nat (x := on1 x) (by omega)
  obtain ⟨e3, b3⟩ := on3_nat (x := on2 (on1 x)) (by omega)
  obtain ⟨e4, b4⟩ := on4_nat (x := on3 (on2 (on1 x))) (k := 256) (by omega)
  obtain ⟨e5, b5⟩ := on4_nat (x := on4 256 (on3 (on2 (on1 x)))) (k := 65536) (by omega)
  obtain ⟨e6, b6⟩ := on4_nat (x := on4 65536 (on4 256 (on3 (on2 (on1 x))))) (k := 4294967296) (by omega)
  have e4' : on4I 256 (on3 (on2 (on1 x)) : Nat) = _ := e4
  have e5' : on4I 65536 (on4 256 (on3 (on2 (on1 x))) : Nat) = _ := e5
  have e6' : on4I 4294967296 (on4 65536 (on4 256 (on3 (on2 (on1 x)))) : Nat) = _ := e6
  rw [onesI, e1, e2, e3, e4', e5', e6', i64_and127, ← onesN_popc h, onesN]
  have hw : wrap64 ((on4 4294967296 (on4 65536 (on4 256 (on3 (on2 (on1 x))))) : Nat) : Int) = ((on4 4294967296 (on4 65536 (on4 256 (on3 (on2 (on1 x))))) : Nat) : Int) := by unfold wrap64; omega
  rw [hw]
  rfl
set_option maxRecDepth 100000 in
theorem ones_any (x : Nat) (w : World) (h : x < 65536) : Calls Tryd.prog 38 #[.int .u64 x] w fun e w' => e = .returned (.int .i64 (popc 16 x)) ∧ w' = w := by
  rw [← ones_nat h]
  go_enter Tryd.func38, Tryd.ntmps38
  go_wp2
  go_ret
  exact ⟨rfl, rfl⟩
def flagN (i : Fin 14) : Nat := 2 ^ (15 - i.1)
theorem flag_any (i : Fin 14) (w : World) : Calls Tryd.prog 63 #[.int .i64 (i.1 : Int)] w fun e w' => e = .returned (.int .u64 (flagN i : Nat)) ∧ w' = w := by
  obtain ⟨i, hi⟩ := i
  have hc : i = 0 ∨ i = 1 ∨ i = 2 ∨ i = 3 ∨ i = 4 ∨ i = 5 ∨ i = 6 ∨ i = 7 ∨ i = 8 ∨ i = 9 ∨ i = 10 ∨ i = 11 ∨ i = 12 ∨ i = 13 := by omega
  rcases hc with rfl | rfl | rfl | rfl | rfl | rfl | rfl | rfl | rfl | rfl | rfl | rfl | rfl | rfl
  all_goals
    go_enter Tryd.func63, Tryd.ntmps63
    go_wp2
    go_ret
    exact ⟨rfl, rfl⟩
/-- the test of a flag -/
theorem bit_and {f : Int} (i : Fin 14) (h0 : 0 ≤ f) (h1 : f < 18446744073709551616) : (bits BinOp.and IntKind.u64 f (flagN i : Nat) != 0) = bitP f i := by
  have hf : flagN i < 18446744073709551616 := by
    have : flagN i ≤ 2 ^ 15 := Nat.pow_le_pow_right (by decide) (by omega)
    omega
  have e : f = (f.toNat : Int) := by omega
  have key : ∀ (a k : Nat), ((a &&& 2 ^ k) = 0 ↔ a / 2 ^ k % 2 = 0) := by
    intro a k
    have hb : a.testBit k = decide (a / 2 ^ k % 2 = 1) := Nat.testBit_eq_decide_div_mod_eq
    constructor
    · intro h
      have h2 := congrArg (fun x => Nat.testBit x k) h
      simp only [Nat.testBit_and, Nat.testBit_two_pow_self, Bool.and_true, Nat.zero_testBit, hb, decide_eq_false_iff_not] at h2
      omega
    · intro h
      apply Nat.eq_of_testBit_eq
      intro j
      rw [Nat.testBit_and, Nat.zero_testBit, Nat.testBit_two_pow]
      by_cases hj : k = j
      · subst hj
        rw [hb]
        simp [h]
      · simp [hj]
  have h2 := key f.toNat (15 - i.1)
  rw [e, and_nat _ _ (by omega) hf, bitP, Int.toNat_natCast, flagN]
  by_cases h : f.toNat / 2 ^ (15 - i.1) % 2 = 0
  · rw [h2.2 h, h]
    rfl
  · have h3 : f.toNat / 2 ^ (15 - i.1) % 2 = 1 := by omega
    have h4 : ¬ (f.toNat &&& 2 ^ (15 - i.1)) = 0 := fun x => h (h2.1 x)
    rw [h3, bne_iff_ne.2 (by omega)]
    rfl
end Go.Proofs.YtdgidbiolklneaaDoor
