/-
  How many bits of a number below 65536 are set, reckoned as math/bits does, is the sum of its bits. No condition.
-/
import Derived.Laws.BitsAllLaws
import Derived.Test.YtjpldfkhacchdaaDoorRows
namespace Go.Proofs.YtjpldfkhacchdaaDoor

def on1 (x : Nat) : Nat := ((x / 2) &&& 6148914691236517205) + (x &&& 6148914691236517205)
def on2 (y : Nat) : Nat := ((y / 4) &&& 3689348814741910323) + (y &&& 3689348814741910323)
def on3 (y : Nat) : Nat := (y / 16 + y) &&& 1085102592571150095
def on4 (k y : Nat) : Nat := y + y / k
def onesN (x : Nat) : Nat := on4 4294967296 (on4 65536 (on4 256 (on3 (on2 (on1 x))))) % 128
def popc : Nat → Nat → Nat
  | 0, _ => 0
  | n + 1, x => x % 2 + popc n (x / 2)
theorem popc_more : ∀ (n x : Nat), x < 2 ^ n → popc (n + 1) x = popc n x
  | 0, x, h => by
    obtain rfl : x = 0 := by simpa using h
    rfl
  | n + 1, x, h => by
    rw [popc, popc_more n (x / 2) (by rw [Nat.pow_succ] at h; omega)]
    rfl
theorem popc_twice {x b : Nat} (h : x < 32768) (hb : b < 2) : popc 16 (2 * x + b) = popc 16 x + b := by
  rw [popc_more 15 x (by simpa using h)]
  rw [popc, show (2 * x + b) % 2 = b by omega, show (2 * x + b) / 2 = x by omega]
  omega
def onAll : Nat → Nat → Nat → Bool
  | 0, x, c => onesN x == c
  | d + 1, x, c => onAll d (2 * x) c && onAll d (2 * x + 1) (c + 1)
theorem onAll_to : ∀ (d x : Nat), 2 ^ d * x < 65536 → x < 65536 → onAll d x (popc 16 x) = true → ∀ y, y < 2 ^ d → 2 ^ d * x + y < 65536 → onesN (2 ^ d * x + y) = popc 16 (2 ^ d * x + y)
  | 0, x, _, _, h, y, hy, _ => by
    obtain rfl : y = 0 := by simpa using hy
    simpa [onAll] using h
  | d + 1, x, hx, hx2, h, y, hy, hlt => by
    rw [onAll, Bool.and_eq_true] at h
    rw [Nat.pow_succ] at hy hx hlt ⊢
    have e0 : 2 ^ d * (2 * x) = 2 ^ d * 2 * x := by rw [Nat.mul_assoc]
    have p1 : 1 ≤ 2 ^ d := Nat.one_le_two_pow
    have hxs : 2 * x ≤ 2 ^ d * (2 * x) := Nat.le_mul_of_pos_left _ p1
    obtain ⟨g1, g2⟩ := h
    rcases Nat.lt_or_ge y (2 ^ d) with hd | hd
    · have hx3 : x < 32768 := by omega
      have hh := popc_twice (x := x) (b := 0) hx3 (by decide)
      rw [Nat.add_zero, Nat.add_zero] at hh
      rw [← hh] at g1
      have := onAll_to d (2 * x) (by omega) (by omega) g1 y hd (by omega)
      rwa [e0] at this
    · have e : 2 ^ d * (2 * x + 1) + (y - 2 ^ d) = 2 ^ d * 2 * x + y := by
        rw [Nat.mul_add, e0, Nat.mul_one]
        omega
      have e1 : 2 ^ d * (2 * x + 1) = 2 ^ d * 2 * x + 2 ^ d := by rw [Nat.mul_add, e0, Nat.mul_one]
      have hx3 : x < 32768 := by omega
      rw [← popc_twice (x := x) (b := 1) hx3 (by decide)] at g2
      have := onAll_to d (2 * x + 1) (by omega) (by omega) g2 (y - 2 ^ d) (by omega) (by omega)
      rwa [e] at this
set_option maxRecDepth 100000 in
theorem onAll_16 : onAll 16 0 0 = true := by decide +kernel
theorem onesN_popc {x : Nat} (h : x < 65536) : onesN x = popc 16 x := by
  have := onAll_to 16 0 (by decide) (by decide) onAll_16 x h (by simpa using h)
  simpa using this
end Go.Proofs.YtjpldfkhacchdaaDoor
