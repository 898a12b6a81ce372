/-
  Several texts joined in one file: each says at its own head, below, what it proves, and its conditions.
-/
import Derived.Laws.BitsAllLaws
import Derived.Test.YtllgkohgcicbhaaGreatDoorRows
import Derived.Test.YtllgkohgcicbhaaGreatDoorZE
import Derived.RangeFuncNested
import Derived.RangeFuncBound
import Derived.RangeFuncCalls
import Derived.RangeFuncLeaves
import Derived.Test.YtllgkohgcicbhaaGreatDoorZA
import Derived.BigQuiet
import Derived.Deep.QuietTactic
import Derived.Shelf.Abstract
import Derived.Shelf.RegionOpen
import Derived.WalkKit
import Derived.OwnWalkIn
import Derived.TacticsInMore
import Derived.LoopNIn
import Derived.LoopIn
import Derived.Maps.AppendAt
import Derived.Sort.QuietIn
import Derived.Laws.EntriesVeiled
import Derived.Test.YtllgkohgcicbhaaGreatDoorJBuild
/-
  How many bits of a number below 65536 are set, reckoned as math/bits does, is the sum of its bits. No condition.
-/
namespace Go.Proofs.YtllgkohgcicbhaaGreatDoor

def on1 (x : Nat) : Nat := ((x / 2) &&& 6148914691236517205) + (x &&& 6148914691236517205)
def on2 (y : Nat) : Nat := ((y / 4) &&& 3689348814741910323) + (y &&& 3689348814741910323)
def on3 (y : Nat) : Nat := (y / 16 + y) &&& 1085102592571150095
def on4 (k y : Nat) : Nat := y + y / k
def onesN (x : Nat) : Nat := on4 4294967296 (on4 65536 (on4 256 (on3 (on2 (on1 x))))) % 128
def popc : Nat → Nat → Nat
  | 0, _ => 0
  | n + 1, x => x % 2 + popc n (x / 2)
theorem popc_more : ∀ (n x : Nat), x < 2 ^ n → popc (n + 1) x = popc n x
  | 0, x, h => by
    obtain rfl : x = 0 := by simpa using h
    rfl
  | n + 1, x, h => by
    rw [popc, popc_more n (x / 2) (by rw [Nat.pow_succ] at h; omega)]
    rfl
theorem popc_twice {x b : Nat} (h : x < 32768) (hb : b < 2) : popc 16 (2 * x + b) = popc 16 x + b := by
  rw [popc_more 15 x (by simpa using h)]
  rw [popc, show (2 * x + b) % 2 = b by omega, show (2 * x + b) / 2 = x by omega]
  omega
def onAll : Nat → Nat → Nat → Bool
  | 0, x, c => onesN x == c
  | d + 1, x, c => onAll d (2 * x) c && onAll d (2 * x + 1) (c + 1)
theorem onAll_to : ∀ (d x : Nat), 2 ^ d * x < 65536 → x < 65536 → onAll d x (popc 16 x) = true → ∀ y, y < 2 ^ d → 2 ^ d * x + y < 65536 → onesN (2 ^ d * x + y) = popc 16 (2 ^ d * x + y)
  | 0, x, _, _, h, y, hy, _ => by
    obtain rfl : y = 0 := by simpa using hy
    simpa [onAll] using h
  | d + 1, x, hx, hx2, h, y, hy, hlt => by
    rw [onAll, Bool.and_eq_true] at h
    rw [Nat.pow_succ] at hy hx hlt ⊢
    have e0 : 2 ^ d * (2 * x) = 2 ^ d * 2 * x := by rw [Nat.mul_assoc]
    have p1 : 1 ≤ 2 ^ d := Nat.one_le_two_pow
    have hxs : 2 * x ≤ 2 ^ d * (2 * x) := Nat.le_mul_of_pos_left _ p1
    obtain ⟨g1, g2⟩ := h
    rcases Nat.lt_or_ge y (2 ^ d) with hd | hd
    · have hx3 : x < 32768 := by omega
      have hh := popc_twice (x := x) (b := 0) hx3 (by decide)
      rw [Nat.add_zero, Nat.add_zero] at hh
      rw [← hh] at g1
      have := onAll_to d (2 * x) (by omega) (by omega) g1 y hd (by omega)
      rwa [e0] at this
    · have e : 2 ^ d * (2 * x + 1) + (y - 2 ^ d) = 2 ^ d * 2 * x + y := by
        rw [Nat.mul_add, e0, Nat.mul_one]
        omega
      have e1 : 2 ^ d * (2 * x + 1) = 2 ^ d * 2 * x + 2 ^ d := by rw [Nat.mul_add, e0, Nat.mul_one]
      have hx3 : x < 32768 := by omega
      rw [← popc_twice (x := x) (b := 1) hx3 (by decide)] at g2
      have := onAll_to d (2 * x + 1) (by omega) (by omega) g2 (y - 2 ^ d) (by omega) (by omega)
      rwa [e] at this
set_option maxRecDepth 100000 in
theorem onAll_16 : onAll 16 0 0 = true := by decide +kernel
theorem onesN_popc {x : Nat} (h : x < 65536) : onesN x = popc 16 x := by
  have := onAll_to 16 0 (by decide) (by decide) onAll_16 x h (by simpa using h)
  simpa using this
end Go.Proofs.YtllgkohgcicbhaaGreatDoor

/-
  math/bits.OnesCount64 of a number below 65536, and props.flag, place, isProperty, answer as the plain functions say; nothing is changed. Conditions: as said.
-/
namespace Go.Proofs.YtllgkohgcicbhaaGreatDoor
open Go.RowKit

theorem and_nat (a b : Nat) (ha : a < 18446744073709551616) (hb : b < 18446744073709551616) : bits .and .u64 (a : Int) (b : Int) = ((a &&& b : Nat) : Int) := u64_and_nat a b ha hb
theorem wrap_nat (a : Nat) (ha : a < 18446744073709551616) : IntKind.u64.wrap (a : Int) = (a : Int) := by simp only [IntKind.wrap_u64]; omega
def on1I (x : Int) : Int := IntKind.u64.wrap (bits BinOp.and IntKind.u64 (x / 2) 6148914691236517205 + bits BinOp.and IntKind.u64 x 6148914691236517205)
def on2I (y : Int) : Int := IntKind.u64.wrap (bits BinOp.and IntKind.u64 (y / 4) 3689348814741910323 + bits BinOp.and IntKind.u64 y 3689348814741910323)
def on3I (y : Int) : Int := bits BinOp.and IntKind.u64 (IntKind.u64.wrap (y / 16 + y)) 1085102592571150095
def on4I (k : Int) (y : Int) : Int := IntKind.u64.wrap (y + y / k)
theorem on1_nat {x : Nat} (h : x < 18446744073709551616) : on1I (x : Int) = (on1 x : Nat) ∧ on1 x ≤ x + x := by
  have h1 : x / 2 &&& 6148914691236517205 ≤ x / 2 := Nat.and_le_left
  have h2 : x &&& 6148914691236517205 ≤ x := Nat.and_le_left
  have h3 : x / 2 &&& 6148914691236517205 ≤ 6148914691236517205 := Nat.and_le_right
  have h4 : x &&& 6148914691236517205 ≤ 6148914691236517205 := Nat.and_le_right
  refine ⟨?_, by unfold on1; omega⟩
  unfold on1I on1
  rw [show ((x : Int) / 2) = ((x / 2 : Nat) : Int) from rfl]
  rw [show (6148914691236517205 : Int) = ((6148914691236517205 : Nat) : Int) from rfl]
  rw [and_nat _ _ (by omega) (by omega), and_nat _ _ h (by omega), ← Int.natCast_add, wrap_nat _ (by omega)]
theorem on2_nat {x : Nat} (h : x < 18446744073709551616) : on2I (x : Int) = (on2 x : Nat) ∧ on2 x ≤ x + x := by
  have h1 : x / 4 &&& 3689348814741910323 ≤ x / 4 := Nat.and_le_left
  have h2 : x &&& 3689348814741910323 ≤ x := Nat.and_le_left
  have h3 : x / 4 &&& 3689348814741910323 ≤ 3689348814741910323 := Nat.and_le_right
  have h4 : x &&& 3689348814741910323 ≤ 3689348814741910323 := Nat.and_le_right
  refine ⟨?_, by unfold on2; omega⟩
  unfold on2I on2
  rw [show ((x : Int) / 4) = ((x / 4 : Nat) : Int) from rfl]
  rw [show (3689348814741910323 : Int) = ((3689348814741910323 : Nat) : Int) from rfl]
  rw [and_nat _ _ (by omega) (by omega), and_nat _ _ h (by omega), ← Int.natCast_add, wrap_nat _ (by omega)]
theorem on3_nat {x : Nat} (h : x < 1099511627776) : on3I (x : Int) = (on3 x : Nat) ∧ on3 x ≤ x + x := by
  have h1 : (x / 16 + x) &&& 1085102592571150095 ≤ x / 16 + x := Nat.and_le_left
  refine ⟨?_, by unfold on3; omega⟩
  unfold on3I on3
  rw [show ((x : Int) / 16) = ((x / 16 : Nat) : Int) from rfl]
  rw [show (1085102592571150095 : Int) = ((1085102592571150095 : Nat) : Int) from rfl]
  rw [← Int.natCast_add, wrap_nat _ (by omega), and_nat _ _ (by omega) (by omega)]
theorem on4_nat {x k : Nat} (h : x < 1099511627776) : on4I (k : Int) (x : Int) = (on4 k x : Nat) ∧ on4 k x ≤ x + x := by
  have h1 : x / k ≤ x := Nat.div_le_self x k
  refine ⟨?_, by unfold on4; omega⟩
  unfold on4I on4
  rw [show ((x : Int) / (k : Int)) = ((x / k : Nat) : Int) from rfl, ← Int.natCast_add, wrap_nat _ (by omega)]
def onesI (x : Int) : Int := bits BinOp.and IntKind.i64 (wrap64 (on4I 4294967296 (on4I 65536 (on4I 256 (on3I (on2I (on1I x))))))) 127
theorem ones_nat {x : Nat} (h : x < 65536) : onesI (x : Int) = (popc 16 x : Nat) := by
  obtain ⟨e1, b1⟩ := on1_nat (x := x) (by omega)
  obtain ⟨e2, b2⟩ := on2_nat (x := on1 x) (by omega)
  obtain ⟨e3, b3⟩ := on3_nat (x := on2 (on1 x)) (by omega)
  obtain ⟨e4, b4⟩ := on4_nat (x := on3 (on2 (on1 x))) (k := 256) (by omega)
  obtain ⟨e5, b5⟩ := on4_nat (x := on4 256 (on3 (on2 (on1 x)))) (k := 65536) (by omega)
  obtain ⟨e6, b6⟩ := on4_nat (x := on4 65536 (on4 256 (on3 (on2 (on1 x))))) (k := 4294967296) (by omega)
  have e4' : on4I 256 (on3 (on2 (on1 x)) : Nat) = _ := e4
  have e5' : on4I 65536 (on4 256 (on3 (on2 (on1 x))) : Nat) = _ := e5
  have e6' : on4I 4294967296 (on4 65536 (on4 256 (on3 (on2 (on1 x)))) : Nat) = _ := e6
  rw [onesI, e1, e2, e3, e4', e5', e6', i64_and127, ← onesN_popc h, onesN]
  have hw : wrap64 ((on4 4294967296 (on4 65536 (on4 256 (on3 (on2 (on1 x))))) : Nat) : Int) = ((on4 4294967296 (on4 65536 (on4 256 (on3 (on2 (on1 x))))) : Nat) : Int) := by unfold wrap64; omega
  rw [hw]
  rfl
set_option maxRecDepth 100000 in
theorem ones_any (x : Nat) (w : World) (h : x < 65536) : Calls Tryz.prog 93 #[.int .u64 x] w fun e w' => e = .returned (.int .i64 (popc 16 x)) ∧ w' = w := by
  rw [← ones_nat h]
  go_enter Tryz.func93, Tryz.ntmps93
  go_wp2
  go_ret
  exact ⟨rfl, rfl⟩
def flagN (i : Fin 14) : Nat := 2 ^ (15 - i.1)
theorem flag_any (i : Fin 14) (w : World) : Calls Tryz.prog 124 #[.int .i64 (i.1 : Int)] w fun e w' => e = .returned (.int .u64 (flagN i : Nat)) ∧ w' = w := by
  obtain ⟨i, hi⟩ := i
  have hc : i = 0 ∨ i = 1 ∨ i = 2 ∨ i = 3 ∨ i = 4 ∨ i = 5 ∨ i = 6 ∨ i = 7 ∨ i = 8 ∨ i = 9 ∨ i = 10 ∨ i = 11 ∨ i = 12 ∨ i = 13 := by omega
  rcases hc with rfl | rfl | rfl | rfl | rfl | rfl | rfl | rfl | rfl | rfl | rfl | rfl | rfl | rfl
  all_goals
    go_enter Tryz.func124, Tryz.ntmps124
    go_wp2
    go_ret
    exact ⟨rfl, rfl⟩
/-- the test of a flag -/
theorem bit_and {f : Int} (i : Fin 14) (h0 : 0 ≤ f) (h1 : f < 18446744073709551616) : (bits BinOp.and IntKind.u64 f (flagN i : Nat) != 0) = bitP f i := by
  have hf : flagN i < 18446744073709551616 := by
    have : flagN i ≤ 2 ^ 15 := Nat.pow_le_pow_right (by decide) (by omega)
    omega
  have e : f = (f.toNat : Int) := by omega
  have key : ∀ (a k : Nat), ((a &&& 2 ^ k) = 0 ↔ a / 2 ^ k % 2 = 0) := by
    intro a k
    have hb : a.testBit k = decide (a / 2 ^ k % 2 = 1) := Nat.testBit_eq_decide_div_mod_eq
    constructor
    · intro h
      have h2 := congrArg (fun x => Nat.testBit x k) h
      simp only [Nat.testBit_and, Nat.testBit_two_pow_self, Bool.and_true, Nat.zero_testBit, hb, decide_eq_false_iff_not] at h2
      omega
    · intro h
      apply Nat.eq_of_testBit_eq
      intro j
      rw [Nat.testBit_and, Nat.zero_testBit, Nat.testBit_two_pow]
      by_cases hj : k = j
      · subst hj
        rw [hb]
        simp [h]
      · simp [hj]
  have h2 := key f.toNat (15 - i.1)
  rw [e, and_nat _ _ (by omega) hf, bitP, Int.toNat_natCast, flagN]
  by_cases h : f.toNat / 2 ^ (15 - i.1) % 2 = 0
  · rw [h2.2 h, h]
    rfl
  · have h3 : f.toNat / 2 ^ (15 - i.1) % 2 = 1 := by omega
    have h4 : ¬ (f.toNat &&& 2 ^ (15 - i.1)) = 0 := fun x => h (h2.1 x)
    rw [h3, bne_iff_ne.2 (by omega)]
    rfl
end Go.Proofs.YtllgkohgcicbhaaGreatDoor

/-
  A range over a function whose iterator goes itself through another one: the body may leave the loop by a return; it keeps what the iterator asks for, also where it leaves. The caller's invariant abides what the iterator writes: blocks of its own that are no cells, or of a type that the caller doesn't lean on. No condition.
-/
namespace Go.Proofs.YtllgkohgcicbhaaGreatDoor
open Go.RowKit

/-- it abides the turn of a block from B on that is no cells, or cells of a type of which q holds -/
def Ab {β : Type} (q : TypeId → Bool) (B : Nat) (J : β → World → Prop) : Prop :=
  ∀ s X Y row, J s X → X.grownBy Y row → (∀ r, row = some r → B ≤ r ∧ ∃ o : Obj, X.heap[r]? = some o ∧ ∀ cs t fz, o = .cells cs t fz → q t = true) → J s Y
theorem Ab.mono {β : Type} {q : TypeId → Bool} {B B' : Nat} {J : β → World → Prop} (h : Ab q B J) (hB : B ≤ B') : Ab q B' J := fun s X Y row hs hg hr => h s X Y row hs hg (fun r e => ⟨Nat.le_trans hB (hr r e).1, (hr r e).2⟩)
theorem not_cells_q {q : TypeId → Bool} {o : Obj} (h : o.isCells = false) : ∀ cs t fz, o = .cells cs t fz → q t = true := fun cs t fz e => by subst e; cases h
theorem Ab.own {β : Type} {q : TypeId → Bool} {B : Nat} {J : β → World → Prop} (h : Ab q B J) : OwnFrom B J := fun s X Y row hs hg hr => h s X Y row hs hg (fun r e => by
  obtain ⟨h1, o, h2, h3⟩ := hr r e
  exact ⟨h1, o, h2, not_cells_q h3⟩)
theorem Ab.alloc {β : Type} {q : TypeId → Bool} {B : Nat} {J : β → World → Prop} (h : Ab q B J) {s : β} {W : World} (o : Obj) (hs : J s W) : J s (W.alloc o) :=
  h s W _ none hs (World.grownBy_alloc W o none) (fun r e => by cases e)
theorem Ab.set {β : Type} {q : TypeId → Bool} {B : Nat} {J : β → World → Prop} (h : Ab q B J) {s : β} {W : World} {b : Nat} {t : TypeId} {v : Value} (hs : J s W) (hb : Boxed W b t v) (hB : B ≤ b) (hq : q t = true) (u : Value) : J s (W.setCell ⟨b, 0, none⟩ u) :=
  h s W _ (some b) hs (grownBy_setCell' W b u) (fun r e => by
    obtain rfl : b = r := by simpa using e
    exact ⟨hB, _, hb, fun cs t' fz e' => by cases e'; exact hq⟩)
theorem Ab.and {β : Type} {q : TypeId → Bool} {B : Nat} {J J' : β → World → Prop} (h : Ab q B J) (h' : Ab q B J') : Ab q B (fun s W => J s W ∧ J' s W) := fun s X Y row hs hg hr => ⟨h s X Y row hs.1 hg hr, h' s X Y row hs.2 hg hr⟩

/-- what an iterator asks to be kept: blocks from B on that are no cells, and cells of a type of which p holds -/
structure Kept (B : Nat) (p : TypeId → Bool) (W W' : World) : Prop where
  size : W.heap.size ≤ W'.heap.size
  same : ∀ (g : Nat) (o : Obj), W.heap[g]? = some o → (o.isCells = false → B ≤ g) → (∀ cs t fz, o = .cells cs t fz → p t = true) → W'.heap[g]? = some o
theorem Kept.refl (B : Nat) (p : TypeId → Bool) (W : World) : Kept B p W W := ⟨Nat.le_refl _, fun _ _ h _ _ => h⟩
theorem Kept.trans {B : Nat} {p : TypeId → Bool} {X Y Z : World} (h : Kept B p X Y) (k : Kept B p Y Z) : Kept B p X Z := ⟨Nat.le_trans h.size k.size, fun g o h1 h2 h3 => k.same g o (h.same g o h1 h2 h3) h2 h3⟩
theorem Kept.of {B : Nat} {p : TypeId → Bool} {X Y : World} (hs : X.heap.size ≤ Y.heap.size) (h : Keeps p X Y) : Kept B p X Y := ⟨hs, fun g o h1 _ h3 => h g o h1 h3⟩
theorem Kept.below {B : Nat} {p : TypeId → Bool} {X Y : World} (h : Below X.heap.size X Y) : Kept B p X Y := .of h.size (Keeps.below h)
theorem Kept.put {B l : Nat} {p : TypeId → Bool} {X : World} {o : Obj} (hl : X.heap[l]? = some o) (ho : o.isCells = false) (hB : l < B) (o' : Obj) : Kept B p X (X.putObj l o') :=
  ⟨by simp, fun g q h1 h2 _ => (World.putObj_heap_other (fun e => by
    subst e
    rw [hl] at h1
    cases h1
    have := h2 ho
    omega)).trans h1⟩
theorem Kept.from {B B' : Nat} {p : TypeId → Bool} {X Y : World} (h : Kept B p X Y) (hB : B ≤ B') : KeepsFrom B' X Y := ⟨h.size, fun k o hk h1 h2 => h.same k o h1 (fun _ => by omega) (fun cs t fz e => by subst e; cases h2)⟩
theorem Kept.boxed {B b : Nat} {p : TypeId → Bool} {X Y : World} (h : Kept B p X Y) {t : TypeId} {v : Value} (hb : Boxed X b t v) (hp : p t = true) : Boxed Y b t v := h.same b _ hb (fun e => by cases e) (fun cs t' fz e => by cases e; exact hp)
theorem Kept.bx {B b : Nat} {p : TypeId → Bool} {X Y : World} (h : Kept B p X Y) {t : TypeId} {l : List Value} (hb : Bx X b t l) (hp : p t = true) : Bx Y b t l := h.same b _ hb (fun e => by cases e) (fun cs t' fz e => by cases e; exact hp)

/-- with no bound on the stack a round's room is any -/
theorem yield_room {P : Program} {m m' l : Nat} {args : Array Value} {W : World} {R : Ending → World → Prop} (h : YieldAt Fence.wide m P l args W R) : YieldAt Fence.wide m' P l args W R := by
  obtain ⟨fn, tmps, assign, body, hy, hR⟩ := h
  exact ⟨fn, tmps, assign, body, hy, hR.1, fun c cs _ => hR.2 c cs (room_wide _)⟩

/-- how the body of such a loop is left -/
def leaves {α : Type} (B : Nat) (Kp : World → World → Prop) (I Ix : List α → World → Prop) (xs : List α) (W : World) : Exit → Act → World → Prop
  | .normal, _, W' => KeepsFrom B W W' ∧ Kp W W' ∧ I xs W'
  | .ret, _, W' => KeepsFrom B W W' ∧ Kp W W' ∧ Ix xs W'
  | _, _, _ => False

/-- the contract of an iterator that goes through another one -/
def Through {α : Type} (P : Program) (gf : Nat) (lb : Array Value) (encs : α → Array Value) (q : TypeId → Bool) (Kp : Nat → World → World → Prop) (Ok : List α → α → Prop) (S Sp : List α → Prop) (w : World) : Prop :=
  ∀ (l : Nat) (J Jx : List α → World → Prop) (W : World), Below w.heap.size w W → Ab q W.heap.size J → Ab q W.heap.size Jx →
    (∀ pre x W1, J pre W1 → Ok pre x → YieldAt Fence.wide 0 P l (encs x) W1 fun e W' => (e = .returned (.bool true) ∧ J (pre ++ [x]) W' ∧ Kp W.heap.size W1 W') ∨ (e = .returned (.bool false) ∧ Jx (pre ++ [x]) W' ∧ Kp W.heap.size W1 W')) →
    J [] W → CallsIn Fence.wide 0 P gf (#[.func (.yield l) #[] #[]] ++ lb) W fun e W' => (∃ v, e = .returned v) ∧ ((∃ xs, S xs ∧ J xs W') ∨ (∃ pre, Sp pre ∧ Jx pre W'))

theorem callsIn_room {n m : Nat} {P : Program} {f : FuncId} {args : Array Value} {w : World} {R : Ending → World → Prop} (h : CallsIn Fence.wide n P f args w R) : CallsIn Fence.wide m P f args w R := callsIn_wide.2 (callsIn_wide.1 h)

theorem wpIn_range_through {n : Nat} {P : Program} {α : Type} {g : Operand} {ps : Array Tmp} {assign body : Code} {Q : Exit → Act → World → Prop} {a : Act} {w : World}
    (h1 : 1 ≤ n) {gf : Nat} {lb : Array Value} (hg : a.eval g = .func (.func gf) #[] lb) (he : ∀ args w, (callFunc gf args).run P w = .ok (.enter gf args) w)
    {encs : α → Array Value} {q : TypeId → Bool} {Kp : Nat → World → World → Prop} {Ok : List α → α → Prop} {S Sp : List α → Prop} {w0 : World} (hseq : Through P gf lb encs q Kp Ok S Sp w0) (hb0 : Below w0.heap.size w0 w) (hps : ∀ x, (encs x).size = ps.size)
    (hKt : ∀ {B : Nat} {X Y Z : World}, Kp B X Y → Kp B Y Z → Kp B X Z)
    (hKb : ∀ (B : Nat) (W : World) (l : Nat) (o o' : Obj), l < B → W.heap[l]? = some o → o.isCells = false → Kp B W (W.putObj l o'))
    (I Ix : List α → World → Prop) (hI : Ab q w.heap.size I) (hIx : Ab q w.heap.size Ix) (h0 : I [] w)
    (Ax : α → Act → Prop)
    (hassign : ∀ (l : Nat) (pre : List α) (x : α) (W : World) (K : Act → World → Prop), I pre W → (∀ a', Ax x a' → K a' W) →
      assign.wpIn (Fence.wide.inRound l) (n - 1 - 1) P (Exit.then K (fun _ _ _ => False)) { tmps := (ps.zip (encs x)).foldl (fun t (p, v) => t.setIfInBounds p v) a.tmps, defers := [] } W)
    (hbody : ∀ (l : Nat) (pre : List α) (x : α) (a' : Act) (W : World), I pre W → Ax x a' → Ok pre x → body.wpIn (Fence.wide.inRound l) (n - 1 - 1) P (leaves w.heap.size (Kp (w.heap.size + 2)) I Ix (pre ++ [x]) W) a' W)
    (hdone : ∀ (D : Nat) (xs : List α) (W : World), w.heap.size ≤ D → S xs → I xs W → W.heap[D]? = some (.deferred (some [])) → Q .normal { a with defers := { target := .collected D, args := #[] } :: a.defers } W)
    (hstop : ∀ (D : Nat) (pre : List α) (W : World), w.heap.size ≤ D → Sp pre → Ix pre W → W.heap[D]? = some (.deferred (some [])) → Code.ret.wpIn Fence.wide n P Q { a with defers := { target := .collected D, args := #[] } :: a.defers } W) :
    (Code.rangeFunc g ps assign body).wpIn Fence.wide n P Q a w := by
  refine wpIn_rangeFunc fun fn hfn => ?_
  rw [show Fence.wide.round = none from rfl]
  obtain ⟨rc, hrc⟩ : ∃ rc : LoopState → Option Code → Loop, rc = fun st pe => { state := st, pending := pe, fn := fn, tmps := a.tmps, params := ps, assign := assign, body := body, defers := w.heap.size } := ⟨_, rfl⟩
  have hent := run_enterLoop_outer (P := P) (w := w) fn a.tmps ps assign body
  have er : ({ state := .ready, pending := none, fn := fn, tmps := a.tmps, params := ps, assign := assign, body := body, defers := w.heap.size } : Loop) = rc .ready none := by rw [hrc]
  rw [er] at hent
  have hL : ((w.alloc (.deferred (some []))).alloc (.loop (rc .ready none))).heap[w.heap.size + 1]? = some (.loop (rc .ready none)) := by
    have h := World.alloc_heap_new (w.alloc (.deferred (some []))) (.loop (rc .ready none))
    rwa [World.size_alloc] at h
  have hD : ((w.alloc (.deferred (some []))).alloc (.loop (rc .ready none))).heap[w.heap.size]? = some (.deferred (some [])) := (Below.heap_alloc _ _ _ (by simp)).trans (World.alloc_heap_new w _)
  have hbl : Below w.heap.size w ((w.alloc (.deferred (some []))).alloc (.loop (rc .ready none))) := ((Below.refl _ w).alloc (Nat.le_refl _) _).alloc (by simp) _
  have hi1 : I [] ((w.alloc (.deferred (some []))).alloc (.loop (rc .ready none))) := hI.alloc _ (hI.alloc _ h0)
  have hsz : ((w.alloc (.deferred (some []))).alloc (.loop (rc .ready none))).heap.size = w.heap.size + 2 := by simp
  generalize (w.alloc (.deferred (some []))).alloc (.loop (rc .ready none)) = W0 at hent hL hD hbl hi1 hsz
  have hkeep : ∀ {X Y : World} {row : Option Nat} {k : Nat} {o : Obj}, X.grownBy Y row → (∀ r, row = some r → W0.heap.size ≤ r ∧ ∃ o : Obj, X.heap[r]? = some o ∧ ∀ cs t fz, o = .cells cs t fz → q t = true) → k < w.heap.size + 2 → X.heap[k]? = some o → Y.heap[k]? = some o := by
    intro X Y row k o hgr hr hk ho
    refine (hgr.block k (Array.getElem?_eq_some_iff.1 ho).1 (fun e => ?_)).trans ho
    have := (hr k e.symm).1
    omega
  have hlow : ∀ {X : World} {row : Option Nat}, (∀ r, row = some r → W0.heap.size ≤ r ∧ ∃ o : Obj, X.heap[r]? = some o ∧ ∀ cs t fz, o = .cells cs t fz → q t = true) → (∀ r, row = some r → w.heap.size ≤ r ∧ ∃ o : Obj, X.heap[r]? = some o ∧ ∀ cs t fz, o = .cells cs t fz → q t = true) := by
    intro X row hr r e
    obtain ⟨h1, h2⟩ := hr r e
    exact ⟨by omega, h2⟩
  refine ⟨w.heap.size + 1, _, W0, { target := .fn (.func gf) lb, args := #[.func (.yield (w.heap.size + 1)) #[] #[]] }, W0, gf, #[.func (.yield (w.heap.size + 1)) #[] #[]] ++ lb, W0, hent, ?_, ?_, ?_, fun _ => h1, ?_⟩
  · simp only [resolve, hg]
    simp [go_sem]
  · intro f' _
    trivial
  · simp [invoke, go_sem, he]
  refine (callsIn_room (hseq (w.heap.size + 1) (fun pre W => I pre W ∧ W.heap[w.heap.size + 1]? = some (.loop (rc .ready none)) ∧ W.heap[w.heap.size]? = some (.deferred (some [])))
    (fun pre W => Ix pre W ∧ W.heap[w.heap.size + 1]? = some (.loop (rc .done (some .ret))) ∧ W.heap[w.heap.size]? = some (.deferred (some []))) W0 (hb0.trans (hbl.mono hb0.size)) ?abJ ?abX ?yield ⟨hi1, hL, hD⟩)).mono ?_
  case abJ =>
    rintro s X Y row ⟨hs, hl, hd⟩ hgr hr
    exact ⟨hI s X Y row hs hgr (hlow hr), hkeep hgr hr (by omega) hl, hkeep hgr hr (by omega) hd⟩
  case abX =>
    rintro s X Y row ⟨hs, hl, hd⟩ hgr hr
    exact ⟨hIx s X Y row hs hgr (hlow hr), hkeep hgr hr (by omega) hl, hkeep hgr hr (by omega) hd⟩
  case yield =>
    rintro pre x W ⟨hi, hl, hd⟩ hlen
    refine yield_room (m := n - 1 - 1) ?_
    have hy := run_yield (P := P) (args := encs x) hl (by rw [hrc]; exact hps x)
    rw [hrc] at hy
    refine ⟨fn, _, assign, body, hy, roundIn_of_wpIn hfn (hassign _ pre x W _ hi ?_)⟩
    clear hy
    intro a' hax
    refine ⟨_, run_beginRound hl (by rw [hrc]), ?_⟩
    have hlt : w.heap.size + 1 < W.heap.size := (Array.getElem?_eq_some_iff.1 hl).1
    have hl2 : (W.putObj (w.heap.size + 1) (.loop { rc .ready none with state := .busy })).heap[w.heap.size + 1]? = some (.loop { rc .ready none with state := .busy }) := World.putObj_heap_same hlt
    have hd2 : (W.putObj (w.heap.size + 1) (.loop { rc .ready none with state := .busy })).heap[w.heap.size]? = some (.deferred (some [])) := (World.putObj_heap_other (by omega)).trans hd
    have hk2 := hKb (w.heap.size + 2) W (w.heap.size + 1) _ (.loop { rc .ready none with state := .busy }) (by omega) hl rfl
    refine wpIn_mono (hbody _ pre x a' _ (hI.own.putObj _ hi (by omega) hl rfl) hax hlen) ?_
    rw [hsz]
    rintro e a3 W3 hp
    cases e with
    | normal =>
      obtain ⟨k3, kp3, hi3⟩ := hp
      have hl3 := k3.same _ _ (by omega) hl2 rfl
      have hd3 := k3.same _ _ (Nat.le_refl _) hd2 rfl
      have hend := run_endRound (P := P) none hl3
      have hrr : ({ { rc .ready none with state := .busy } with state := if (none : Option Code).isNone then LoopState.ready else LoopState.done, pending := none } : Loop) = rc .ready none := by rw [hrc]; rfl
      rw [hrr] at hend
      exact ⟨_, _, hend, .inl ⟨rfl, ⟨hI.own.putObj _ hi3 (by omega) hl3 rfl, World.putObj_heap_same (Array.getElem?_eq_some_iff.1 hl3).1, (World.putObj_heap_other (by omega)).trans hd3⟩, hKt hk2 (hKt kp3 (hKb _ _ _ _ _ (by omega) hl3 rfl))⟩⟩
    | ret =>
      obtain ⟨k3, kp3, hi3⟩ := hp
      have hl3 := k3.same _ _ (by omega) hl2 rfl
      have hd3 := k3.same _ _ (Nat.le_refl _) hd2 rfl
      have hend := run_endRound (P := P) (some .ret) hl3
      have hrr : ({ { rc .ready none with state := .busy } with state := if (some Code.ret).isNone then LoopState.ready else LoopState.done, pending := some Code.ret } : Loop) = rc .done (some .ret) := by rw [hrc]; rfl
      rw [hrr] at hend
      exact ⟨_, _, hend, .inr ⟨rfl, ⟨hIx.own.putObj _ hi3 (by omega) hl3 rfl, World.putObj_heap_same (Array.getElem?_eq_some_iff.1 hl3).1, (World.putObj_heap_other (by omega)).trans hd3⟩, hKt hk2 (hKt kp3 (hKb _ _ _ _ _ (by omega) hl3 rfl))⟩⟩
    | exit id => exact hp.elim
    | goto t => exact hp.elim
    | panic c => exact hp.elim
    | outgrown => exact hp.elim
  · rintro e W2 ⟨⟨v, rfl⟩, (⟨xs, hS, hi, hl, hd⟩ | ⟨pre, hSp, hi, hl, hd⟩)⟩
    · have hend := run_endLoop (P := P) hl (by rw [hrc]; simp)
      rw [show (rc .ready none).pending = none by rw [hrc]] at hend
      exact ⟨none, _, hend, hdone _ xs _ (Nat.le_refl _) hS (hI.own.putObj _ hi (by omega) hl rfl) ((World.putObj_heap_other (by omega)).trans hd)⟩
    · have hend := run_endLoop (P := P) hl (by rw [hrc]; simp)
      rw [show (rc .done (some .ret)).pending = some .ret by rw [hrc]] at hend
      exact ⟨some .ret, _, hend, hstop _ pre _ (Nat.le_refl _) hSp (hIx.own.putObj _ hi (by omega) hl rfl) ((World.putObj_heap_other (by omega)).trans hd)⟩
end Go.Proofs.YtllgkohgcicbhaaGreatDoor

/-
  props.shape and beginning answer as the plain functions say; nothing that was there is changed. Conditions: the package num's table of widths holds 1, 2, 4, 8; size and flags are uint64s.
-/
namespace Go.Proofs.YtllgkohgcicbhaaGreatDoor
open Go.RowKit

def encH (h : He) (A : Option Addr) (cap : Nat) : Value := .agg #[.int .i64 h.c, .int .u64 h.z, .int .u64 h.f, .slice A h.l.length cap]
def cellsH (h : He) (A : Option Addr) (cap : Nat) : List Value := [.int .i64 h.c, .int .u64 h.z, .int .u64 h.f, .slice A h.l.length cap]

theorem flags_test {f : Int} (h0 : 0 ≤ f) (h1 : f < 18446744073709551616) : (bits BinOp.andNot IntKind.u64 f 65532 != 0) = !(decide (f < 65536 ∧ f % 4 = 0)) := by
  obtain ⟨a, rfl⟩ : ∃ a : Nat, f = (a : Int) := ⟨f.toNat, by omega⟩
  have ha : a < 18446744073709551616 := by omega
  have e : bits BinOp.andNot IntKind.u64 (a : Int) 65532 = ((a &&& 18446744073709486083 : Nat) : Int) := u64_andNot_nat a 65532 ha (by decide)
  rw [e]
  have x1 : (a &&& 18446744073709486083) % 2 ^ 16 = a % 4 := by
    rw [Nat.and_mod_two_pow]
    have : (18446744073709486083 : Nat) % 2 ^ 16 = 2 ^ 2 - 1 := by decide
    rw [this, Nat.and_two_pow_sub_one_eq_mod]
    omega
  have x2 : (a &&& 18446744073709486083) / 2 ^ 16 = a / 65536 := by
    rw [← Nat.shiftRight_eq_div_pow, Nat.shiftRight_and_distrib]
    have : (18446744073709486083 : Nat) >>> 16 = 2 ^ 48 - 1 := by decide
    rw [this, Nat.and_two_pow_sub_one_eq_mod, Nat.shiftRight_eq_div_pow]
    omega
  generalize (a &&& 18446744073709486083) = x at x1 x2
  by_cases h : (a : Int) < 65536 ∧ (a : Int) % 4 = 0
  · have : x = 0 := by omega
    subst this
    simp [h]
  · have : ¬ x = 0 := by intro e; subst e; apply h; omega
    have t : ((x : Int) != 0) = true := by simp; omega
    rw [t, decide_eq_false h]
    rfl
theorem bit_num (f : Int) (i : Fin 14) : (if bitP f i = true then 1 else 0) = f.toNat / 2 ^ (15 - i.1) % 2 := by
  unfold bitP
  by_cases h : f.toNat / 2 ^ (15 - i.1) % 2 = 1
  · simp [h]
  · have : f.toNat / 2 ^ (15 - i.1) % 2 = 0 := by omega
    simp [this]
theorem wh_popc {f : Int} (h2 : f % 4 = 0) : (wh f).length = popc 16 f.toNat := by
  have e : List.finRange 14 = [0, 1, 2, 3, 4, 5, 6, 7, 8, 9, 10, 11, 12, 13] := by decide
  have ec : (wh f).length = List.countP (bitP f) (List.finRange 14) := List.countP_eq_length_filter.symm
  rw [ec, e]
  simp only [List.countP_cons, List.countP_nil, bit_num]
  simp only [popc, Nat.div_div_eq_div_mul]
  simp only [Nat.reduceMul]
  have b0 : f.toNat % 2 = 0 := by omega
  have b1 : f.toNat / 2 % 2 = 0 := by omega
  rw [b0, b1]
  clear b0 b1 h2 ec e
  show _ + f.toNat / 4 % 2 + f.toNat / 8 % 2 + f.toNat / 16 % 2 + f.toNat / 32 % 2 + f.toNat / 64 % 2 + f.toNat / 128 % 2 + f.toNat / 256 % 2 + f.toNat / 512 % 2 + f.toNat / 1024 % 2 + f.toNat / 2048 % 2 + f.toNat / 4096 % 2 + f.toNat / 8192 % 2 + f.toNat / 16384 % 2 + f.toNat / 32768 % 2 = _
  generalize f.toNat / 4 % 2 = a2
  generalize f.toNat / 8 % 2 = a3
  generalize f.toNat / 16 % 2 = a4
  generalize f.toNat / 32 % 2 = a5
  generalize f.toNat / 64 % 2 = a6
  generalize f.toNat / 128 % 2 = a7
  generalize f.toNat / 256 % 2 = a8
  generalize f.toNat / 512 % 2 = a9
  generalize f.toNat / 1024 % 2 = a10
  generalize f.toNat / 2048 % 2 = a11
  generalize f.toNat / 4096 % 2 = a12
  generalize f.toNat / 8192 % 2 = a13
  generalize f.toNat / 16384 % 2 = a14
  generalize f.toNat / 32768 % 2 = a15
  omega

theorem put8_ok {v : Int} (h : 0 ≤ v ∧ v < 18446744073709551616) : putOk 8 v = true := by
  unfold putOk
  simp [isW]
  omega
theorem put2_okP {v : Int} (h : 0 ≤ v ∧ v < 65536) : putOk 2 v = true := by
  unfold putOk
  simp [isW]
  omega
set_option maxHeartbeats 1000000 in
theorem shape_any (h : He) (A : Option Addr) (cap : Nat) (w : World) (hh : wfH h) :
    Calls Tryz.prog 75 #[encH h A cap] w fun e w' => e = .returned (.int .i64 (shE h)) ∧ Below w.heap.size w w' := by
  obtain ⟨⟨z0, z1⟩, ⟨f0, f1⟩, -⟩ := hh
  have hb0 : Below w.heap.size w (w.alloc (.cells #[.int .i64 h.c, .int .u64 h.z, .int .u64 h.f, .slice A h.l.length cap] 27)) := (Below.refl _ w).alloc (Nat.le_refl _) _
  have ht := flags_test f0 f1
  have HS : Hid (shE h = if shOk h then (if 65536 < h.z then 4 else 0) else 7) := Lib.hid rfl
  by_cases hc : h.c = 60
  · have tc : (h.c != 60) = false := by simp [hc]
    by_cases hf : h.f < 65536 ∧ h.f % 4 = 0
    · rw [decide_eq_true hf, Bool.not_true] at ht
      have hO := fun W => ones_any h.f.toNat W (by omega)
      have hp := wh_popc hf.2
      rw [← hp, show ((h.f.toNat : Nat) : Int) = h.f by omega] at hO
      by_cases hl : (wh h.f).length = h.l.length
      · have ok : shOk h := ⟨hc, hf.1, hf.2, hl⟩
        have tl : (((wh h.f).length : Int) != (h.l.length : Int)) = false := by simp [hl]
        by_cases hz : 65536 < h.z
        · have td : decide ((65536 : Int) < h.z) = true := by simpa using hz
          have HF : Hid (shE h = 4) := Lib.hid (by rw [HS.out, if_pos ok, if_pos hz])
          generalize shE h = x at HF ⊢
          generalize (wh h.f).length = nw at hO tl
          clear HS ok hp hl hf hc hz
          obtain ⟨c, z, f, l⟩ := h
          unfold encH
          dsimp only at *
          go_enter Tryz.func75, Tryz.ntmps75
          go_wp2_with fail
          go_quiet ((go_at_call 93; exact Calls.quiet_of_same (hO _)))
          go_wp2
          go_ret
          exact ⟨by rw [HF.out]; rfl, below_drewN hb0 _⟩
        · have td : decide ((65536 : Int) < h.z) = false := by simpa using hz
          have HF : Hid (shE h = 0) := Lib.hid (by rw [HS.out, if_pos ok, if_neg hz])
          generalize shE h = x at HF ⊢
          generalize (wh h.f).length = nw at hO tl
          clear HS ok hp hl hf hc hz
          obtain ⟨c, z, f, l⟩ := h
          unfold encH
          dsimp only at *
          go_enter Tryz.func75, Tryz.ntmps75
          go_wp2_with fail
          go_quiet ((go_at_call 93; exact Calls.quiet_of_same (hO _)))
          go_wp2
          go_ret
          exact ⟨by rw [HF.out]; rfl, below_drewN hb0 _⟩
      · have tl : (((wh h.f).length : Int) != (h.l.length : Int)) = true := by simp; omega
        have HF : Hid (shE h = 7) := Lib.hid (by rw [HS.out, if_neg (fun k => hl k.2.2.2)])
        generalize shE h = x at HF ⊢
        generalize (wh h.f).length = nw at hO tl
        clear HS hp hl hf hc
        obtain ⟨c, z, f, l⟩ := h
        unfold encH
        dsimp only at *
        go_enter Tryz.func75, Tryz.ntmps75
        go_wp2_with fail
        go_quiet ((go_at_call 93; exact Calls.quiet_of_same (hO _)))
        go_wp2
        go_ret
        exact ⟨by rw [HF.out]; rfl, below_drewN hb0 _⟩
    · rw [decide_eq_false hf, Bool.not_false] at ht
      have HF : Hid (shE h = 7) := Lib.hid (by rw [HS.out, if_neg (fun k => hf ⟨k.2.1, k.2.2.1⟩)])
      generalize shE h = x at HF ⊢
      clear HS hf hc
      obtain ⟨c, z, f, l⟩ := h
      unfold encH
      dsimp only at *
      go_enter Tryz.func75, Tryz.ntmps75
      go_wp2
      go_ret
      exact ⟨by rw [HF.out]; rfl, hb0⟩
  · have tc : (h.c != 60) = true := by simpa using hc
    have HF : Hid (shE h = 7) := Lib.hid (by rw [HS.out, if_neg (fun k => hc k.1)])
    generalize shE h = x at HF ⊢
    clear HS hc ht
    obtain ⟨c, z, f, l⟩ := h
    unfold encH
    dsimp only at *
    go_enter Tryz.func75, Tryz.ntmps75
    go_wp2
    go_ret
    exact ⟨by rw [HF.out]; rfl, hb0⟩

set_option maxHeartbeats 1000000 in
theorem beginning_any (h : He) (A : Option Addr) (cap : Nat) (w : World) (hw : Wid w) (hh : wfH h) (hc : h.c = 60) (hf : h.f < 65536) :
    Calls Tryz.prog 77 #[encH h A cap] w fun e w' => e = .returned (.string (begB h)) ∧ Below w.heap.size w w' := by
  obtain ⟨⟨z0, z1⟩, ⟨f0, f1⟩, -⟩ := hh
  have hb0 : Below w.heap.size w (w.alloc (.cells #[.int .i64 h.c, .int .u64 h.z, .int .u64 h.f, .slice A h.l.length cap] 27)) := (Below.refl _ w).alloc (Nat.le_refl _) _
  have hx := Bx.new w 27 [.int .i64 h.c, .int .u64 h.z, .int .u64 h.f, .slice A h.l.length cap]
  have k2 : putOk 2 h.c = true := by rw [hc]; decide
  have k20 : putOk 2 0 = true := by decide
  have k8 : putOk 8 h.z = true := put8_ok ⟨z0, z1⟩
  have kf : putOk 2 h.f = true := put2_okP ⟨f0, hf⟩
  have s1 := putR_size k2
  have s2 := putR_size k20
  have s3 := putR_size k8
  have s4 := putR_size kf
  have hP1 := fun W hW => put_any 2 h.c W hW (by omega) (by omega)
  have hP2 := fun W hW => put_any 2 0 W hW (by omega) (by omega)
  have hP3 := fun W hW => put_any 8 h.z W hW z0 z1
  have hP4 := fun W hW => put_any 2 h.f W hW f0 f1
  have e1 : IntKind.u64.wrap h.c = h.c := by simp only [IntKind.wrap_u64]; omega
  rw [putE_of k2] at hP1
  rw [putE_of k20] at hP2
  rw [putE_of k8] at hP3
  rw [putE_of kf] at hP4
  have HF : Hid (begB h = putR 2 h.c ++ putR 2 0 ++ putR 8 h.z ++ putR 2 h.f) := Lib.hid rfl
  generalize begB h = r at HF ⊢
  generalize putR 2 h.c = r1 at s1 hP1 HF
  generalize putR 2 0 = r2 at s2 hP2 HF
  generalize putR 8 h.z = r3 at s3 hP3 HF
  generalize putR 2 h.f = r4 at s4 hP4 HF
  clear k2 k20 k8 kf hc hf z0 z1 f0 f1
  obtain ⟨c, z, f, l⟩ := h
  unfold encH
  dsimp only at *
  go_enter Tryz.func77, Tryz.ntmps77
  go_wp2_with fail
  refine (hP1 _ (hw.below hb0)).mono ?_
  rintro e w1 ⟨rfl, hb1⟩
  have hB1 := hb0.trans (hb1.mono hb0.size)
  have hx1 := hx.kept hb1
  clear hP1 hb1 hx hb0
  go_wp2_with fail
  refine (hP2 _ (hw.below hB1)).mono ?_
  rintro e w2 ⟨rfl, hb2⟩
  have hB2 := hB1.trans (hb2.mono hB1.size)
  have hx2 := hx1.kept hb2
  have y1 := hx2.cell 1 (by simp)
  dsimp only [List.getElem_cons_zero, List.getElem_cons_succ] at y1
  clear hP2 hb2 hx1 hB1
  go_wp2_with fail
  refine (hP3 _ (hw.below hB2)).mono ?_
  rintro e w3 ⟨rfl, hb3⟩
  have hB3 := hB2.trans (hb3.mono hB2.size)
  have hx3 := hx2.kept hb3
  have y2 := hx3.cell 2 (by simp)
  dsimp only [List.getElem_cons_zero, List.getElem_cons_succ] at y2
  clear hP3 hb3 hx2 hB2 y1
  go_wp2_with fail
  refine (hP4 _ (hw.below hB3)).mono ?_
  rintro e w4 ⟨rfl, hb4⟩
  have hB4 := hB3.trans (hb4.mono hB3.size)
  clear hP4 hb4 hx3 hB3 y2
  have q1 : r1.size + r2.size ≤ 9223372036854775807 := by omega
  have q2 : (r1 ++ r2).size + r3.size ≤ 9223372036854775807 := by rw [ByteArray.size_append]; omega
  have q3 : (r1 ++ r2 ++ r3).size + r4.size ≤ 9223372036854775807 := by rw [ByteArray.size_append, ByteArray.size_append]; omega
  clear s1 s2 s3 s4
  go_wp2
  go_ret
  exact ⟨by rw [HF.out]; rfl, hB4⟩
end Go.Proofs.YtllgkohgcicbhaaGreatDoor

/-
  props.told goes through the properties that flags tell, till it is told to stop. Condition: flags are a uint64.
-/
namespace Go.Proofs.YtllgkohgcicbhaaGreatDoor
open Go.RowKit Go.Shelf
attribute [local go_sem] Oper.semAt_some

/-- what a round keeps: the box of the flags -/
def KeepF (Bf : Nat) (W W' : World) : Prop := ∀ v, Boxed W Bf 25 v → Boxed W' Bf 25 v

set_option maxRecDepth 100000 in
set_option maxHeartbeats 2000000 in
theorem told1_in (l Bf : Nat) (f : Int) (h0 : 0 ≤ f) (h1 : f < 18446744073709551616) (n : Nat) (J Jx : List (Fin 14) → World → Prop)
    (hY : ∀ pre x W, J pre W → pre.length < (wh f).length → YieldAt Fence.wide (n - 1) Tryz.prog l #[.int .i64 (x.1 : Int)] W fun e W' =>
      (e = .returned (.bool true) ∧ J (pre ++ [x]) W' ∧ KeepF Bf W W') ∨ (e = .returned (.bool false) ∧ Jx (pre ++ [x]) W'))
    (hd : ∀ pre W, J pre W → J pre W.drew)
    (W : World) (hbf : Boxed W Bf 25 (.int .u64 f)) (hJ0 : J [] W) :
    CallsIn Fence.wide n Tryz.prog 123 #[.func (.yield l) #[] #[], .pointer (some ⟨Bf, 0, none⟩)] W fun e W' => (∃ v, e = .returned v) ∧
      ((∃ ys, ys = wh f ∧ J ys W') ∨ (∃ pre, pre <+: wh f ∧ Jx pre W')) := by
  refine callsIn_of_wp Tryz.func123 rfl trivial ?_ rfl
  simp only [Tryz.ntmps123, List.size_toArray, List.length_cons, List.length_nil, Nat.reduceAdd, Nat.reduceSub, Array.replicate_succ, Array.replicate_zero, List.push_toArray, List.append_toArray, List.nil_append, List.cons_append]
  gi_wp2
  gi_loopw [3, 4] (fun p0 p wr => ∃ k : Nat, k ≤ 14 ∧ p = .int .i64 k ∧ Boxed wr Bf 25 (.int .u64 f) ∧ J (whK f k) wr) (fun _ p _ => 14 - (intOf p).toNat)
  case atStart => exact ⟨0, Nat.zero_le _, rfl, hbf, hJ0⟩
  case round =>
    obtain ⟨k, hk, rfl, hb, hJs⟩ := hrel
    by_cases hlt : k < 14
    · have hc := hb.cell
      have hF := fun W => flag_any ⟨k, hlt⟩ W
      have ht := bit_and (f := f) ⟨k, hlt⟩ h0 h1
      have hS := whK_succ f k hlt
      have hJd := hd _ _ hJs
      have hbd : Boxed wr.drew Bf 25 (.int .u64 f) := hb
      have hcd := hbd.cell
      have hmo : Tryz.prog.follows .mixedOrders = true := by kernel_rfl
      have e1 : IntKind.i64.wrap ((k : Int) + 1) = ((k + 1 : Nat) : Int) := by simp only [IntKind.wrap_i64]; omega
      cases hbit : bitP f ⟨k, hlt⟩
      · rw [hbit] at ht hS
        have HS : Hid (whK f (k + 1) = whK f k) := Lib.hid (by simpa using hS)
        clear hS
        dsimp only at hF
        generalize ((flagN ⟨k, hlt⟩ : Nat) : Int) = fl at hF ht
        gi_wp2_with fail
        refine wpIn_region_any hmo ?_
        change wpAnyIn _ _ _ _ _ _ 11 #[false, false, false, false, false, false, false, false, false, false, false] _ (World.drew _)
        refine wpAnyIn_ready (rs := [0, 1]) (by kernel_rfl) (by simp) (AllReadyIn.cons rfl (fun K hK => ?_) (AllReadyIn.cons rfl (fun K hK => ?_) AllReadyIn.nil))
        · go_simp
          refine hK _ _ ?_
          clear hK K
          refine wpAnyIn_ready (rs := [1]) (by kernel_rfl) (by simp) (AllReadyIn.cons rfl (fun K hK => ?_) AllReadyIn.nil)
          go_simp
          refine hK _ _ ?_
          clear hK K
          refine wpAnyIn_ready (rs := [2]) (by kernel_rfl) (by simp) (AllReadyIn.cons rfl (fun K hK => ?_) AllReadyIn.nil)
          go_simp
          refine ⟨trivial, (fun h => by cases h), (callsIn_wide.2 (hF _)).mono ?_⟩
          rintro e w2 ⟨rfl, rfl⟩
          refine hK _ _ ?_
          clear hK K
          refine wpAnyIn_ready (rs := [3]) (by kernel_rfl) (by simp) (AllReadyIn.cons rfl (fun K hK => ?_) AllReadyIn.nil)
          go_simp
          refine hK _ _ ?_
          clear hK K
          refine wpAnyIn_ready (rs := [4]) (by kernel_rfl) (by simp) (AllReadyIn.cons rfl (fun K hK => ?_) AllReadyIn.nil)
          go_simp
          refine hK _ _ ?_
          clear hK K
          refine wpAnyIn_ready (rs := [5]) (by kernel_rfl) (by simp) (AllReadyIn.cons rfl (fun K hK => ?_) AllReadyIn.nil)
          go_simp
          refine hK _ _ ?_
          clear hK K
          refine wpAnyIn_ready (rs := [6, 7]) (by kernel_rfl) (by simp) (AllReadyIn.cons rfl (fun K hK => ?_) (AllReadyIn.cons rfl (fun K hK => ?_) AllReadyIn.nil))
          · go_simp
            first | refine hK _ _ ?_ | refine ⟨fun _ _ => trivial, hK _ _ ?_⟩
            clear hK K
            refine wpAnyIn_ready (rs := [7]) (by kernel_rfl) (by simp) (AllReadyIn.cons rfl (fun K hK => ?_) AllReadyIn.nil)
            go_simp
            first | refine hK _ _ ?_ | refine ⟨fun _ _ => trivial, hK _ _ ?_⟩
            clear hK K
            refine wpAnyIn_ready (rs := [8]) (by kernel_rfl) (by simp) (AllReadyIn.cons rfl (fun K hK => ?_) AllReadyIn.nil)
            go_simp
            first | refine hK _ _ ?_ | refine ⟨fun _ _ => trivial, hK _ _ ?_⟩
            clear hK K
            refine wpAnyIn_ready (rs := [9]) (by kernel_rfl) (by simp) (AllReadyIn.cons rfl (fun K hK => ?_) AllReadyIn.nil)
            go_simp
            first | refine hK _ _ ?_ | refine ⟨fun _ _ => trivial, hK _ _ ?_⟩
            clear hK K
            refine wpAnyIn_ready (rs := [10]) (by kernel_rfl) (by simp) (AllReadyIn.cons rfl (fun K hK => ?_) AllReadyIn.nil)
            go_simp
            refine hK _ _ ?_
            clear hK K
            refine wpAnyIn_done (by kernel_rfl) ?_ _
            gi_wp2
            go_roundw
            case rel => exact ⟨k + 1, hlt, rfl, hbd, by rw [HS.out]; exact hJd⟩
            case measure => simp only [intOf]; omega
          · go_simp
            first | refine hK _ _ ?_ | refine ⟨fun _ _ => trivial, hK _ _ ?_⟩
            clear hK K
            refine wpAnyIn_ready (rs := [6]) (by kernel_rfl) (by simp) (AllReadyIn.cons rfl (fun K hK => ?_) AllReadyIn.nil)
            go_simp
            first | refine hK _ _ ?_ | refine ⟨fun _ _ => trivial, hK _ _ ?_⟩
            clear hK K
            refine wpAnyIn_ready (rs := [8]) (by kernel_rfl) (by simp) (AllReadyIn.cons rfl (fun K hK => ?_) AllReadyIn.nil)
            go_simp
            first | refine hK _ _ ?_ | refine ⟨fun _ _ => trivial, hK _ _ ?_⟩
            clear hK K
            refine wpAnyIn_ready (rs := [9]) (by kernel_rfl) (by simp) (AllReadyIn.cons rfl (fun K hK => ?_) AllReadyIn.nil)
            go_simp
            first | refine hK _ _ ?_ | refine ⟨fun _ _ => trivial, hK _ _ ?_⟩
            clear hK K
            refine wpAnyIn_ready (rs := [10]) (by kernel_rfl) (by simp) (AllReadyIn.cons rfl (fun K hK => ?_) AllReadyIn.nil)
            go_simp
            refine hK _ _ ?_
            clear hK K
            refine wpAnyIn_done (by kernel_rfl) ?_ _
            gi_wp2
            go_roundw
            case rel => exact ⟨k + 1, hlt, rfl, hbd, by rw [HS.out]; exact hJd⟩
            case measure => simp only [intOf]; omega
        · go_simp
          refine hK _ _ ?_
          clear hK K
          refine wpAnyIn_ready (rs := [0, 2]) (by kernel_rfl) (by simp) (AllReadyIn.cons rfl (fun K hK => ?_) (AllReadyIn.cons rfl (fun K hK => ?_) AllReadyIn.nil))
          · go_simp
            refine hK _ _ ?_
            clear hK K
            refine wpAnyIn_ready (rs := [2]) (by kernel_rfl) (by simp) (AllReadyIn.cons rfl (fun K hK => ?_) AllReadyIn.nil)
            go_simp
            refine ⟨trivial, (fun h => by cases h), (callsIn_wide.2 (hF _)).mono ?_⟩
            rintro e w2 ⟨rfl, rfl⟩
            refine hK _ _ ?_
            clear hK K
            refine wpAnyIn_ready (rs := [3]) (by kernel_rfl) (by simp) (AllReadyIn.cons rfl (fun K hK => ?_) AllReadyIn.nil)
            go_simp
            refine hK _ _ ?_
            clear hK K
            refine wpAnyIn_ready (rs := [4]) (by kernel_rfl) (by simp) (AllReadyIn.cons rfl (fun K hK => ?_) AllReadyIn.nil)
            go_simp
            refine hK _ _ ?_
            clear hK K
            refine wpAnyIn_ready (rs := [5]) (by kernel_rfl) (by simp) (AllReadyIn.cons rfl (fun K hK => ?_) AllReadyIn.nil)
            go_simp
            refine hK _ _ ?_
            clear hK K
            refine wpAnyIn_ready (rs := [6, 7]) (by kernel_rfl) (by simp) (AllReadyIn.cons rfl (fun K hK => ?_) (AllReadyIn.cons rfl (fun K hK => ?_) AllReadyIn.nil))
            · go_simp
              first | refine hK _ _ ?_ | refine ⟨fun _ _ => trivial, hK _ _ ?_⟩
              clear hK K
              refine wpAnyIn_ready (rs := [7]) (by kernel_rfl) (by simp) (AllReadyIn.cons rfl (fun K hK => ?_) AllReadyIn.nil)
              go_simp
              first | refine hK _ _ ?_ | refine ⟨fun _ _ => trivial, hK _ _ ?_⟩
              clear hK K
              refine wpAnyIn_ready (rs := [8]) (by kernel_rfl) (by simp) (AllReadyIn.cons rfl (fun K hK => ?_) AllReadyIn.nil)
              go_simp
              first | refine hK _ _ ?_ | refine ⟨fun _ _ => trivial, hK _ _ ?_⟩
              clear hK K
              refine wpAnyIn_ready (rs := [9]) (by kernel_rfl) (by simp) (AllReadyIn.cons rfl (fun K hK => ?_) AllReadyIn.nil)
              go_simp
              first | refine hK _ _ ?_ | refine ⟨fun _ _ => trivial, hK _ _ ?_⟩
              clear hK K
              refine wpAnyIn_ready (rs := [10]) (by kernel_rfl) (by simp) (AllReadyIn.cons rfl (fun K hK => ?_) AllReadyIn.nil)
              go_simp
              refine hK _ _ ?_
              clear hK K
              refine wpAnyIn_done (by kernel_rfl) ?_ _
              gi_wp2
              go_roundw
              case rel => exact ⟨k + 1, hlt, rfl, hbd, by rw [HS.out]; exact hJd⟩
              case measure => simp only [intOf]; omega
            · go_simp
              first | refine hK _ _ ?_ | refine ⟨fun _ _ => trivial, hK _ _ ?_⟩
              clear hK K
              refine wpAnyIn_ready (rs := [6]) (by kernel_rfl) (by simp) (AllReadyIn.cons rfl (fun K hK => ?_) AllReadyIn.nil)
              go_simp
              first | refine hK _ _ ?_ | refine ⟨fun _ _ => trivial, hK _ _ ?_⟩
              clear hK K
              refine wpAnyIn_ready (rs := [8]) (by kernel_rfl) (by simp) (AllReadyIn.cons rfl (fun K hK => ?_) AllReadyIn.nil)
              go_simp
              first | refine hK _ _ ?_ | refine ⟨fun _ _ => trivial, hK _ _ ?_⟩
              clear hK K
              refine wpAnyIn_ready (rs := [9]) (by kernel_rfl) (by simp) (AllReadyIn.cons rfl (fun K hK => ?_) AllReadyIn.nil)
              go_simp
              first | refine hK _ _ ?_ | refine ⟨fun _ _ => trivial, hK _ _ ?_⟩
              clear hK K
              refine wpAnyIn_ready (rs := [10]) (by kernel_rfl) (by simp) (AllReadyIn.cons rfl (fun K hK => ?_) AllReadyIn.nil)
              go_simp
              refine hK _ _ ?_
              clear hK K
              refine wpAnyIn_done (by kernel_rfl) ?_ _
              gi_wp2
              go_roundw
              case rel => exact ⟨k + 1, hlt, rfl, hbd, by rw [HS.out]; exact hJd⟩
              case measure => simp only [intOf]; omega
          · go_simp
            refine ⟨trivial, (fun h => by cases h), (callsIn_wide.2 (hF _)).mono ?_⟩
            rintro e w2 ⟨rfl, rfl⟩
            refine hK _ _ ?_
            clear hK K
            refine wpAnyIn_ready (rs := [0]) (by kernel_rfl) (by simp) (AllReadyIn.cons rfl (fun K hK => ?_) AllReadyIn.nil)
            go_simp
            refine hK _ _ ?_
            clear hK K
            refine wpAnyIn_ready (rs := [3]) (by kernel_rfl) (by simp) (AllReadyIn.cons rfl (fun K hK => ?_) AllReadyIn.nil)
            go_simp
            refine hK _ _ ?_
            clear hK K
            refine wpAnyIn_ready (rs := [4]) (by kernel_rfl) (by simp) (AllReadyIn.cons rfl (fun K hK => ?_) AllReadyIn.nil)
            go_simp
            refine hK _ _ ?_
            clear hK K
            refine wpAnyIn_ready (rs := [5]) (by kernel_rfl) (by simp) (AllReadyIn.cons rfl (fun K hK => ?_) AllReadyIn.nil)
            go_simp
            refine hK _ _ ?_
            clear hK K
            refine wpAnyIn_ready (rs := [6, 7]) (by kernel_rfl) (by simp) (AllReadyIn.cons rfl (fun K hK => ?_) (AllReadyIn.cons rfl (fun K hK => ?_) AllReadyIn.nil))
            · go_simp
              first | refine hK _ _ ?_ | refine ⟨fun _ _ => trivial, hK _ _ ?_⟩
              clear hK K
              refine wpAnyIn_ready (rs := [7]) (by kernel_rfl) (by simp) (AllReadyIn.cons rfl (fun K hK => ?_) AllReadyIn.nil)
              go_simp
              first | refine hK _ _ ?_ | refine ⟨fun _ _ => trivial, hK _ _ ?_⟩
              clear hK K
              refine wpAnyIn_ready (rs := [8]) (by kernel_rfl) (by simp) (AllReadyIn.cons rfl (fun K hK => ?_) AllReadyIn.nil)
              go_simp
              first | refine hK _ _ ?_ | refine ⟨fun _ _ => trivial, hK _ _ ?_⟩
              clear hK K
              refine wpAnyIn_ready (rs := [9]) (by kernel_rfl) (by simp) (AllReadyIn.cons rfl (fun K hK => ?_) AllReadyIn.nil)
              go_simp
              first | refine hK _ _ ?_ | refine ⟨fun _ _ => trivial, hK _ _ ?_⟩
              clear hK K
              refine wpAnyIn_ready (rs := [10]) (by kernel_rfl) (by simp) (AllReadyIn.cons rfl (fun K hK => ?_) AllReadyIn.nil)
              go_simp
              refine hK _ _ ?_
              clear hK K
              refine wpAnyIn_done (by kernel_rfl) ?_ _
              gi_wp2
              go_roundw
              case rel => exact ⟨k + 1, hlt, rfl, hbd, by rw [HS.out]; exact hJd⟩
              case measure => simp only [intOf]; omega
            · go_simp
              first | refine hK _ _ ?_ | refine ⟨fun _ _ => trivial, hK _ _ ?_⟩
              clear hK K
              refine wpAnyIn_ready (rs := [6]) (by kernel_rfl) (by simp) (AllReadyIn.cons rfl (fun K hK => ?_) AllReadyIn.nil)
              go_simp
              first | refine hK _ _ ?_ | refine ⟨fun _ _ => trivial, hK _ _ ?_⟩
              clear hK K
              refine wpAnyIn_ready (rs := [8]) (by kernel_rfl) (by simp) (AllReadyIn.cons rfl (fun K hK => ?_) AllReadyIn.nil)
              go_simp
              first | refine hK _ _ ?_ | refine ⟨fun _ _ => trivial, hK _ _ ?_⟩
              clear hK K
              refine wpAnyIn_ready (rs := [9]) (by kernel_rfl) (by simp) (AllReadyIn.cons rfl (fun K hK => ?_) AllReadyIn.nil)
              go_simp
              first | refine hK _ _ ?_ | refine ⟨fun _ _ => trivial, hK _ _ ?_⟩
              clear hK K
              refine wpAnyIn_ready (rs := [10]) (by kernel_rfl) (by simp) (AllReadyIn.cons rfl (fun K hK => ?_) AllReadyIn.nil)
              go_simp
              refine hK _ _ ?_
              clear hK K
              refine wpAnyIn_done (by kernel_rfl) ?_ _
              gi_wp2
              go_roundw
              case rel => exact ⟨k + 1, hlt, rfl, hbd, by rw [HS.out]; exact hJd⟩
              case measure => simp only [intOf]; omega
      · rw [hbit] at ht hS
        have HS : Hid (whK f (k + 1) = whK f k ++ [⟨k, hlt⟩]) := Lib.hid (by simpa using hS)
        have HP : Hid (whK f k ++ [⟨k, hlt⟩] <+: wh f) := Lib.hid (by rw [← HS.out]; exact whK_pre f _)
        have hl : (whK f k).length < (wh f).length := by
          have := HP.out.length_le
          rw [List.length_append, List.length_singleton] at this
          omega
        obtain ⟨fn, tmps, assign, body', hy, hR⟩ := hY _ ⟨k, hlt⟩ _ hJd hl
        clear hS hl
        dsimp only at hF hy
        generalize ((flagN ⟨k, hlt⟩ : Nat) : Int) = fl at hF ht
        gi_wp2_with fail
        refine wpIn_region_any hmo ?_
        change wpAnyIn _ _ _ _ _ _ 11 #[false, false, false, false, false, false, false, false, false, false, false] _ (World.drew _)
        refine wpAnyIn_ready (rs := [0, 1]) (by kernel_rfl) (by simp) (AllReadyIn.cons rfl (fun K hK => ?_) (AllReadyIn.cons rfl (fun K hK => ?_) AllReadyIn.nil))
        · go_simp
          refine hK _ _ ?_
          clear hK K
          refine wpAnyIn_ready (rs := [1]) (by kernel_rfl) (by simp) (AllReadyIn.cons rfl (fun K hK => ?_) AllReadyIn.nil)
          go_simp
          refine hK _ _ ?_
          clear hK K
          refine wpAnyIn_ready (rs := [2]) (by kernel_rfl) (by simp) (AllReadyIn.cons rfl (fun K hK => ?_) AllReadyIn.nil)
          go_simp
          refine ⟨trivial, (fun h => by cases h), (callsIn_wide.2 (hF _)).mono ?_⟩
          rintro e w2 ⟨rfl, rfl⟩
          refine hK _ _ ?_
          clear hK K
          refine wpAnyIn_ready (rs := [3]) (by kernel_rfl) (by simp) (AllReadyIn.cons rfl (fun K hK => ?_) AllReadyIn.nil)
          go_simp
          refine hK _ _ ?_
          clear hK K
          refine wpAnyIn_ready (rs := [4]) (by kernel_rfl) (by simp) (AllReadyIn.cons rfl (fun K hK => ?_) AllReadyIn.nil)
          go_simp
          refine hK _ _ ?_
          clear hK K
          refine wpAnyIn_ready (rs := [5]) (by kernel_rfl) (by simp) (AllReadyIn.cons rfl (fun K hK => ?_) AllReadyIn.nil)
          go_simp
          refine hK _ _ ?_
          clear hK K
          refine wpAnyIn_ready (rs := [6, 7]) (by kernel_rfl) (by simp) (AllReadyIn.cons rfl (fun K hK => ?_) (AllReadyIn.cons rfl (fun K hK => ?_) AllReadyIn.nil))
          · go_simp
            refine hK _ _ ?_
            clear hK K
            refine wpAnyIn_ready (rs := [7]) (by kernel_rfl) (by simp) (AllReadyIn.cons rfl (fun K hK => ?_) AllReadyIn.nil)
            go_simp
            refine hK _ _ ?_
            clear hK K
            refine wpAnyIn_ready (rs := [8]) (by kernel_rfl) (by simp) (AllReadyIn.cons rfl (fun K hK => ?_) AllReadyIn.nil)
            go_simp
            refine ⟨(fun h => by cases h), hR.mono ?_⟩
            rintro e W3 (⟨rfl, hJ3, hk3⟩ | ⟨rfl, hJx3⟩) <;> refine hK _ _ ?_ <;> clear hK K
            · refine wpAnyIn_ready (rs := [9]) (by kernel_rfl) (by simp) (AllReadyIn.cons rfl (fun K hK => ?_) AllReadyIn.nil)
              go_simp
              refine hK _ _ ?_
              clear hK K
              refine wpAnyIn_ready (rs := [10]) (by kernel_rfl) (by simp) (AllReadyIn.cons rfl (fun K hK => ?_) AllReadyIn.nil)
              go_simp
              refine hK _ _ ?_
              clear hK K
              refine wpAnyIn_done (by kernel_rfl) ?_ _
              gi_wp2
              go_roundw
              case rel => exact ⟨k + 1, hlt, rfl, hk3 _ hbd, by rw [HS.out]; exact hJ3⟩
              case measure => simp only [intOf]; omega
            · refine wpAnyIn_ready (rs := [9]) (by kernel_rfl) (by simp) (AllReadyIn.cons rfl (fun K hK => ?_) AllReadyIn.nil)
              go_simp
              refine hK _ _ ?_
              clear hK K
              refine wpAnyIn_ready (rs := [10]) (by kernel_rfl) (by simp) (AllReadyIn.cons rfl (fun K hK => ?_) AllReadyIn.nil)
              go_simp
              refine hK _ _ ?_
              clear hK K
              refine wpAnyIn_done (by kernel_rfl) ?_ _
              gi_wp2
              refine bodyPost_ret (results_none rfl _ _ _) rfl ?_
              exact ⟨⟨_, rfl⟩, .inr ⟨_, HP.out, hJx3⟩⟩
          · go_simp
            refine hK _ _ ?_
            clear hK K
            refine wpAnyIn_ready (rs := [6]) (by kernel_rfl) (by simp) (AllReadyIn.cons rfl (fun K hK => ?_) AllReadyIn.nil)
            go_simp
            refine hK _ _ ?_
            clear hK K
            refine wpAnyIn_ready (rs := [8]) (by kernel_rfl) (by simp) (AllReadyIn.cons rfl (fun K hK => ?_) AllReadyIn.nil)
            go_simp
            refine ⟨(fun h => by cases h), hR.mono ?_⟩
            rintro e W3 (⟨rfl, hJ3, hk3⟩ | ⟨rfl, hJx3⟩) <;> refine hK _ _ ?_ <;> clear hK K
            · refine wpAnyIn_ready (rs := [9]) (by kernel_rfl) (by simp) (AllReadyIn.cons rfl (fun K hK => ?_) AllReadyIn.nil)
              go_simp
              refine hK _ _ ?_
              clear hK K
              refine wpAnyIn_ready (rs := [10]) (by kernel_rfl) (by simp) (AllReadyIn.cons rfl (fun K hK => ?_) AllReadyIn.nil)
              go_simp
              refine hK _ _ ?_
              clear hK K
              refine wpAnyIn_done (by kernel_rfl) ?_ _
              gi_wp2
              go_roundw
              case rel => exact ⟨k + 1, hlt, rfl, hk3 _ hbd, by rw [HS.out]; exact hJ3⟩
              case measure => simp only [intOf]; omega
            · refine wpAnyIn_ready (rs := [9]) (by kernel_rfl) (by simp) (AllReadyIn.cons rfl (fun K hK => ?_) AllReadyIn.nil)
              go_simp
              refine hK _ _ ?_
              clear hK K
              refine wpAnyIn_ready (rs := [10]) (by kernel_rfl) (by simp) (AllReadyIn.cons rfl (fun K hK => ?_) AllReadyIn.nil)
              go_simp
              refine hK _ _ ?_
              clear hK K
              refine wpAnyIn_done (by kernel_rfl) ?_ _
              gi_wp2
              refine bodyPost_ret (results_none rfl _ _ _) rfl ?_
              exact ⟨⟨_, rfl⟩, .inr ⟨_, HP.out, hJx3⟩⟩
        · go_simp
          refine hK _ _ ?_
          clear hK K
          refine wpAnyIn_ready (rs := [0, 2]) (by kernel_rfl) (by simp) (AllReadyIn.cons rfl (fun K hK => ?_) (AllReadyIn.cons rfl (fun K hK => ?_) AllReadyIn.nil))
          · go_simp
            refine hK _ _ ?_
            clear hK K
            refine wpAnyIn_ready (rs := [2]) (by kernel_rfl) (by simp) (AllReadyIn.cons rfl (fun K hK => ?_) AllReadyIn.nil)
            go_simp
            refine ⟨trivial, (fun h => by cases h), (callsIn_wide.2 (hF _)).mono ?_⟩
            rintro e w2 ⟨rfl, rfl⟩
            refine hK _ _ ?_
            clear hK K
            refine wpAnyIn_ready (rs := [3]) (by kernel_rfl) (by simp) (AllReadyIn.cons rfl (fun K hK => ?_) AllReadyIn.nil)
            go_simp
            refine hK _ _ ?_
            clear hK K
            refine wpAnyIn_ready (rs := [4]) (by kernel_rfl) (by simp) (AllReadyIn.cons rfl (fun K hK => ?_) AllReadyIn.nil)
            go_simp
            refine hK _ _ ?_
            clear hK K
            refine wpAnyIn_ready (rs := [5]) (by kernel_rfl) (by simp) (AllReadyIn.cons rfl (fun K hK => ?_) AllReadyIn.nil)
            go_simp
            refine hK _ _ ?_
            clear hK K
            refine wpAnyIn_ready (rs := [6, 7]) (by kernel_rfl) (by simp) (AllReadyIn.cons rfl (fun K hK => ?_) (AllReadyIn.cons rfl (fun K hK => ?_) AllReadyIn.nil))
            · go_simp
              refine hK _ _ ?_
              clear hK K
              refine wpAnyIn_ready (rs := [7]) (by kernel_rfl) (by simp) (AllReadyIn.cons rfl (fun K hK => ?_) AllReadyIn.nil)
              go_simp
              refine hK _ _ ?_
              clear hK K
              refine wpAnyIn_ready (rs := [8]) (by kernel_rfl) (by simp) (AllReadyIn.cons rfl (fun K hK => ?_) AllReadyIn.nil)
              go_simp
              refine ⟨(fun h => by cases h), hR.mono ?_⟩
              rintro e W3 (⟨rfl, hJ3, hk3⟩ | ⟨rfl, hJx3⟩) <;> refine hK _ _ ?_ <;> clear hK K
              · refine wpAnyIn_ready (rs := [9]) (by kernel_rfl) (by simp) (AllReadyIn.cons rfl (fun K hK => ?_) AllReadyIn.nil)
                go_simp
                refine hK _ _ ?_
                clear hK K
                refine wpAnyIn_ready (rs := [10]) (by kernel_rfl) (by simp) (AllReadyIn.cons rfl (fun K hK => ?_) AllReadyIn.nil)
                go_simp
                refine hK _ _ ?_
                clear hK K
                refine wpAnyIn_done (by kernel_rfl) ?_ _
                gi_wp2
                go_roundw
                case rel => exact ⟨k + 1, hlt, rfl, hk3 _ hbd, by rw [HS.out]; exact hJ3⟩
                case measure => simp only [intOf]; omega
              · refine wpAnyIn_ready (rs := [9]) (by kernel_rfl) (by simp) (AllReadyIn.cons rfl (fun K hK => ?_) AllReadyIn.nil)
                go_simp
                refine hK _ _ ?_
                clear hK K
                refine wpAnyIn_ready (rs := [10]) (by kernel_rfl) (by simp) (AllReadyIn.cons rfl (fun K hK => ?_) AllReadyIn.nil)
                go_simp
                refine hK _ _ ?_
                clear hK K
                refine wpAnyIn_done (by kernel_rfl) ?_ _
                gi_wp2
                refine bodyPost_ret (results_none rfl _ _ _) rfl ?_
                exact ⟨⟨_, rfl⟩, .inr ⟨_, HP.out, hJx3⟩⟩
            · go_simp
              refine hK _ _ ?_
              clear hK K
              refine wpAnyIn_ready (rs := [6]) (by kernel_rfl) (by simp) (AllReadyIn.cons rfl (fun K hK => ?_) AllReadyIn.nil)
              go_simp
              refine hK _ _ ?_
              clear hK K
              refine wpAnyIn_ready (rs := [8]) (by kernel_rfl) (by simp) (AllReadyIn.cons rfl (fun K hK => ?_) AllReadyIn.nil)
              go_simp
              refine ⟨(fun h => by cases h), hR.mono ?_⟩
              rintro e W3 (⟨rfl, hJ3, hk3⟩ | ⟨rfl, hJx3⟩) <;> refine hK _ _ ?_ <;> clear hK K
              · refine wpAnyIn_ready (rs := [9]) (by kernel_rfl) (by simp) (AllReadyIn.cons rfl (fun K hK => ?_) AllReadyIn.nil)
                go_simp
                refine hK _ _ ?_
                clear hK K
                refine wpAnyIn_ready (rs := [10]) (by kernel_rfl) (by simp) (AllReadyIn.cons rfl (fun K hK => ?_) AllReadyIn.nil)
                go_simp
                refine hK _ _ ?_
                clear hK K
                refine wpAnyIn_done (by kernel_rfl) ?_ _
                gi_wp2
                go_roundw
                case rel => exact ⟨k + 1, hlt, rfl, hk3 _ hbd, by rw [HS.out]; exact hJ3⟩
                case measure => simp only [intOf]; omega
              · refine wpAnyIn_ready (rs := [9]) (by kernel_rfl) (by simp) (AllReadyIn.cons rfl (fun K hK => ?_) AllReadyIn.nil)
                go_simp
                refine hK _ _ ?_
                clear hK K
                refine wpAnyIn_ready (rs := [10]) (by kernel_rfl) (by simp) (AllReadyIn.cons rfl (fun K hK => ?_) AllReadyIn.nil)
                go_simp
                refine hK _ _ ?_
                clear hK K
                refine wpAnyIn_done (by kernel_rfl) ?_ _
                gi_wp2
                refine bodyPost_ret (results_none rfl _ _ _) rfl ?_
                exact ⟨⟨_, rfl⟩, .inr ⟨_, HP.out, hJx3⟩⟩
          · go_simp
            refine ⟨trivial, (fun h => by cases h), (callsIn_wide.2 (hF _)).mono ?_⟩
            rintro e w2 ⟨rfl, rfl⟩
            refine hK _ _ ?_
            clear hK K
            refine wpAnyIn_ready (rs := [0]) (by kernel_rfl) (by simp) (AllReadyIn.cons rfl (fun K hK => ?_) AllReadyIn.nil)
            go_simp
            refine hK _ _ ?_
            clear hK K
            refine wpAnyIn_ready (rs := [3]) (by kernel_rfl) (by simp) (AllReadyIn.cons rfl (fun K hK => ?_) AllReadyIn.nil)
            go_simp
            refine hK _ _ ?_
            clear hK K
            refine wpAnyIn_ready (rs := [4]) (by kernel_rfl) (by simp) (AllReadyIn.cons rfl (fun K hK => ?_) AllReadyIn.nil)
            go_simp
            refine hK _ _ ?_
            clear hK K
            refine wpAnyIn_ready (rs := [5]) (by kernel_rfl) (by simp) (AllReadyIn.cons rfl (fun K hK => ?_) AllReadyIn.nil)
            go_simp
            refine hK _ _ ?_
            clear hK K
            refine wpAnyIn_ready (rs := [6, 7]) (by kernel_rfl) (by simp) (AllReadyIn.cons rfl (fun K hK => ?_) (AllReadyIn.cons rfl (fun K hK => ?_) AllReadyIn.nil))
            · go_simp
              refine hK _ _ ?_
              clear hK K
              refine wpAnyIn_ready (rs := [7]) (by kernel_rfl) (by simp) (AllReadyIn.cons rfl (fun K hK => ?_) AllReadyIn.nil)
              go_simp
              refine hK _ _ ?_
              clear hK K
              refine wpAnyIn_ready (rs := [8]) (by kernel_rfl) (by simp) (AllReadyIn.cons rfl (fun K hK => ?_) AllReadyIn.nil)
              go_simp
              refine ⟨(fun h => by cases h), hR.mono ?_⟩
              rintro e W3 (⟨rfl, hJ3, hk3⟩ | ⟨rfl, hJx3⟩) <;> refine hK _ _ ?_ <;> clear hK K
              · refine wpAnyIn_ready (rs := [9]) (by kernel_rfl) (by simp) (AllReadyIn.cons rfl (fun K hK => ?_) AllReadyIn.nil)
                go_simp
                refine hK _ _ ?_
                clear hK K
                refine wpAnyIn_ready (rs := [10]) (by kernel_rfl) (by simp) (AllReadyIn.cons rfl (fun K hK => ?_) AllReadyIn.nil)
                go_simp
                refine hK _ _ ?_
                clear hK K
                refine wpAnyIn_done (by kernel_rfl) ?_ _
                gi_wp2
                go_roundw
                case rel => exact ⟨k + 1, hlt, rfl, hk3 _ hbd, by rw [HS.out]; exact hJ3⟩
                case measure => simp only [intOf]; omega
              · refine wpAnyIn_ready (rs := [9]) (by kernel_rfl) (by simp) (AllReadyIn.cons rfl (fun K hK => ?_) AllReadyIn.nil)
                go_simp
                refine hK _ _ ?_
                clear hK K
                refine wpAnyIn_ready (rs := [10]) (by kernel_rfl) (by simp) (AllReadyIn.cons rfl (fun K hK => ?_) AllReadyIn.nil)
                go_simp
                refine hK _ _ ?_
                clear hK K
                refine wpAnyIn_done (by kernel_rfl) ?_ _
                gi_wp2
                refine bodyPost_ret (results_none rfl _ _ _) rfl ?_
                exact ⟨⟨_, rfl⟩, .inr ⟨_, HP.out, hJx3⟩⟩
            · go_simp
              refine hK _ _ ?_
              clear hK K
              refine wpAnyIn_ready (rs := [6]) (by kernel_rfl) (by simp) (AllReadyIn.cons rfl (fun K hK => ?_) AllReadyIn.nil)
              go_simp
              refine hK _ _ ?_
              clear hK K
              refine wpAnyIn_ready (rs := [8]) (by kernel_rfl) (by simp) (AllReadyIn.cons rfl (fun K hK => ?_) AllReadyIn.nil)
              go_simp
              refine ⟨(fun h => by cases h), hR.mono ?_⟩
              rintro e W3 (⟨rfl, hJ3, hk3⟩ | ⟨rfl, hJx3⟩) <;> refine hK _ _ ?_ <;> clear hK K
              · refine wpAnyIn_ready (rs := [9]) (by kernel_rfl) (by simp) (AllReadyIn.cons rfl (fun K hK => ?_) AllReadyIn.nil)
                go_simp
                refine hK _ _ ?_
                clear hK K
                refine wpAnyIn_ready (rs := [10]) (by kernel_rfl) (by simp) (AllReadyIn.cons rfl (fun K hK => ?_) AllReadyIn.nil)
                go_simp
                refine hK _ _ ?_
                clear hK K
                refine wpAnyIn_done (by kernel_rfl) ?_ _
                gi_wp2
                go_roundw
                case rel => exact ⟨k + 1, hlt, rfl, hk3 _ hbd, by rw [HS.out]; exact hJ3⟩
                case measure => simp only [intOf]; omega
              · refine wpAnyIn_ready (rs := [9]) (by kernel_rfl) (by simp) (AllReadyIn.cons rfl (fun K hK => ?_) AllReadyIn.nil)
                go_simp
                refine hK _ _ ?_
                clear hK K
                refine wpAnyIn_ready (rs := [10]) (by kernel_rfl) (by simp) (AllReadyIn.cons rfl (fun K hK => ?_) AllReadyIn.nil)
                go_simp
                refine hK _ _ ?_
                clear hK K
                refine wpAnyIn_done (by kernel_rfl) ?_ _
                gi_wp2
                refine bodyPost_ret (results_none rfl _ _ _) rfl ?_
                exact ⟨⟨_, rfl⟩, .inr ⟨_, HP.out, hJx3⟩⟩
    · obtain rfl : k = 14 := by omega
      gi_wp2
      go_end0
      exact ⟨⟨_, rfl⟩, .inl ⟨whK f 14, rfl, hJs⟩⟩
/-- props.told: the flags are boxed; the function that it answers holds the box -/
theorem told_in (n : Nat) (f : Int) (w : World) :
    CallsIn Fence.wide n Tryz.prog 96 #[.int .u64 f] w fun e w' => e = .returned (.func (.func 123) #[] #[.pointer (some ⟨w.heap.size, 0, none⟩)]) ∧ w' = w.alloc (.cells #[.int .u64 f] 25) := by
  have hmf : ∀ (p : Value) (w : World), (Instr.makeFunc (.func 123) #[] #[p]).run Tryz.prog w = .ok (.func (.func 123) #[] #[p]) w := fun _ _ => by kernel_rfl
  refine callsIn_of_wp Tryz.func96 rfl trivial ?_ rfl
  simp only [Tryz.ntmps96, List.size_toArray, List.length_cons, List.length_nil, Nat.reduceAdd, Nat.reduceSub, Array.replicate_succ, Array.replicate_zero, List.push_toArray, List.append_toArray, List.nil_append, List.cons_append]
  gi_wp2
  go_ret
  exact ⟨rfl, rfl⟩
theorem drew_grown (W : World) : W.grownBy W.drew none := ⟨rfl, rfl, rfl, Nat.le_refl _, fun _ _ _ => rfl⟩
theorem boxed_underP {w W : World} {B : Nat} {t : TypeId} {v : Value} (h : Boxed w B t v) (hb : Below w.heap.size w W) : Boxed W B t v := (hb.block B h.lt).trans h
theorem told_stops (n : Nat) (Bf : Nat) (f : Int) (h0 : 0 ≤ f) (h1 : f < 18446744073709551616) (w : World) (hbf : Boxed w Bf 25 (.int .u64 f)) :
    SeqStopsK Fence.wide n Tryz.prog 123 #[.pointer (some ⟨Bf, 0, none⟩)] (fun x : Fin 14 => #[Value.int .i64 (x.1 : Int)]) (KeepF Bf) (fun ys => ys = wh f) (fun pre => pre <+: wh f) (wh f).length w := fun l J Jx W hW hJ _ hY hJ0 =>
  told1_in l Bf f h0 h1 n J Jx hY (fun pre W hj => hJ pre W _ none hj (drew_grown W) (fun r e => by cases e)) W (boxed_underP hbf hW) hJ0
theorem keepF_t {Bf : Nat} {A B C : World} (h : KeepF Bf A B) (k : KeepF Bf B C) : KeepF Bf A C := fun v hv => k v (h v hv)
theorem keepF_b {Bf : Nat} (W : World) (l : Nat) (o o' : Obj) (h : W.heap[l]? = some o) (hc : o.isCells = false) : KeepF Bf W (W.putObj l o') := fun v hv =>
  hv.kept (grownBy_putObj' W l o') (fun e => by
    obtain rfl : Bf = l := by simpa using e
    rw [show W.heap[Bf]? = _ from hv] at h
    cases h
    cases hc)
end Go.Proofs.YtllgkohgcicbhaaGreatDoor

/-
  props.number, shortText, wholeTable and lay answer a value's bytes by its letter, or why it isn't right; nothing that was there is changed. Conditions: the package num's table of widths holds 1, 2, 4, 8; the value's number is a uint64, its text is shorter than 2^47 bytes.
-/
namespace Go.Proofs.YtllgkohgcicbhaaGreatDoor
open Go.RowKit

set_option maxHeartbeats 1000000 in
theorem pnumber_any (k : Int) (v : MV) (w : World) (hw : Wid w) (hv : wfV v) (hk : isW k = true) :
    Calls Tryz.prog 98 #[.int .i64 k, encV v] w fun e w' => e = .returned (.tuple #[.string (numR k v), .int .i64 (numE k v)]) ∧ Below w.heap.size w w' := by
  obtain ⟨n, s⟩ := v
  obtain ⟨v1, v2, v3⟩ := hv
  dsimp only at v1 v2 v3
  have hb0 : Below w.heap.size w (w.alloc (.cells #[.int .u64 n, .string s] 58)) := (Below.refl _ w).alloc (Nat.le_refl _) _
  have hw0 := hw.below hb0
  have hx := Bx.new w 58 [.int .u64 n, .string s]
  unfold encV
  dsimp only
  go_enter Tryz.func98, Tryz.ntmps98
  go_wp2_with fail
  refine (put_any k n _ hw0 v1 v2).mono ?_
  rintro e w1 ⟨rfl, hb⟩
  have x1 := (hx.kept hb).cell 1 (by simp)
  dsimp only [List.getElem_cons_zero, List.getElem_cons_succ] at x1
  have hB := hb0.trans (hb.mono hb0.size)
  clear hx hb hb0 hw0
  cases hp : putOk k n
  · have e4 : putE k n = 4 := by rw [putE, if_pos hk, if_neg (by simp [hp])]
    have HF : Hid (numR k ⟨n, s⟩ = ⟨#[]⟩ ∧ numE k ⟨n, s⟩ = 4) := Lib.hid (by simp [numR, numE, hp])
    rw [e4]
    clear hp e4
    go_wp2
    go_ret2
    exact ⟨by rw [HF.out.1, HF.out.2]; rfl, hB⟩
  · rw [putE_of hp]
    rcases str_cases s with ⟨rfl, hs⟩ | ⟨ts, hs⟩
    · have HF : Hid (numR k ⟨n, ⟨#[]⟩⟩ = putR k n ∧ numE k ⟨n, ⟨#[]⟩⟩ = 0) := Lib.hid (by
        have e : numE k ⟨n, ⟨#[]⟩⟩ = 0 := by rw [numE, if_pos hp]; rfl
        exact ⟨by rw [numR, if_pos e], e⟩)
      clear hs hp
      generalize putR k n = r at HF ⊢
      go_wp2
      go_ret2
      exact ⟨by rw [HF.out.1, HF.out.2]; rfl, hB⟩
    · have HF : Hid (numR k ⟨n, s⟩ = ⟨#[]⟩ ∧ numE k ⟨n, s⟩ = 1) := Lib.hid (by
        have e : numE k ⟨n, s⟩ = 1 := by rw [numE, if_pos hp, if_neg hs]
        exact ⟨by rw [numR, e]; rfl, e⟩)
      clear hs hp
      generalize putR k n = r at HF ⊢
      go_wp2
      go_ret2
      exact ⟨by rw [HF.out.1, HF.out.2]; rfl, hB⟩

set_option maxHeartbeats 1000000 in
theorem pvshort_any (v : MV) (w : World) (hw : Wid w) (hv : wfV v) :
    Calls Tryz.prog 99 #[encV v] w fun e w' => e = .returned (.tuple #[.string (vRes 83 v), .int .i64 (vE 83 v)]) ∧ Below w.heap.size w w' := by
  obtain ⟨n, s⟩ := v
  obtain ⟨v1, v2, v3⟩ := hv
  dsimp only at v1 v2 v3
  have hb0 : Below w.heap.size w (w.alloc (.cells #[.int .u64 n, .string s] 58)) := (Below.refl _ w).alloc (Nat.le_refl _) _
  have hw0 := hw.below hb0
  have hx := Bx.new w 58 [.int .u64 n, .string s]
  unfold encV
  dsimp only
  go_enter Tryz.func99, Tryz.ntmps99
  go_wp2_with fail
  refine (short_any s _ hw0 (by omega)).mono ?_
  rintro e w1 ⟨rfl, hb⟩
  have x0 := (hx.kept hb).cell 0 (by simp)
  dsimp only [List.getElem_cons_zero, List.getElem_cons_succ] at x0
  have hB := hb0.trans (hb.mono hb0.size)
  clear hx hb hb0 hw0
  cases hp : layOk 1 s
  · have e4 : layE 1 s = 4 := by
      have hp' : putOk 1 (s.size : Int) = false := hp
      rw [layE, putE, if_pos (by decide), if_neg (by simp [hp'])]
    have HF : Hid (vRes 83 ⟨n, s⟩ = ⟨#[]⟩ ∧ vE 83 ⟨n, s⟩ = 4) := Lib.hid (by
      have e : vE 83 ⟨n, s⟩ = 4 := by rw [vE, if_neg (by decide), if_pos rfl, if_neg (by simp [hp])]
      exact ⟨by rw [vRes, e]; rfl, e⟩)
    rw [e4]
    clear hp e4
    generalize layR 1 s = r
    go_wp2
    go_ret2
    exact ⟨by rw [HF.out.1, HF.out.2]; rfl, hB⟩
  · rw [layE_of hp]
    by_cases hn : n = 0
    · subst hn
      have HF : Hid (vRes 83 ⟨0, s⟩ = layR 1 s ∧ vE 83 ⟨0, s⟩ = 0) := Lib.hid (by
        have e : vE 83 ⟨0, s⟩ = 0 := by rw [vE, if_neg (by decide), if_pos rfl, if_pos hp]; rfl
        exact ⟨by rw [vRes, if_pos e, vB, if_neg (by decide), if_pos rfl], e⟩)
      clear hp
      generalize layR 1 s = r at HF ⊢
      go_wp2
      go_ret2
      exact ⟨by rw [HF.out.1, HF.out.2]; rfl, hB⟩
    · have tn : (n != 0) = true := by simpa using hn
      have HF : Hid (vRes 83 ⟨n, s⟩ = ⟨#[]⟩ ∧ vE 83 ⟨n, s⟩ = 1) := Lib.hid (by
        have e : vE 83 ⟨n, s⟩ = 1 := by rw [vE, if_neg (by decide), if_pos rfl, if_pos hp, if_neg hn]
        exact ⟨by rw [vRes, e]; rfl, e⟩)
      clear hp hn
      generalize layR 1 s = r at HF ⊢
      go_wp2
      go_ret2
      exact ⟨by rw [HF.out.1, HF.out.2]; rfl, hB⟩

set_option maxHeartbeats 1000000 in
theorem pvtable_any (v : MV) (w : World) (hw : Wid w) (hv : wfV v) :
    Calls Tryz.prog 100 #[encV v] w fun e w' => e = .returned (.tuple #[.string (vRes 84 v), .int .i64 (vE 84 v)]) ∧ Below w.heap.size w w' := by
  obtain ⟨n, s⟩ := v
  obtain ⟨v1, v2, v3⟩ := hv
  dsimp only at v1 v2 v3
  have hb0 : Below w.heap.size w (w.alloc (.cells #[.int .u64 n, .string s] 58)) := (Below.refl _ w).alloc (Nat.le_refl _) _
  have hw0 := hw.below hb0
  have hx := Bx.new w 58 [.int .u64 n, .string s]
  unfold encV
  dsimp only
  by_cases hn : n = 0
  · subst hn
    have hT := tabTake_any s _ hw0 (by omega)
    have hI : tabIs s = (decide ((nest true s 32).err = 0) && decide ((takenB (nest true s 32)).size = 0)) := by
      rw [tabIs, takenB]
      by_cases g : (nest true s 32).err = 0
      · rw [if_pos g]
      · simp [g]
    have HI := Lib.hid hI
    clear hI
    have HV : Hid (vE 84 ⟨0, s⟩ = if tabIs s = true then 0 else 3) := Lib.hid rfl
    have HR : Hid (vRes 84 ⟨0, s⟩ = if vE 84 ⟨0, s⟩ = 0 then s else ⟨#[]⟩) := Lib.hid rfl
    generalize takenA s (nest true s 32) = a at hT
    generalize takenB (nest true s 32) = b at hT HI
    generalize (nest true s 32).err = x at hT HI
    generalize vRes 84 ⟨0, s⟩ = vr at HR ⊢
    generalize vE 84 ⟨0, s⟩ = ve at HV HR ⊢
    go_enter Tryz.func100, Tryz.ntmps100
    go_wp2_with fail
    refine hT.mono ?_
    rintro e w1 ⟨rfl, hb⟩
    have x1 := (hx.kept hb).cell 1 (by simp)
    dsimp only [List.getElem_cons_zero, List.getElem_cons_succ] at x1
    have hB := hb0.trans (hb.mono hb0.size)
    clear hT hx hb hb0 hw0
    by_cases hx0 : x = 0
    · subst hx0
      rcases str_cases b with ⟨rfl, hs⟩ | ⟨ts, hs⟩
      · have HF : Hid (vr = s ∧ ve = 0) := Lib.hid (by
          have e : ve = 0 := by rw [HV.out, HI.out]; rfl
          exact ⟨by rw [HR.out, if_pos e], e⟩)
        clear hs HI HV HR
        go_wp2
        go_ret2
        exact ⟨by rw [HF.out.1, HF.out.2]; rfl, hB⟩
      · have HF : Hid (vr = ⟨#[]⟩ ∧ ve = 3) := Lib.hid (by
          have e : ve = 3 := by rw [HV.out, HI.out, if_neg (by rw [Bool.and_eq_true]; rintro ⟨-, h⟩; exact hs (of_decide_eq_true h))]
          exact ⟨by rw [HR.out, e]; rfl, e⟩)
        clear hs HI HV HR
        go_wp2
        go_ret2
        exact ⟨by rw [HF.out.1, HF.out.2]; rfl, hB⟩
    · have tx : (x != 0) = true := by simpa using hx0
      have HF : Hid (vr = ⟨#[]⟩ ∧ ve = 3) := Lib.hid (by
        have e : ve = 3 := by rw [HV.out, HI.out, if_neg (by simp [hx0])]
        exact ⟨by rw [HR.out, e]; rfl, e⟩)
      clear hx0 HI HV HR
      go_wp2
      go_ret2
      exact ⟨by rw [HF.out.1, HF.out.2]; rfl, hB⟩
  · have tn : (n != 0) = true := by simpa using hn
    have HF : Hid (vRes 84 ⟨n, s⟩ = ⟨#[]⟩ ∧ vE 84 ⟨n, s⟩ = 1) := Lib.hid (by
      have e : vE 84 ⟨n, s⟩ = 1 := by rw [vE, if_neg (by decide), if_neg (by decide), if_neg (by decide), if_pos rfl, if_neg hn]
      exact ⟨by rw [vRes, e]; rfl, e⟩)
    clear hw0 hn hx
    go_enter Tryz.func100, Tryz.ntmps100
    go_wp2
    go_ret2
    exact ⟨by rw [HF.out.1, HF.out.2]; rfl, hb0⟩

set_option maxHeartbeats 1000000 in
theorem play_111 (v : MV) (w : World) (hw : Wid w) (hv : wfV v) :
    Calls Tryz.prog 79 #[.int .u8 111, encV v] w fun e w' => e = .returned (.tuple #[.string (vRes 111 v), .int .i64 (vE 111 v)]) ∧ Below w.heap.size w w' := by
  have hb0 : Below w.heap.size w (w.alloc (.cells #[.int .u64 v.n, .string v.s] 58)) := (Below.refl _ w).alloc (Nat.le_refl _) _
  have hw0 := hw.below hb0
  have hN := pnumber_any 1 v _ hw0 hv (by decide)
  have H : Hid (numR 1 v = vRes 111 v ∧ numE 1 v = vE 111 v) := Lib.hid ⟨rfl, rfl⟩
  rw [H.out.1, H.out.2] at hN
  clear H
  generalize vRes 111 v = a at hN
  generalize vE 111 v = x at hN
  unfold encV at hN ⊢
  go_enter Tryz.func79, Tryz.ntmps79
  go_wp2_with fail
  refine hN.mono ?_
  rintro e w1 ⟨rfl, hb⟩
  clear hN
  go_wp2
  go_ret2
  exact ⟨rfl, hb0.trans (hb.mono hb0.size)⟩

set_option maxHeartbeats 1000000 in
theorem play_113 (v : MV) (w : World) (hw : Wid w) (hv : wfV v) :
    Calls Tryz.prog 79 #[.int .u8 113, encV v] w fun e w' => e = .returned (.tuple #[.string (vRes 113 v), .int .i64 (vE 113 v)]) ∧ Below w.heap.size w w' := by
  have hb0 : Below w.heap.size w (w.alloc (.cells #[.int .u64 v.n, .string v.s] 58)) := (Below.refl _ w).alloc (Nat.le_refl _) _
  have hw0 := hw.below hb0
  have hN := pnumber_any 8 v _ hw0 hv (by decide)
  have H : Hid (numR 8 v = vRes 113 v ∧ numE 8 v = vE 113 v) := Lib.hid ⟨rfl, rfl⟩
  rw [H.out.1, H.out.2] at hN
  clear H
  generalize vRes 113 v = a at hN
  generalize vE 113 v = x at hN
  unfold encV at hN ⊢
  go_enter Tryz.func79, Tryz.ntmps79
  go_wp2_with fail
  refine hN.mono ?_
  rintro e w1 ⟨rfl, hb⟩
  clear hN
  go_wp2
  go_ret2
  exact ⟨rfl, hb0.trans (hb.mono hb0.size)⟩

set_option maxHeartbeats 1000000 in
theorem play_83 (v : MV) (w : World) (hw : Wid w) (hv : wfV v) :
    Calls Tryz.prog 79 #[.int .u8 83, encV v] w fun e w' => e = .returned (.tuple #[.string (vRes 83 v), .int .i64 (vE 83 v)]) ∧ Below w.heap.size w w' := by
  have hb0 : Below w.heap.size w (w.alloc (.cells #[.int .u64 v.n, .string v.s] 58)) := (Below.refl _ w).alloc (Nat.le_refl _) _
  have hw0 := hw.below hb0
  have hN := pvshort_any v _ hw0 hv
  generalize vRes 83 v = a at hN
  generalize vE 83 v = x at hN
  unfold encV at hN ⊢
  go_enter Tryz.func79, Tryz.ntmps79
  go_wp2_with fail
  refine hN.mono ?_
  rintro e w1 ⟨rfl, hb⟩
  clear hN
  go_wp2
  go_ret2
  exact ⟨rfl, hb0.trans (hb.mono hb0.size)⟩

set_option maxHeartbeats 1000000 in
theorem play_84 (v : MV) (w : World) (hw : Wid w) (hv : wfV v) :
    Calls Tryz.prog 79 #[.int .u8 84, encV v] w fun e w' => e = .returned (.tuple #[.string (vRes 84 v), .int .i64 (vE 84 v)]) ∧ Below w.heap.size w w' := by
  have hb0 : Below w.heap.size w (w.alloc (.cells #[.int .u64 v.n, .string v.s] 58)) := (Below.refl _ w).alloc (Nat.le_refl _) _
  have hw0 := hw.below hb0
  have hN := pvtable_any v _ hw0 hv
  generalize vRes 84 v = a at hN
  generalize vE 84 v = x at hN
  unfold encV at hN ⊢
  go_enter Tryz.func79, Tryz.ntmps79
  go_wp2_with fail
  refine hN.mono ?_
  rintro e w1 ⟨rfl, hb⟩
  clear hN
  go_wp2
  go_ret2
  exact ⟨rfl, hb0.trans (hb.mono hb0.size)⟩

theorem play_any (i : Fin 14) (v : MV) (w : World) (hw : Wid w) (hv : wfV v) :
    Calls Tryz.prog 79 #[.int .u8 ((pLet i).toNat : Int), encV v] w fun e w' => e = .returned (.tuple #[.string (vRes (pLet i) v), .int .i64 (vE (pLet i) v)]) ∧ Below w.heap.size w w' := by
  rcases pLet_cases i with h | h | h | h <;> rw [h]
  · exact play_83 v w hw hv
  · exact play_84 v w hw hv
  · exact play_111 v w hw hv
  · exact play_113 v w hw hv
end Go.Proofs.YtllgkohgcicbhaaGreatDoor

/-
  props.properties goes through a head's properties: which one it is, and what holds its value. Conditions: flags are a uint64; there are as many values as properties.
-/
namespace Go.Proofs.YtllgkohgcicbhaaGreatDoor
open Go.RowKit Go.Shelf
attribute [local go_sem] Oper.semAt_some

/-- a property as a value: the head, and where its value stands -/
def encP (h : He) (A : Option Addr) (cap : Nat) (at' : Nat) : Value := .agg #[.int .i64 h.c, .int .u64 h.z, .int .u64 h.f, .slice A h.l.length cap, .int .i64 (at' : Int)]
def encsP (h : He) (A : Option Addr) (cap : Nat) (x : Fin 14 × Nat) : Array Value := #[.int .i64 (x.1.1 : Int), .func (.func 97) #[encP h A cap x.2] #[]]

theorem results_c1 {fn : Func} {p : Tmp} {ty : TypeId} (h : fn.results = #[.cell p ty]) (tmps : Array Value) (P : Program) (w : World) :
    (results fn tmps).run P w = ((asAddr (tmps.getD p undef)).run P w).andThen fun a w₁ => (loadVar ty a).run P w₁ := by
  simp only [results, h]
  simp [Sem.run_bind, Result.andThen]
theorem cell_below {n b : Nat} {w w' : World} (h : Below n w w') (hb : b < n) (i : Nat) : w'.cell? ⟨b, i, none⟩ = w.cell? ⟨b, i, none⟩ := by
  simp only [World.cell?, h.block b hb]
set_option maxRecDepth 100000 in
set_option maxHeartbeats 1000000 in
theorem pvalue_any (h : He) (A : Option Addr) (cap k : Nat) (hk : k < h.l.length) (w : World) (hA : ValsAt w A (rowV h.l)) :
    Calls Tryz.prog 97 #[encP h A cap k] w fun e w' => e = .returned (encV h.l[k]) ∧ Below w.heap.size w w' := by
  obtain ⟨b, off, rfl, hlt, hc⟩ := vals_v hA (by omega)
  obtain ⟨c0, c1⟩ := hc k hk
  obtain ⟨c, z, f, l⟩ := h
  dsimp only at *
  unfold encP encV
  dsimp only
  generalize l[k] = v at c0 c1 ⊢
  obtain ⟨n, s⟩ := v
  dsimp only at *
  have d0 : ∀ o o', ((w.alloc o).alloc o').cell? ⟨b, off + k * 2, none⟩ = some (.int .u64 n) := fun o o' => by
    rw [← c0]
    exact cell_below (((Below.refl _ w).alloc (Nat.le_refl _) o).alloc (by simp) o') hlt _
  have d1 : ∀ o o', ((w.alloc o).alloc o').cell? ⟨b, off + k * 2 + 1, none⟩ = some (.string s) := fun o o' => by
    rw [← c1]
    exact cell_below (((Below.refl _ w).alloc (Nat.le_refl _) o).alloc (by simp) o') hlt _
  have hB : ∀ o o', Below w.heap.size w ((w.alloc o).alloc o') := fun o o' => ((Below.refl _ w).alloc (Nat.le_refl _) o).alloc (by simp) o'
  clear hc c0 c1
  go_enter Tryz.func97, Tryz.ntmps97
  go_wp2
  refine bodyPost_ret (v := .agg #[.int .u64 n, .string s]) ?_ rfl ⟨rfl, hB _ _⟩
  rw [results_c1 rfl]
  simp [asAddr, Result.andThen, go_sem]

theorem cells_grow {X Y : World} {row : Option Nat} {b B : Nat} {cs : Array Value} {t : TypeId} {fz : Nat × Nat} (h : X.heap[b]? = some (.cells cs t fz)) (hg : X.grownBy Y row) (hr : ∀ r, row = some r → B ≤ r ∧ ∃ o : Obj, X.heap[r]? = some o ∧ o.isCells = false) : Y.heap[b]? = some (.cells cs t fz) := by
  refine (hg.block b (Array.getElem?_eq_some_iff.1 h).1 (fun e => ?_)).trans h
  obtain ⟨-, o, ho, hc⟩ := hr b e.symm
  rw [h] at ho
  cases ho
  cases hc
theorem bx_other {W : World} {B b : Nat} {t : TypeId} {l : List Value} (h : Bx W B t l) (hne : B ≠ b) (v : Value) : Bx (W.setCell ⟨b, 0, none⟩ v) B t l := (Below.heap_setCell W ⟨b, 0, none⟩ v B hne).trans h
theorem zip_pre {α : Type} {l m : List α} (h : l <+: m) : l.zipIdx <+: m.zipIdx := by
  obtain ⟨t, rfl⟩ := h
  rw [List.zipIdx_append]
  exact List.prefix_append _ _
def notInt (t : TypeId) : Bool := t == 3
def itTypes (t : TypeId) : Bool := t == 163 || t == 27 || t == 3 || t == 25
def okP (h : He) (pre : List (Fin 14 × Nat)) (x : Fin 14 × Nat) : Prop := x.2 = pre.length ∧ x.2 < h.l.length

set_option maxRecDepth 100000 in
set_option maxHeartbeats 2000000 in
theorem props1_through (h : He) (A : Option Addr) (cap Bh : Nat) (w : World) (h0 : 0 ≤ h.f) (h1 : h.f < 18446744073709551616) (hlen : (wh h.f).length = h.l.length) (hb : Bx w Bh 27 (cellsH h A cap)) :
    Through Tryz.prog 95 #[.pointer (some ⟨Bh, 0, none⟩)] (encsP h A cap) notInt (fun B => Kept B itTypes) (okP h) (fun xs => xs = (wh h.f).zipIdx) (fun pre => pre <+: (wh h.f).zipIdx) w := by
  intro l J Jx W hW hJ hJx hY hJ0
  refine callsIn_room (n := 5) ?_
  have hbW := hb.kept hW
  have hx2 := hbW.cell 2 (by simp [cellsH])
  refine callsIn_of_wp_marks Tryz.func95 rfl trivial ?_ rfl
  simp only [Tryz.ntmps95, List.size_toArray, List.length_cons, List.length_nil, Nat.reduceAdd, Nat.reduceSub, Array.replicate_succ, Array.replicate_zero, List.push_toArray, List.append_toArray, List.nil_append, List.cons_append]
  simp only [cellsH, List.getElem_cons_zero, List.getElem_cons_succ] at hx2
  have hx2' : ∀ o o', ((W.alloc o).alloc o').cell? ⟨Bh, 2, none⟩ = some (.int .u64 h.f) := fun o o' => by
    rw [← hx2]
    exact cell_below (((Below.refl _ W).alloc (Nat.le_refl _) o).alloc (by simp) o') hbW.lt _
  gi_wp2_with fail
  refine ⟨trivial, (told_in 4 _ _).mono ?_⟩
  rintro e w' ⟨rfl, rfl⟩
  gi_wp2_with fail
  obtain ⟨w0, hw0⟩ : ∃ w0, ((W.alloc (.cells #[.func (.yield l) #[] #[]] 163)).alloc (.cells #[.int .i64 0] 3)).alloc (.cells #[.int .u64 h.f] 25) = w0 := ⟨_, rfl⟩
  have bY : Boxed w0 W.heap.size 163 (.func (.yield l) #[] #[]) := by rw [← hw0]; exact ((Boxed.new W _ _).alloc _).alloc _
  have bA : Boxed w0 (W.heap.size + 1) 3 (.int .i64 0) := by
    have h := (Boxed.new (W.alloc (.cells #[.func (.yield l) #[] #[]] 163)) 3 (.int .i64 0)).alloc (.cells #[.int .u64 h.f] 25)
    rw [World.size_alloc] at h
    rw [← hw0]; exact h
  have bF : Boxed w0 (W.heap.size + 1 + 1) 25 (.int .u64 h.f) := by
    have h := Boxed.new ((W.alloc (.cells #[.func (.yield l) #[] #[]] 163)).alloc (.cells #[.int .i64 0] 3)) 25 (.int .u64 h.f)
    rw [World.size_alloc, World.size_alloc] at h
    rw [← hw0]; exact h
  have hB0 : Below W.heap.size W w0 := by rw [← hw0]; exact (((Below.refl _ W).alloc (Nat.le_refl _) _).alloc (by simp) _).alloc (by simp; omega) _
  have bH := hbW.kept hB0
  have hj0 : J [] w0 := by rw [← hw0]; exact hJ.alloc _ (hJ.alloc _ (hJ.alloc _ hJ0))
  have hsz : w0.heap.size = W.heap.size + 3 := by rw [← hw0]; simp
  rw [hw0]
  clear hw0 hx2 hx2'
  have hmf : ∀ (v : Value) (w : World), (Instr.makeFunc (.func 97) #[v] #[]).run Tryz.prog w = .ok (.func (.func 97) #[v] #[]) w := fun _ _ => by kernel_rfl
  refine wpIn_rangeFunc_ownG rfl (by decide) (gf := 123) (lb := #[.pointer (some ⟨W.heap.size + 1 + 1, 0, none⟩)]) rfl trivial (enters_of Tryz.func123 (by kernel_rfl) rfl)
    (told_stops 4 (W.heap.size + 1 + 1) h.f h0 h1 _ bF) keepF_t (fun W l o o' _ h hc _ => keepF_b W l o o' h hc) (Below.refl _ _) (fun _ => rfl)
    (fun pre X => J pre.zipIdx X ∧ Boxed X W.heap.size 163 (.func (.yield l) #[] #[]) ∧ Boxed X (W.heap.size + 1) 3 (.int .i64 (pre.length : Nat)) ∧ Bx X Bh 27 (cellsH h A cap))
    (fun c pre X => c = .ret ∧ Jx pre.zipIdx X)
    (fun pre X Y row hs hg hr => ⟨(hJ.mono (by omega)).own _ X Y row hs.1 hg hr, cells_grow hs.2.1 hg hr, cells_grow hs.2.2.1 hg hr, cells_grow hs.2.2.2 hg hr⟩)
    (fun c pre X Y row hs hg hr => ⟨hs.1, (hJx.mono (by omega)).own _ X Y row hs.2 hg hr⟩)
    ⟨hj0, bY, bA, bH⟩
    (fun x => { tmps := #[.func (.yield l) #[] #[], .pointer (some ⟨Bh, 0, none⟩), .pointer (some ⟨W.heap.size, 0, none⟩), .pointer (some ⟨W.heap.size + 1, 0, none⟩), .int .i64 (x.1 : Int), .pointer (some ⟨Bh, 2, none⟩), .int .u64 h.f, .func (.func 123) #[] #[.pointer (some ⟨W.heap.size + 1 + 1, 0, none⟩)], .int .i64 (x.1 : Int), undef, undef, undef, undef, undef, undef, undef, undef, undef, undef], defers := [] }) ?assign ?body ?done ?stop
  case assign =>
    intro l x W K hK
    gi_wp2
    exact hK
  case body =>
    rintro l' pre x X ⟨hj, hy, ha, hh⟩ hlt
    have hcy := hy.cell
    have hca := ha.cell
    have hc0 := hh.cell 0 (by simp [cellsH])
    have hc1 := hh.cell 1 (by simp [cellsH])
    have hc2 := hh.cell 2 (by simp [cellsH])
    have hc3 := hh.cell 3 (by simp [cellsH])
    simp only [cellsH, List.getElem_cons_zero, List.getElem_cons_succ] at hc0 hc1 hc2 hc3
    have HZ : Hid (pre.zipIdx ++ [(x, pre.length)] = (pre ++ [x]).zipIdx ∧ (pre ++ [x]).length = pre.length + 1) := Lib.hid (by simp [List.zipIdx_append])
    obtain ⟨fn, tmps, assign, body', hyl, hR⟩ := yield_room (m' := 2) (hY pre.zipIdx (x, pre.length) X hj ⟨by simp, by dsimp only; omega⟩)
    unfold encsP encP at hyl
    dsimp only at hyl
    have e1 : IntKind.i64.wrap ((pre.length : Int) + 1) = ((pre.length + 1 : Nat) : Int) := by
      have := wh_le h.f
      simp only [IntKind.wrap_i64]
      omega
    gi_wp2
    refine hR.mono ?_
    rintro e W3 (⟨rfl, hJ3, hk3⟩ | ⟨rfl, hJx3, hk3⟩)
    · have ha3 := hk3.boxed ha rfl
      have hc3a := ha3.cell
      have hf3a := ha3.frozen
      have hy3 := hk3.boxed hy rfl
      have hh3 := hk3.bx hh rfl
      rw [HZ.out.1] at hJ3
      have hne : W.heap.size ≠ W.heap.size + 1 := by omega
      have hne2 : W.heap.size + 1 + 1 ≠ W.heap.size + 1 := by omega
      have hneB : Bh ≠ W.heap.size + 1 := by have := hbW.lt; omega
      clear hcy hca hc0 hc1 hc2 hc3
      gi_wp2
      refine ⟨(hk3.from (by omega)).trans (KeepsFrom.of_grownBy (grownBy_setCell' W3 _ _) (fun j e => ?_)), fun v hv => (hk3.boxed hv rfl).other hne2 _, hJ.set hJ3 ha3 (by omega) rfl _, hy3.other hne _, ?_, ?_⟩
      · obtain rfl : W.heap.size + 1 = j := by simpa using e
        omega
      · rw [HZ.out.2]
        exact ha3.set _
      · exact bx_other hh3 hneB _
    · rw [HZ.out.1] at hJx3
      gi_wp2
      exact ⟨hk3.from (by omega), rfl, hJx3⟩
  case done =>
    rintro D ys X hD rfl ⟨hj, -, -, -⟩ hK
    gi_wp2
    refine ⟨by simp, .inl ⟨_, _, rfl, run_takeDeferred hK, ?_⟩⟩
    exact ⟨_, results_none rfl _ _ _, ⟨_, rfl⟩, .inl ⟨_, rfl, (hJ.mono (by omega)).own.putObj (B := w0.heap.size) _ hj hD hK rfl⟩⟩
  case stop =>
    rintro D c pre X hD hSp ⟨rfl, hx⟩ hK
    gi_wp2
    refine ⟨by simp, .inl ⟨_, _, rfl, run_takeDeferred hK, ?_⟩⟩
    exact ⟨_, results_none rfl _ _ _, ⟨_, rfl⟩, .inr ⟨_, zip_pre hSp, (hJx.mono (by omega)).own.putObj (B := w0.heap.size) _ hx hD hK rfl⟩⟩
/-- props.properties: the head is boxed; the function that it answers holds the box -/
theorem properties_in (n : Nat) (h : He) (A : Option Addr) (cap : Nat) (w : World) :
    CallsIn Fence.wide n Tryz.prog 78 #[encH h A cap] w fun e w' => e = .returned (.func (.func 95) #[] #[.pointer (some ⟨w.heap.size, 0, none⟩)]) ∧ w' = w.alloc (.cells (cellsH h A cap).toArray 27) := by
  have hmf : ∀ (p : Value) (w : World), (Instr.makeFunc (.func 95) #[] #[p]).run Tryz.prog w = .ok (.func (.func 95) #[] #[p]) w := fun _ _ => by kernel_rfl
  unfold encH cellsH
  refine callsIn_of_wp Tryz.func78 rfl trivial ?_ rfl
  simp only [Tryz.ntmps78, List.size_toArray, List.length_cons, List.length_nil, Nat.reduceAdd, Nat.reduceSub, Array.replicate_succ, Array.replicate_zero, List.push_toArray, List.append_toArray, List.nil_append, List.cons_append]
  gi_wp2
  go_ret
  exact ⟨rfl, rfl⟩
end Go.Proofs.YtllgkohgcicbhaaGreatDoor

/-
  props.Bytes, Right and Letters, and the document's example, answer as the plain functions say; nothing that was there is changed. Conditions: the package num's table of widths holds 1, 2, 4, 8; size and flags, and values' numbers, are uint64s, values' texts shorter than 2^47 bytes.
-/
namespace Go.Proofs.YtllgkohgcicbhaaGreatDoor
open Go.RowKit Go.Shelf
attribute [local go_sem] Oper.semAt_some

theorem results_cc {fn : Func} {p q : Tmp} {tp tq : TypeId} (h : fn.results = #[.cell p tp, .cell q tq]) (tmps : Array Value) (P : Program) (w : World) :
    (results fn tmps).run P w =
      ((asAddr (tmps.getD p undef)).run P w).andThen fun a w₁ => ((loadVar tp a).run P w₁).andThen fun u w₂ => ((asAddr (tmps.getD q undef)).run P w₂).andThen fun b w₃ => ((loadVar tq b).run P w₃).andThen fun v w₄ => .ok (.tuple #[u, v]) w₄ := by
  simp only [results, h]
  simp [Sem.run_bind, Result.andThen]
theorem bx_alloc {W : World} {B : Nat} {t : TypeId} {l : List Value} (h : Bx W B t l) (o : Obj) : Bx (W.alloc o) B t l := h.kept ((Below.refl _ W).alloc (Nat.le_refl _) o)
/-- what was told, as letters and values -/
def gl (l : List MV) (pre : List (Fin 14 × Nat)) : List (UInt8 × MV) := pre.map fun x => (pLet x.1, l.getD x.2 noV)
theorem gl_snoc (l : List MV) (pre : List (Fin 14 × Nat)) (x : Fin 14 × Nat) : gl l (pre ++ [x]) = gl l pre ++ [(pLet x.1, l.getD x.2 noV)] := by simp [gl]
theorem gl_all (f : Int) (l : List MV) (h : (wh f).length = l.length) : gl l (wh f).zipIdx = (hLs f).zip l := by
  apply List.ext_getElem
  · simp [gl, hLs, h]
  · intro i h1 h2
    have hi : i < l.length := by simp [gl] at h1; omega
    simp [gl, hLs, List.getD_eq_getElem?_getD, hi]
theorem gl_pre {l : List MV} {a b : List (Fin 14 × Nat)} (h : a <+: b) : gl l a <+: gl l b := by
  obtain ⟨t, rfl⟩ := h
  rw [gl, gl, List.map_append]
  exact List.prefix_append _ _

theorem begB_size {h : He} (hh : wfH h) (h1 : h.c = 60) (h2 : h.f < 65536) : (begB h).size = 14 := by
  have s1 := putR_size (show putOk 2 h.c = true by rw [h1]; decide)
  have s2 := putR_size (show putOk 2 0 = true by decide)
  have s3 := putR_size (put8_ok hh.1)
  have s4 := putR_size (put2_okP ⟨hh.2.1.1, h2⟩)
  rw [begB, ByteArray.size_append, ByteArray.size_append, ByteArray.size_append]
  omega
set_option maxRecDepth 100000 in
theorem index_let (i : Fin 14) (w : World) : (Instr.index 9 (.string ⟨#[83, 83, 84, 111, 111, 83, 83, 83, 83, 113, 83, 83, 83, 83]⟩) (.int .i64 (i.1 : Int))).run Tryz.prog w = .ok (.int .u8 ((pLet i).toNat : Int)) w := by
  obtain ⟨i, hi⟩ := i
  have hc : i = 0 ∨ i = 1 ∨ i = 2 ∨ i = 3 ∨ i = 4 ∨ i = 5 ∨ i = 6 ∨ i = 7 ∨ i = 8 ∨ i = 9 ∨ i = 10 ∨ i = 11 ∨ i = 12 ∨ i = 13 := by omega
  rcases hc with rfl | rfl | rfl | rfl | rfl | rfl | rfl | rfl | rfl | rfl | rfl | rfl | rfl | rfl <;> rfl
theorem vals_drew {w : World} {A : Option Addr} {l : List Value} (h : ValsAt w A l) : ValsAt w.drew A l := h
theorem below_undrew {X w : World} (h : Below X.drew.heap.size X.drew w) : Below X.heap.size X w := ⟨h.os, h.tape, h.output, h.size, h.block⟩
theorem strCells_appendP (a b : ByteArray) : Lib.strCells a ++ Lib.strCells b = Lib.strCells (a ++ b) := by
  rw [Lib.strCells_eq, Lib.strCells_eq, Lib.strCells_eq, ba_append]
  simp [Lib.byteCells]
theorem keeps_it {X Y : World} (h : Keeps notBuild X Y) : Keeps itTypes X Y := fun g o hg ho => h g o hg (fun cs t fz e => by
  have := ho cs t fz e
  simp only [itTypes, Bool.or_eq_true, beq_iff_eq] at this
  rcases this with ((rfl | rfl) | rfl) | rfl <;> decide)
/-- between rounds -/
structure BI (h : He) (bg : ByteArray) (w : World) (b B : Nat) (pre : List (Fin 14 × Nat)) (X : World) : Prop where
  ok : erP (gl h.l pre) = 0
  len : pre.length ≤ h.l.length
  bu : Lib.IsBuilder 125 5 b b (Lib.strCells (bg ++ catP (gl h.l pre))) X
  str : Boxed X (w.heap.size + 1) 9 (.string ⟨#[]⟩)
  err : Boxed X (w.heap.size + 1 + 1) 37 (.int .i64 0)
  bel : Below w.heap.size w X
  big : B ≤ X.heap.size
/-- where a round left the loop -/
structure BX (h : He) (w : World) (pre : List (Fin 14 × Nat)) (X : World) : Prop where
  bad : ¬ erP (gl h.l pre) = 0
  str : Boxed X (w.heap.size + 1) 9 (.string ⟨#[]⟩)
  err : Boxed X (w.heap.size + 1 + 1) 37 (.int .i64 (erP (gl h.l pre)))
  bel : Below w.heap.size w X
theorem BI.below {h : He} {bg : ByteArray} {w X Y : World} {b B : Nat} {pre : List (Fin 14 × Nat)} (hI : BI h bg w b B pre X) (hb : Below X.heap.size X Y) : BI h bg w b B pre Y :=
  ⟨hI.ok, hI.len, isBuilder_below hI.bu hb, boxed_underP hI.str hb, boxed_underP hI.err hb, hI.bel.trans (hb.mono hI.bel.size), Nat.le_trans hI.big hb.size⟩
theorem q_cells {X Y : World} {row : Option Nat} {g B : Nat} {cs : Array Value} {t : TypeId} {fz : Nat × Nat} (hg : X.grownBy Y row) (hr : ∀ r, row = some r → B ≤ r ∧ ∃ o : Obj, X.heap[r]? = some o ∧ ∀ cs t fz, o = .cells cs t fz → notInt t = true) (h : X.heap[g]? = some (.cells cs t fz)) (ht : notInt t = false) : Y.heap[g]? = some (.cells cs t fz) := by
  refine (hg.block g (Array.getElem?_eq_some_iff.1 h).1 (fun e => ?_)).trans h
  obtain ⟨-, o, ho, hc⟩ := hr g e.symm
  rw [h] at ho
  have := hc cs t fz (Option.some.inj ho).symm
  rw [ht] at this
  cases this
theorem q_builder {X Y : World} {row : Option Nat} {b b' B : Nat} {bs : List Value} (hg : X.grownBy Y row) (hr : ∀ r, row = some r → B ≤ r ∧ ∃ o : Obj, X.heap[r]? = some o ∧ ∀ cs t fz, o = .cells cs t fz → notInt t = true) (h : Lib.IsBuilder 125 5 b' b bs X) : Lib.IsBuilder 125 5 b' b bs Y := by
  have key : ∀ q, Lib.BuilderAt 125 5 b' b q bs X → Lib.BuilderAt 125 5 b' b q bs Y := by
    intro q hq
    obtain ⟨hB, v, hbk, hown, hne⟩ := hq
    refine ⟨hB, v, q_cells hg hr hbk (by decide), ⟨hown.1, ?_⟩, hne⟩
    rcases hown.2 with h1 | ⟨g, cap, cur, hv, h2, h3, h4⟩
    · exact .inl h1
    · exact .inr ⟨g, cap, cur, hv, h2, q_cells hg hr h3 (by decide), h4⟩
  exact h.imp (key _) (key _)
theorem BI_ab {h : He} {bg : ByteArray} {w : World} {b B N : Nat} (hN : w.heap.size ≤ N) : Ab notInt N (fun pre Y => BI h bg w b B pre Y) := fun pre X Y row hs hg hr =>
  ⟨hs.ok, hs.len, q_builder hg hr hs.bu, q_cells hg hr hs.str (by decide), q_cells hg hr hs.err (by decide), hs.bel.grown hg hs.bel.size (fun k e => Nat.le_trans hN (hr k e).1), Nat.le_trans hs.big hg.size⟩
theorem BX_ab {h : He} {w : World} {N : Nat} (hN : w.heap.size ≤ N) : Ab notInt N (fun pre Y => BX h w pre Y) := fun pre X Y row hs hg hr =>
  ⟨hs.bad, q_cells hg hr hs.str (by decide), q_cells hg hr hs.err (by decide), hs.bel.grown hg hs.bel.size (fun k e => Nat.le_trans hN (hr k e).1)⟩
theorem BI_room {h : He} {bg vb : ByteArray} {w X : World} {b B k : Nat} {pre : List (Fin 14 × Nat)} (hI : BI h bg w b B pre X) (hbg : bg.size = 14) (hx2 : k < h.l.length) (hx1 : k = pre.length) (hl : h.l.length ≤ 14) (hv : vb.size ≤ 4294967400) : (Lib.strCells (bg ++ catP (gl h.l pre))).length + vb.size ≤ 140737488355328 := by
  rw [Lib.strCells_length, ByteArray.size_append]
  have h1 := catP_size _ hI.ok
  have h2 : (gl h.l pre).length = pre.length := by rw [gl, List.length_map]
  rw [h2] at h1
  have h3 : pre.length * 4294967400 ≤ 14 * 4294967400 := Nat.mul_le_mul_right _ (by omega)
  omega
/-- at the end: what is answered lies in its boxes -/
structure BZ (w : World) (D : Nat) (r : ByteArray) (x : Int) (X : World) : Prop where
  str : Boxed X (w.heap.size + 1) 9 (.string r)
  err : Boxed X (w.heap.size + 1 + 1) 37 (.int .i64 x)
  bel : Below w.heap.size w X
  late : X.heap[D]? = some (.deferred (some []))
set_option maxRecDepth 100000 in
set_option maxHeartbeats 400000 in
theorem pbytes_any (h : He) (A : Option Addr) (cap : Nat) (w : World) (hw : Wid w) (hh : wfH h) (hA : ValsAt w A (rowV h.l)) :
    Calls Tryz.prog 52 #[encH h A cap] w fun e w' => e = .returned (.tuple #[.string (hB h), .int .i64 (hE h)]) ∧ Below w.heap.size w w' := by
  refine (callsIn_wide (n := 6)).1 ?_
  obtain ⟨w0, hw0⟩ : ∃ w0, ((w.alloc (.cells (cellsH h A cap).toArray 27)).alloc (.cells #[.string ⟨#[]⟩] 9)).alloc (.cells #[.int .i64 0] 37) = w0 := ⟨_, rfl⟩
  have bH : Bx w0 w.heap.size 27 (cellsH h A cap) := by rw [← hw0]; exact bx_alloc (bx_alloc (Bx.new w _ _) _) _
  have bS : Boxed w0 (w.heap.size + 1) 9 (.string ⟨#[]⟩) := by
    have h := (Boxed.new (w.alloc (.cells (cellsH h A cap).toArray 27)) 9 (.string ⟨#[]⟩)).alloc (.cells #[.int .i64 0] 37)
    rw [World.size_alloc] at h
    rw [← hw0]; exact h
  have bE : Boxed w0 (w.heap.size + 1 + 1) 37 (.int .i64 0) := by
    have h := Boxed.new ((w.alloc (.cells (cellsH h A cap).toArray 27)).alloc (.cells #[.string ⟨#[]⟩] 9)) 37 (.int .i64 0)
    rw [World.size_alloc, World.size_alloc] at h
    rw [← hw0]; exact h
  have hB0 : Below w.heap.size w w0 := by rw [← hw0]; exact (((Below.refl _ w).alloc (Nat.le_refl _) _).alloc (by simp) _).alloc (by simp; omega) _
  have hsz : w0.heap.size = w.heap.size + 3 := by rw [← hw0]; simp
  have hSh := shape_any h A cap w0 hh
  have hBeg := fun W hW => beginning_any h A cap W hW hh
  have hPr := fun W => properties_in 5 h A cap W
  have x0 := bH.cell 0 (by simp [cellsH])
  have x1 := bH.cell 1 (by simp [cellsH])
  have x2 := bH.cell 2 (by simp [cellsH])
  have x3 := bH.cell 3 (by simp [cellsH])
  simp only [cellsH, List.getElem_cons_zero, List.getElem_cons_succ] at x0 x1 x2 x3
  unfold encH at hSh hBeg hPr ⊢
  unfold cellsH at hw0
  refine callsIn_of_wp_marks Tryz.func52 rfl trivial ?_ rfl
  simp only [Tryz.ntmps52, List.size_toArray, List.length_cons, List.length_nil, Nat.reduceAdd, Nat.reduceSub, Array.replicate_succ, Array.replicate_zero, List.push_toArray, List.append_toArray, List.nil_append, List.cons_append]
  gi_wp2_with fail
  refine ⟨trivial, (callsIn_wide.2 hSh).mono ?_⟩
  rintro e w1 ⟨rfl, hb1⟩
  have hB1 := hB0.trans (hb1.mono hB0.size)
  have bH1 := bH.kept hb1
  have bS1 := boxed_underP bS hb1
  have bE1 := boxed_underP bE hb1
  have hs1 : w.heap.size + 3 ≤ w1.heap.size := by have := hb1.size; omega
  clear hSh hw0 x0 x1 x2 x3 hb1 bH bS bE hB0
  by_cases hs : shE h = 0
  · rw [hs]
    have hok : shOk h := by
      by_cases hk : shOk h
      · exact hk
      · rw [shE, if_neg hk] at hs; cases hs
    obtain ⟨ok1, ok2, ok3, ok4⟩ := hok
    have hbs : (begB h).size = 14 := begB_size hh ok1 ok2
    have HB : Hid (hB h = if hE h = 0 then begB h ++ catP ((hLs h.f).zip h.l) else ⟨#[]⟩) := Lib.hid rfl
    generalize begB h = bg at hBeg hbs HB
    have HBs := Lib.hid hbs
    have HOk : Hid (h.c = 60 ∧ h.f < 65536 ∧ (wh h.f).length = h.l.length) := Lib.hid ⟨ok1, ok2, ok4⟩
    have HSh := Lib.hid hs
    replace hBeg := fun W hW => hBeg W hW ok1 ok2
    clear hbs ok1 ok2 ok3 ok4 hs
    obtain ⟨w2, hw2⟩ : ∃ w2, w1.alloc (.cells #[.pointer none, .slice none 0 0] 125) = w2 := ⟨_, rfl⟩
    have hbu : Lib.IsBuilder 125 5 w1.heap.size w1.heap.size [] w2 := by
      rw [← hw2]
      exact Lib.fresh_isBuilder _ _ w1
    have hb2 : Below w1.heap.size w1 w2 := by rw [← hw2]; exact (Below.refl _ w1).alloc (Nat.le_refl _) _
    have hB2 := hB1.trans (hb2.mono hB1.size)
    have bH2 := bH1.kept hb2
    have bS2 := boxed_underP bS1 hb2
    have bE2 := boxed_underP bE1 hb2
    have x0 := bH2.cell 0 (by simp [cellsH])
    have x1 := bH2.cell 1 (by simp [cellsH])
    have x2 := bH2.cell 2 (by simp [cellsH])
    have x3 := bH2.cell 3 (by simp [cellsH])
    simp only [cellsH, List.getElem_cons_zero, List.getElem_cons_succ] at x0 x1 x2 x3
    clear hb2 bH1 bS1 bE1 hB1
    gi_wp2_with fail
    refine ⟨trivial, (callsIn_wide.2 (hBeg w2 (hw.below hB2))).mono ?_⟩
    rintro e w3 ⟨rfl, hb3⟩
    have hB3 := hB2.trans (hb3.mono hB2.size)
    have bH3 := bH2.kept hb3
    have bS3 := boxed_underP bS2 hb3
    have bE3 := boxed_underP bE2 hb3
    have hbu3 := isBuilder_below hbu hb3
    have hsz2 : w1.heap.size < w2.heap.size := by rw [← hw2]; simp
    have hsz3 : w2.heap.size ≤ w3.heap.size := hb3.size
    clear hBeg hw2 x0 x1 x2 x3 hb3 bH2 bS2 bE2 hB2 hbu
    gi_wp2_with fail
    refine ⟨trivial, (callsIn_wide.2 (writeString_keeps w1.heap.size w1.heap.size [] bg w3 hbu3 (by have := HBs.out; simp; omega) (by omega))).mono ?_⟩
    rintro e w4 ⟨rfl, hbu4, hb4, hk4⟩
    have hB4 := hB3.trans (hb4.mono (by omega))
    have bH4 := hk4.bx bH3 rfl
    have bS4 := hk4.boxed bS3 rfl
    have bE4 := hk4.boxed bE3 rfl
    have hsz4 : w3.heap.size ≤ w4.heap.size := hb4.size
    have x0 := bH4.cell 0 (by simp [cellsH])
    have x1 := bH4.cell 1 (by simp [cellsH])
    have x2 := bH4.cell 2 (by simp [cellsH])
    have x3 := bH4.cell 3 (by simp [cellsH])
    simp only [cellsH, List.getElem_cons_zero, List.getElem_cons_succ] at x0 x1 x2 x3
    rw [List.nil_append] at hbu4
    clear hb4 hk4 hbu3 bH3 bS3 bE3 hB3
    gi_wp2_with fail
    refine ⟨trivial, (hPr w4).mono ?_⟩
    rintro e w' ⟨rfl, rfl⟩
    clear hPr x0 x1 x2 x3
    obtain ⟨w5, hw5⟩ : ∃ w5, w4.alloc (.cells (cellsH h A cap).toArray 27) = w5 := ⟨_, rfl⟩
    have bP : Bx w5 w4.heap.size 27 (cellsH h A cap) := by rw [← hw5]; exact Bx.new w4 _ _
    have hb5 : Below w4.heap.size w4 w5 := by rw [← hw5]; exact (Below.refl _ w4).alloc (Nat.le_refl _) _
    have hB5 := hB4.trans (hb5.mono hB4.size)
    have bS5 := boxed_underP bS4 hb5
    have bE5 := boxed_underP bE4 hb5
    have hbu5 := isBuilder_below hbu4 hb5
    have hsz5 : w5.heap.size = w4.heap.size + 1 := by rw [← hw5]; simp
    rw [hw5]
    clear hw5 hb5 hB4 bS4 bE4 hbu4 bH4
    gi_wp2_with fail
    have hf := hh.2.1
    refine wpIn_range_through (by decide) (gf := 95) (lb := #[.pointer (some ⟨w4.heap.size, 0, none⟩)]) rfl (enters_of Tryz.func95 (by kernel_rfl) rfl)
      (props1_through h A cap w4.heap.size w5 hf.1 hf.2 HOk.out.2.2 bP) (Below.refl _ _) (fun _ => rfl) (fun h k => h.trans k) (fun B W l o o' hl ho hc => Kept.put ho hc hl o')
      (fun pre Y => BI h bg w w1.heap.size w5.heap.size pre Y) (fun pre Y => BX h w pre Y)
      (BI_ab hB5.size) (BX_ab hB5.size)
      ⟨rfl, Nat.zero_le _, by rw [show bg ++ catP (gl h.l []) = bg from ba_append_e bg]; exact hbu5, bS5, bE5, hB5, Nat.le_refl _⟩
      (fun x a' => a' = { tmps := #[.agg #[.int .i64 h.c, .int .u64 h.z, .int .u64 h.f, .slice A h.l.length cap], .pointer (some ⟨w.heap.size, 0, none⟩), .pointer (some ⟨w.heap.size + 1, 0, none⟩), .pointer (some ⟨w.heap.size + 1 + 1, 0, none⟩), .int .i64 0, .pointer (some ⟨w1.heap.size, 0, none⟩), .int .i64 (x.1.1 : Int), .func (.func 97) #[encP h A cap x.2] #[], undef, undef, .agg #[.int .i64 h.c, .int .u64 h.z, .int .u64 h.f, .slice A h.l.length cap], .int .i64 0, .int .i64 0, .bool false, undef, .agg #[.int .i64 h.c, .int .u64 h.z, .int .u64 h.f, .slice A h.l.length cap], .string bg, .tuple #[.int .i64 bg.size, .nilIface], .agg #[.int .i64 h.c, .int .u64 h.z, .int .u64 h.f, .slice A h.l.length cap], .func (.func 95) #[] #[.pointer (some ⟨w4.heap.size, 0, none⟩)], .int .i64 (x.1.1 : Int), .func (.func 97) #[encP h A cap x.2] #[], undef, undef, undef, undef, undef, undef, undef, undef, undef, undef, undef, undef, undef, undef], defers := [] }) ?assign ?body ?done ?stop
    case assign =>
      intro l pre x W K _ hK
      have hKk := hK _ rfl
      clear hK
      unfold encsP
      gi_wp2
      exact hKk
    case body =>
      rintro l pre x a' X hI rfl ⟨hx1, hx2⟩
      have HP := Lib.hid hI
      have HX1 := Lib.hid hx1
      clear hx1
      have hBX := hI.bel
      have hV := pvalue_any h A cap x.2 hx2 X.drew (vals_drew (hA.below hBX))
      have hwv : wfV h.l[x.2] := hh.2.2 _ (List.getElem_mem hx2)
      have hL : ∀ w6, Below X.drew.heap.size X.drew w6 → _ := fun w6 hb6 => play_any x.1 h.l[x.2] w6 (hw.below (hBX.trans ((below_undrew hb6).mono hBX.size))) hwv
      have HG : Hid (gl h.l (pre ++ [x]) = gl h.l pre ++ [(pLet x.1, h.l[x.2])]) := Lib.hid (by rw [gl_snoc, List.getD_eq_getElem?_getD, List.getElem?_eq_getElem hx2]; rfl)
      have hidx := index_let x.1
      have HV : Hid (vRes (pLet x.1) h.l[x.2] = if vE (pLet x.1) h.l[x.2] = 0 then vB (pLet x.1) h.l[x.2] else ⟨#[]⟩) := Lib.hid rfl
      have HVz : Hid (vE (pLet x.1) h.l[x.2] = 0 → (vB (pLet x.1) h.l[x.2]).size ≤ 4294967400) := Lib.hid vB_size
      have HE : Hid (vE (pLet x.1) h.l[x.2] = vE (pLet x.1) h.l[x.2]) := Lib.hid rfl
      generalize hve : vE (pLet x.1) h.l[x.2] = ve at hL HV HVz HE
      have HVE := Lib.hid hve
      clear hve HE
      generalize hvb : vB (pLet x.1) h.l[x.2] = vb at HV HVz
      have HVB := Lib.hid hvb
      clear hvb
      generalize vRes (pLet x.1) h.l[x.2] = vr at hL HV
      generalize hltt : ((pLet x.1).toNat : Int) = lt at hL hidx
      clear hltt
      unfold encV at hV hL
      generalize h.l[x.2].n = vn at hV hL
      generalize h.l[x.2].s = vs at hV hL
      have hmo : Tryz.prog.follows .mixedOrders = true := by kernel_rfl
      unfold encP at hV ⊢
      clear hI
      gi_wp2_with fail
      rename_i Kx hKx
      have hend : ∀ w7, Below X.heap.size X w7 → Kx { tmps := #[.agg #[.int .i64 h.c, .int .u64 h.z, .int .u64 h.f, .slice A h.l.length cap], .pointer (some ⟨w.heap.size, 0, none⟩), .pointer (some ⟨w.heap.size + 1, 0, none⟩), .pointer (some ⟨w.heap.size + 1 + 1, 0, none⟩), .int .i64 0, .pointer (some ⟨w1.heap.size, 0, none⟩), .int .i64 (x.1.1 : Int), .func (.func 97) #[.agg #[.int .i64 h.c, .int .u64 h.z, .int .u64 h.f, .slice A h.l.length cap, .int .i64 (x.2 : Int)]] #[], .string vr, .int .i64 ve, .agg #[.int .i64 h.c, .int .u64 h.z, .int .u64 h.f, .slice A h.l.length cap], .int .i64 0, .int .i64 0, .bool false, undef, .agg #[.int .i64 h.c, .int .u64 h.z, .int .u64 h.f, .slice A h.l.length cap], .string bg, .tuple #[.int .i64 bg.size, .nilIface], .agg #[.int .i64 h.c, .int .u64 h.z, .int .u64 h.f, .slice A h.l.length cap], .func (.func 95) #[] #[.pointer (some ⟨w4.heap.size, 0, none⟩)], .int .i64 (x.1.1 : Int), .func (.func 97) #[.agg #[.int .i64 h.c, .int .u64 h.z, .int .u64 h.f, .slice A h.l.length cap, .int .i64 (x.2 : Int)]] #[], .tuple #[.string vr, .int .i64 ve], .int .i64 (x.1.1 : Int), .int .u8 lt, .func (.func 97) #[.agg #[.int .i64 h.c, .int .u64 h.z, .int .u64 h.f, .slice A h.l.length cap, .int .i64 (x.2 : Int)]] #[], .agg #[.int .u64 vn, .string vs], .tuple #[.string vr, .int .i64 ve], .string vr, .int .i64 ve, undef, undef, undef, undef, undef, undef], defers := [] } w7 := by
        intro w7 hb7
        have hI7 := HP.out.below hb7
        have cS := hI7.str.cell
        have fS := hI7.str.frozen
        refine hKx _ _ ?_
        clear hKx Kx
        by_cases hv0 : ve = 0
        · subst hv0
          have hvr : vr = vb := by rw [HV.out, if_pos rfl]
          subst hvr
          have hvz := HVz.out rfl
          have hW := writeString_keeps w1.heap.size w1.heap.size _ vr w7 hI7.bu (BI_room hI7 HBs.out hx2 HX1.out (by have := wh_le h.f; have := HOk.out.2.2; omega) hvz) (by have := hI7.big; have := hb7.size; omega)
          clear HV HVz hV hL hidx
          gi_wp2_with fail
          refine ⟨trivial, (CallsIn.inRound l (callsIn_wide.2 hW)).mono ?_⟩
          rintro e w8 ⟨rfl, hbu8, hb8, hk8⟩
          have hkk : Keeps itTypes X w8 := (Keeps.below hb7).trans (keeps_it hk8)
          have hss : X.heap.size ≤ w8.heap.size := Nat.le_trans hb7.size hb8.size
          gi_wp2
          refine ⟨⟨hss, fun k o _ h1 h2 => hkk k o h1 (not_cells_q h2)⟩, Kept.of hss hkk, ?_⟩
          have hg := HG.out
          refine ⟨?_, ?_, ?_, hk8.boxed hI7.str rfl, hk8.boxed hI7.err rfl, hI7.bel.trans (hb8.mono (by omega)), Nat.le_trans hI7.big hb8.size⟩
          · rw [hg, erP_snoc, if_pos hI7.ok, HVE.out]
          · rw [List.length_append, List.length_singleton]; have := HX1.out; omega
          · rw [hg, catP_snoc, HVB.out, ← ByteArray.append_assoc]
            rw [strCells_appendP] at hbu8
            exact hbu8
        · have tv : (ve != 0) = true := by simpa using hv0
          have hne : w.heap.size + 1 + 1 ≠ w.heap.size + 1 := by omega
          have cE : ∀ v, (w7.setCell ⟨w.heap.size + 1, 0, none⟩ v).cell? ⟨w.heap.size + 1 + 1, 0, none⟩ = some (.int .i64 0) := fun v => (hI7.err.other hne v).cell
          have fE : ∀ v, (w7.setCell ⟨w.heap.size + 1, 0, none⟩ v).frozen? ⟨w.heap.size + 1 + 1, 0, none⟩ = false := fun v => (hI7.err.other hne v).frozen
          have HX : Hid (BX h w (pre ++ [x]) ((w7.setCell ⟨w.heap.size + 1, 0, none⟩ (.string ⟨#[]⟩)).setCell ⟨w.heap.size + 1 + 1, 0, none⟩ (.int .i64 ve))) := Lib.hid (by
            have e : erP (gl h.l (pre ++ [x])) = ve := by rw [HG.out, erP_snoc, if_pos hI7.ok, HVE.out]
            refine ⟨by rw [e]; exact hv0, (hI7.str.set _).other hne.symm _, by rw [e]; exact (hI7.err.other hne _).set _, (hI7.bel.setCell (p := ⟨w.heap.size + 1, 0, none⟩) (by simp) _).setCell (p := ⟨w.heap.size + 1 + 1, 0, none⟩) (by simp; omega) _⟩)
          have hkk : Keeps itTypes X ((w7.setCell ⟨w.heap.size + 1, 0, none⟩ (.string ⟨#[]⟩)).setCell ⟨w.heap.size + 1 + 1, 0, none⟩ (.int .i64 ve)) :=
            ((Keeps.below hb7).trans (Keeps.setCell hI7.str (by decide) 0 _)).trans (Keeps.setCell (hI7.err.other hne _) (by decide) 0 _)
          have hss : X.heap.size ≤ ((w7.setCell ⟨w.heap.size + 1, 0, none⟩ (.string ⟨#[]⟩)).setCell ⟨w.heap.size + 1 + 1, 0, none⟩ (.int .i64 ve)).heap.size := by simpa using hb7.size
          clear HV HVz hV hL hidx
          gi_wp2
          exact ⟨⟨hss, fun k o _ h1 h2 => hkk k o h1 (not_cells_q h2)⟩, Kept.of hss hkk, HX.out⟩
      clear hKx
      refine wpIn_region_any hmo ?_
      change wpAnyIn _ _ _ _ _ _ 10 #[false, false, false, false, false, false, false, false, false, false] _ (World.drew _)
      refine wpAnyIn_ready (rs := [0, 2]) (by kernel_rfl) (by simp) (AllReadyIn.cons rfl (fun K hK => ?_) (AllReadyIn.cons rfl (fun K hK => ?_) AllReadyIn.nil))
      · go_simp
        refine hK _ _ ?_
        clear hK K
        refine wpAnyIn_ready (rs := [1, 2]) (by kernel_rfl) (by simp) (AllReadyIn.cons rfl (fun K hK => ?_) (AllReadyIn.cons rfl (fun K hK => ?_) AllReadyIn.nil))
        · go_simp
          refine hK _ _ ?_
          clear hK K
          refine wpAnyIn_ready (rs := [2]) (by kernel_rfl) (by simp) (AllReadyIn.cons rfl (fun K hK => ?_) AllReadyIn.nil)
          go_simp
          refine hK _ _ ?_
          clear hK K
          refine wpAnyIn_ready (rs := [3]) (by kernel_rfl) (by simp) (AllReadyIn.cons rfl (fun K hK => ?_) AllReadyIn.nil)
          go_simp
          refine ⟨trivial, (CallsIn.inRound l (callsIn_wide.2 hV)).mono ?_⟩
          rintro e w6 ⟨rfl, hb6⟩
          refine hK _ _ ?_
          clear hK K
          refine wpAnyIn_ready (rs := [4]) (by kernel_rfl) (by simp) (AllReadyIn.cons rfl (fun K hK => ?_) AllReadyIn.nil)
          go_simp
          refine ⟨trivial, (CallsIn.inRound l (callsIn_wide.2 (hL w6 hb6))).mono ?_⟩
          rintro e w7 ⟨rfl, hb7⟩
          refine hK _ _ ?_
          clear hK K
          refine wpAnyIn_ready (rs := [5]) (by kernel_rfl) (by simp) (AllReadyIn.cons rfl (fun K hK => ?_) AllReadyIn.nil)
          go_simp
          refine hK _ _ ?_
          clear hK K
          refine wpAnyIn_ready (rs := [6, 7]) (by kernel_rfl) (by simp) (AllReadyIn.cons rfl (fun K hK => ?_) (AllReadyIn.cons rfl (fun K hK => ?_) AllReadyIn.nil))
          · go_simp
            refine hK _ _ ?_
            clear hK K
            refine wpAnyIn_ready (rs := [7, 8]) (by kernel_rfl) (by simp) (AllReadyIn.cons rfl (fun K hK => ?_) (AllReadyIn.cons rfl (fun K hK => ?_) AllReadyIn.nil))
            · go_simp
              refine hK _ _ ?_
              clear hK K
              refine wpAnyIn_ready (rs := [8]) (by kernel_rfl) (by simp) (AllReadyIn.cons rfl (fun K hK => ?_) AllReadyIn.nil)
              go_simp
              refine hK _ _ ?_
              clear hK K
              refine wpAnyIn_ready (rs := [9]) (by kernel_rfl) (by simp) (AllReadyIn.cons rfl (fun K hK => ?_) AllReadyIn.nil)
              go_simp
              refine hK _ _ ?_
              clear hK K
              refine wpAnyIn_done (by kernel_rfl) ?_ _
              exact hend _ (below_undrew (hb6.trans (hb7.mono hb6.size)))
            · go_simp
              refine hK _ _ ?_
              clear hK K
              refine wpAnyIn_ready (rs := [7]) (by kernel_rfl) (by simp) (AllReadyIn.cons rfl (fun K hK => ?_) AllReadyIn.nil)
              go_simp
              refine hK _ _ ?_
              clear hK K
              refine wpAnyIn_ready (rs := [9]) (by kernel_rfl) (by simp) (AllReadyIn.cons rfl (fun K hK => ?_) AllReadyIn.nil)
              go_simp
              refine hK _ _ ?_
              clear hK K
              refine wpAnyIn_done (by kernel_rfl) ?_ _
              exact hend _ (below_undrew (hb6.trans (hb7.mono hb6.size)))
          · go_simp
            refine hK _ _ ?_
            clear hK K
            refine wpAnyIn_ready (rs := [6]) (by kernel_rfl) (by simp) (AllReadyIn.cons rfl (fun K hK => ?_) AllReadyIn.nil)
            go_simp
            refine hK _ _ ?_
            clear hK K
            refine wpAnyIn_ready (rs := [8]) (by kernel_rfl) (by simp) (AllReadyIn.cons rfl (fun K hK => ?_) AllReadyIn.nil)
            go_simp
            refine hK _ _ ?_
            clear hK K
            refine wpAnyIn_ready (rs := [9]) (by kernel_rfl) (by simp) (AllReadyIn.cons rfl (fun K hK => ?_) AllReadyIn.nil)
            go_simp
            refine hK _ _ ?_
            clear hK K
            refine wpAnyIn_done (by kernel_rfl) ?_ _
            exact hend _ (below_undrew (hb6.trans (hb7.mono hb6.size)))
        · go_simp
          refine hK _ _ ?_
          clear hK K
          refine wpAnyIn_ready (rs := [1, 3]) (by kernel_rfl) (by simp) (AllReadyIn.cons rfl (fun K hK => ?_) (AllReadyIn.cons rfl (fun K hK => ?_) AllReadyIn.nil))
          · go_simp
            refine hK _ _ ?_
            clear hK K
            refine wpAnyIn_ready (rs := [3]) (by kernel_rfl) (by simp) (AllReadyIn.cons rfl (fun K hK => ?_) AllReadyIn.nil)
            go_simp
            refine ⟨trivial, (CallsIn.inRound l (callsIn_wide.2 hV)).mono ?_⟩
            rintro e w6 ⟨rfl, hb6⟩
            refine hK _ _ ?_
            clear hK K
            refine wpAnyIn_ready (rs := [4]) (by kernel_rfl) (by simp) (AllReadyIn.cons rfl (fun K hK => ?_) AllReadyIn.nil)
            go_simp
            refine ⟨trivial, (CallsIn.inRound l (callsIn_wide.2 (hL w6 hb6))).mono ?_⟩
            rintro e w7 ⟨rfl, hb7⟩
            refine hK _ _ ?_
            clear hK K
            refine wpAnyIn_ready (rs := [5]) (by kernel_rfl) (by simp) (AllReadyIn.cons rfl (fun K hK => ?_) AllReadyIn.nil)
            go_simp
            refine hK _ _ ?_
            clear hK K
            refine wpAnyIn_ready (rs := [6, 7]) (by kernel_rfl) (by simp) (AllReadyIn.cons rfl (fun K hK => ?_) (AllReadyIn.cons rfl (fun K hK => ?_) AllReadyIn.nil))
            · go_simp
              refine hK _ _ ?_
              clear hK K
              refine wpAnyIn_ready (rs := [7, 8]) (by kernel_rfl) (by simp) (AllReadyIn.cons rfl (fun K hK => ?_) (AllReadyIn.cons rfl (fun K hK => ?_) AllReadyIn.nil))
              · go_simp
                refine hK _ _ ?_
                clear hK K
                refine wpAnyIn_ready (rs := [8]) (by kernel_rfl) (by simp) (AllReadyIn.cons rfl (fun K hK => ?_) AllReadyIn.nil)
                go_simp
                refine hK _ _ ?_
                clear hK K
                refine wpAnyIn_ready (rs := [9]) (by kernel_rfl) (by simp) (AllReadyIn.cons rfl (fun K hK => ?_) AllReadyIn.nil)
                go_simp
                refine hK _ _ ?_
                clear hK K
                refine wpAnyIn_done (by kernel_rfl) ?_ _
                exact hend _ (below_undrew (hb6.trans (hb7.mono hb6.size)))
              · go_simp
                refine hK _ _ ?_
                clear hK K
                refine wpAnyIn_ready (rs := [7]) (by kernel_rfl) (by simp) (AllReadyIn.cons rfl (fun K hK => ?_) AllReadyIn.nil)
                go_simp
                refine hK _ _ ?_
                clear hK K
                refine wpAnyIn_ready (rs := [9]) (by kernel_rfl) (by simp) (AllReadyIn.cons rfl (fun K hK => ?_) AllReadyIn.nil)
                go_simp
                refine hK _ _ ?_
                clear hK K
                refine wpAnyIn_done (by kernel_rfl) ?_ _
                exact hend _ (below_undrew (hb6.trans (hb7.mono hb6.size)))
            · go_simp
              refine hK _ _ ?_
              clear hK K
              refine wpAnyIn_ready (rs := [6]) (by kernel_rfl) (by simp) (AllReadyIn.cons rfl (fun K hK => ?_) AllReadyIn.nil)
              go_simp
              refine hK _ _ ?_
              clear hK K
              refine wpAnyIn_ready (rs := [8]) (by kernel_rfl) (by simp) (AllReadyIn.cons rfl (fun K hK => ?_) AllReadyIn.nil)
              go_simp
              refine hK _ _ ?_
              clear hK K
              refine wpAnyIn_ready (rs := [9]) (by kernel_rfl) (by simp) (AllReadyIn.cons rfl (fun K hK => ?_) AllReadyIn.nil)
              go_simp
              refine hK _ _ ?_
              clear hK K
              refine wpAnyIn_done (by kernel_rfl) ?_ _
              exact hend _ (below_undrew (hb6.trans (hb7.mono hb6.size)))
          · go_simp
            refine ⟨trivial, (CallsIn.inRound l (callsIn_wide.2 hV)).mono ?_⟩
            rintro e w6 ⟨rfl, hb6⟩
            refine hK _ _ ?_
            clear hK K
            refine wpAnyIn_ready (rs := [1]) (by kernel_rfl) (by simp) (AllReadyIn.cons rfl (fun K hK => ?_) AllReadyIn.nil)
            go_simp
            refine hK _ _ ?_
            clear hK K
            refine wpAnyIn_ready (rs := [4]) (by kernel_rfl) (by simp) (AllReadyIn.cons rfl (fun K hK => ?_) AllReadyIn.nil)
            go_simp
            refine ⟨trivial, (CallsIn.inRound l (callsIn_wide.2 (hL w6 hb6))).mono ?_⟩
            rintro e w7 ⟨rfl, hb7⟩
            refine hK _ _ ?_
            clear hK K
            refine wpAnyIn_ready (rs := [5]) (by kernel_rfl) (by simp) (AllReadyIn.cons rfl (fun K hK => ?_) AllReadyIn.nil)
            go_simp
            refine hK _ _ ?_
            clear hK K
            refine wpAnyIn_ready (rs := [6, 7]) (by kernel_rfl) (by simp) (AllReadyIn.cons rfl (fun K hK => ?_) (AllReadyIn.cons rfl (fun K hK => ?_) AllReadyIn.nil))
            · go_simp
              refine hK _ _ ?_
              clear hK K
              refine wpAnyIn_ready (rs := [7, 8]) (by kernel_rfl) (by simp) (AllReadyIn.cons rfl (fun K hK => ?_) (AllReadyIn.cons rfl (fun K hK => ?_) AllReadyIn.nil))
              · go_simp
                refine hK _ _ ?_
                clear hK K
                refine wpAnyIn_ready (rs := [8]) (by kernel_rfl) (by simp) (AllReadyIn.cons rfl (fun K hK => ?_) AllReadyIn.nil)
                go_simp
                refine hK _ _ ?_
                clear hK K
                refine wpAnyIn_ready (rs := [9]) (by kernel_rfl) (by simp) (AllReadyIn.cons rfl (fun K hK => ?_) AllReadyIn.nil)
                go_simp
                refine hK _ _ ?_
                clear hK K
                refine wpAnyIn_done (by kernel_rfl) ?_ _
                exact hend _ (below_undrew (hb6.trans (hb7.mono hb6.size)))
              · go_simp
                refine hK _ _ ?_
                clear hK K
                refine wpAnyIn_ready (rs := [7]) (by kernel_rfl) (by simp) (AllReadyIn.cons rfl (fun K hK => ?_) AllReadyIn.nil)
                go_simp
                refine hK _ _ ?_
                clear hK K
                refine wpAnyIn_ready (rs := [9]) (by kernel_rfl) (by simp) (AllReadyIn.cons rfl (fun K hK => ?_) AllReadyIn.nil)
                go_simp
                refine hK _ _ ?_
                clear hK K
                refine wpAnyIn_done (by kernel_rfl) ?_ _
                exact hend _ (below_undrew (hb6.trans (hb7.mono hb6.size)))
            · go_simp
              refine hK _ _ ?_
              clear hK K
              refine wpAnyIn_ready (rs := [6]) (by kernel_rfl) (by simp) (AllReadyIn.cons rfl (fun K hK => ?_) AllReadyIn.nil)
              go_simp
              refine hK _ _ ?_
              clear hK K
              refine wpAnyIn_ready (rs := [8]) (by kernel_rfl) (by simp) (AllReadyIn.cons rfl (fun K hK => ?_) AllReadyIn.nil)
              go_simp
              refine hK _ _ ?_
              clear hK K
              refine wpAnyIn_ready (rs := [9]) (by kernel_rfl) (by simp) (AllReadyIn.cons rfl (fun K hK => ?_) AllReadyIn.nil)
              go_simp
              refine hK _ _ ?_
              clear hK K
              refine wpAnyIn_done (by kernel_rfl) ?_ _
              exact hend _ (below_undrew (hb6.trans (hb7.mono hb6.size)))
      · go_simp
        refine hK _ _ ?_
        clear hK K
        refine wpAnyIn_ready (rs := [0, 3]) (by kernel_rfl) (by simp) (AllReadyIn.cons rfl (fun K hK => ?_) (AllReadyIn.cons rfl (fun K hK => ?_) AllReadyIn.nil))
        · go_simp
          refine hK _ _ ?_
          clear hK K
          refine wpAnyIn_ready (rs := [1, 3]) (by kernel_rfl) (by simp) (AllReadyIn.cons rfl (fun K hK => ?_) (AllReadyIn.cons rfl (fun K hK => ?_) AllReadyIn.nil))
          · go_simp
            refine hK _ _ ?_
            clear hK K
            refine wpAnyIn_ready (rs := [3]) (by kernel_rfl) (by simp) (AllReadyIn.cons rfl (fun K hK => ?_) AllReadyIn.nil)
            go_simp
            refine ⟨trivial, (CallsIn.inRound l (callsIn_wide.2 hV)).mono ?_⟩
            rintro e w6 ⟨rfl, hb6⟩
            refine hK _ _ ?_
            clear hK K
            refine wpAnyIn_ready (rs := [4]) (by kernel_rfl) (by simp) (AllReadyIn.cons rfl (fun K hK => ?_) AllReadyIn.nil)
            go_simp
            refine ⟨trivial, (CallsIn.inRound l (callsIn_wide.2 (hL w6 hb6))).mono ?_⟩
            rintro e w7 ⟨rfl, hb7⟩
            refine hK _ _ ?_
            clear hK K
            refine wpAnyIn_ready (rs := [5]) (by kernel_rfl) (by simp) (AllReadyIn.cons rfl (fun K hK => ?_) AllReadyIn.nil)
            go_simp
            refine hK _ _ ?_
            clear hK K
            refine wpAnyIn_ready (rs := [6, 7]) (by kernel_rfl) (by simp) (AllReadyIn.cons rfl (fun K hK => ?_) (AllReadyIn.cons rfl (fun K hK => ?_) AllReadyIn.nil))
            · go_simp
              refine hK _ _ ?_
              clear hK K
              refine wpAnyIn_ready (rs := [7, 8]) (by kernel_rfl) (by simp) (AllReadyIn.cons rfl (fun K hK => ?_) (AllReadyIn.cons rfl (fun K hK => ?_) AllReadyIn.nil))
              · go_simp
                refine hK _ _ ?_
                clear hK K
                refine wpAnyIn_ready (rs := [8]) (by kernel_rfl) (by simp) (AllReadyIn.cons rfl (fun K hK => ?_) AllReadyIn.nil)
                go_simp
                refine hK _ _ ?_
                clear hK K
                refine wpAnyIn_ready (rs := [9]) (by kernel_rfl) (by simp) (AllReadyIn.cons rfl (fun K hK => ?_) AllReadyIn.nil)
                go_simp
                refine hK _ _ ?_
                clear hK K
                refine wpAnyIn_done (by kernel_rfl) ?_ _
                exact hend _ (below_undrew (hb6.trans (hb7.mono hb6.size)))
              · go_simp
                refine hK _ _ ?_
                clear hK K
                refine wpAnyIn_ready (rs := [7]) (by kernel_rfl) (by simp) (AllReadyIn.cons rfl (fun K hK => ?_) AllReadyIn.nil)
                go_simp
                refine hK _ _ ?_
                clear hK K
                refine wpAnyIn_ready (rs := [9]) (by kernel_rfl) (by simp) (AllReadyIn.cons rfl (fun K hK => ?_) AllReadyIn.nil)
                go_simp
                refine hK _ _ ?_
                clear hK K
                refine wpAnyIn_done (by kernel_rfl) ?_ _
                exact hend _ (below_undrew (hb6.trans (hb7.mono hb6.size)))
            · go_simp
              refine hK _ _ ?_
              clear hK K
              refine wpAnyIn_ready (rs := [6]) (by kernel_rfl) (by simp) (AllReadyIn.cons rfl (fun K hK => ?_) AllReadyIn.nil)
              go_simp
              refine hK _ _ ?_
              clear hK K
              refine wpAnyIn_ready (rs := [8]) (by kernel_rfl) (by simp) (AllReadyIn.cons rfl (fun K hK => ?_) AllReadyIn.nil)
              go_simp
              refine hK _ _ ?_
              clear hK K
              refine wpAnyIn_ready (rs := [9]) (by kernel_rfl) (by simp) (AllReadyIn.cons rfl (fun K hK => ?_) AllReadyIn.nil)
              go_simp
              refine hK _ _ ?_
              clear hK K
              refine wpAnyIn_done (by kernel_rfl) ?_ _
              exact hend _ (below_undrew (hb6.trans (hb7.mono hb6.size)))
          · go_simp
            refine ⟨trivial, (CallsIn.inRound l (callsIn_wide.2 hV)).mono ?_⟩
            rintro e w6 ⟨rfl, hb6⟩
            refine hK _ _ ?_
            clear hK K
            refine wpAnyIn_ready (rs := [1]) (by kernel_rfl) (by simp) (AllReadyIn.cons rfl (fun K hK => ?_) AllReadyIn.nil)
            go_simp
            refine hK _ _ ?_
            clear hK K
            refine wpAnyIn_ready (rs := [4]) (by kernel_rfl) (by simp) (AllReadyIn.cons rfl (fun K hK => ?_) AllReadyIn.nil)
            go_simp
            refine ⟨trivial, (CallsIn.inRound l (callsIn_wide.2 (hL w6 hb6))).mono ?_⟩
            rintro e w7 ⟨rfl, hb7⟩
            refine hK _ _ ?_
            clear hK K
            refine wpAnyIn_ready (rs := [5]) (by kernel_rfl) (by simp) (AllReadyIn.cons rfl (fun K hK => ?_) AllReadyIn.nil)
            go_simp
            refine hK _ _ ?_
            clear hK K
            refine wpAnyIn_ready (rs := [6, 7]) (by kernel_rfl) (by simp) (AllReadyIn.cons rfl (fun K hK => ?_) (AllReadyIn.cons rfl (fun K hK => ?_) AllReadyIn.nil))
            · go_simp
              refine hK _ _ ?_
              clear hK K
              refine wpAnyIn_ready (rs := [7, 8]) (by kernel_rfl) (by simp) (AllReadyIn.cons rfl (fun K hK => ?_) (AllReadyIn.cons rfl (fun K hK => ?_) AllReadyIn.nil))
              · go_simp
                refine hK _ _ ?_
                clear hK K
                refine wpAnyIn_ready (rs := [8]) (by kernel_rfl) (by simp) (AllReadyIn.cons rfl (fun K hK => ?_) AllReadyIn.nil)
                go_simp
                refine hK _ _ ?_
                clear hK K
                refine wpAnyIn_ready (rs := [9]) (by kernel_rfl) (by simp) (AllReadyIn.cons rfl (fun K hK => ?_) AllReadyIn.nil)
                go_simp
                refine hK _ _ ?_
                clear hK K
                refine wpAnyIn_done (by kernel_rfl) ?_ _
                exact hend _ (below_undrew (hb6.trans (hb7.mono hb6.size)))
              · go_simp
                refine hK _ _ ?_
                clear hK K
                refine wpAnyIn_ready (rs := [7]) (by kernel_rfl) (by simp) (AllReadyIn.cons rfl (fun K hK => ?_) AllReadyIn.nil)
                go_simp
                refine hK _ _ ?_
                clear hK K
                refine wpAnyIn_ready (rs := [9]) (by kernel_rfl) (by simp) (AllReadyIn.cons rfl (fun K hK => ?_) AllReadyIn.nil)
                go_simp
                refine hK _ _ ?_
                clear hK K
                refine wpAnyIn_done (by kernel_rfl) ?_ _
                exact hend _ (below_undrew (hb6.trans (hb7.mono hb6.size)))
            · go_simp
              refine hK _ _ ?_
              clear hK K
              refine wpAnyIn_ready (rs := [6]) (by kernel_rfl) (by simp) (AllReadyIn.cons rfl (fun K hK => ?_) AllReadyIn.nil)
              go_simp
              refine hK _ _ ?_
              clear hK K
              refine wpAnyIn_ready (rs := [8]) (by kernel_rfl) (by simp) (AllReadyIn.cons rfl (fun K hK => ?_) AllReadyIn.nil)
              go_simp
              refine hK _ _ ?_
              clear hK K
              refine wpAnyIn_ready (rs := [9]) (by kernel_rfl) (by simp) (AllReadyIn.cons rfl (fun K hK => ?_) AllReadyIn.nil)
              go_simp
              refine hK _ _ ?_
              clear hK K
              refine wpAnyIn_done (by kernel_rfl) ?_ _
              exact hend _ (below_undrew (hb6.trans (hb7.mono hb6.size)))
        · go_simp
          refine ⟨trivial, (CallsIn.inRound l (callsIn_wide.2 hV)).mono ?_⟩
          rintro e w6 ⟨rfl, hb6⟩
          refine hK _ _ ?_
          clear hK K
          refine wpAnyIn_ready (rs := [0]) (by kernel_rfl) (by simp) (AllReadyIn.cons rfl (fun K hK => ?_) AllReadyIn.nil)
          go_simp
          refine hK _ _ ?_
          clear hK K
          refine wpAnyIn_ready (rs := [1]) (by kernel_rfl) (by simp) (AllReadyIn.cons rfl (fun K hK => ?_) AllReadyIn.nil)
          go_simp
          refine hK _ _ ?_
          clear hK K
          refine wpAnyIn_ready (rs := [4]) (by kernel_rfl) (by simp) (AllReadyIn.cons rfl (fun K hK => ?_) AllReadyIn.nil)
          go_simp
          refine ⟨trivial, (CallsIn.inRound l (callsIn_wide.2 (hL w6 hb6))).mono ?_⟩
          rintro e w7 ⟨rfl, hb7⟩
          refine hK _ _ ?_
          clear hK K
          refine wpAnyIn_ready (rs := [5]) (by kernel_rfl) (by simp) (AllReadyIn.cons rfl (fun K hK => ?_) AllReadyIn.nil)
          go_simp
          refine hK _ _ ?_
          clear hK K
          refine wpAnyIn_ready (rs := [6, 7]) (by kernel_rfl) (by simp) (AllReadyIn.cons rfl (fun K hK => ?_) (AllReadyIn.cons rfl (fun K hK => ?_) AllReadyIn.nil))
          · go_simp
            refine hK _ _ ?_
            clear hK K
            refine wpAnyIn_ready (rs := [7, 8]) (by kernel_rfl) (by simp) (AllReadyIn.cons rfl (fun K hK => ?_) (AllReadyIn.cons rfl (fun K hK => ?_) AllReadyIn.nil))
            · go_simp
              refine hK _ _ ?_
              clear hK K
              refine wpAnyIn_ready (rs := [8]) (by kernel_rfl) (by simp) (AllReadyIn.cons rfl (fun K hK => ?_) AllReadyIn.nil)
              go_simp
              refine hK _ _ ?_
              clear hK K
              refine wpAnyIn_ready (rs := [9]) (by kernel_rfl) (by simp) (AllReadyIn.cons rfl (fun K hK => ?_) AllReadyIn.nil)
              go_simp
              refine hK _ _ ?_
              clear hK K
              refine wpAnyIn_done (by kernel_rfl) ?_ _
              exact hend _ (below_undrew (hb6.trans (hb7.mono hb6.size)))
            · go_simp
              refine hK _ _ ?_
              clear hK K
              refine wpAnyIn_ready (rs := [7]) (by kernel_rfl) (by simp) (AllReadyIn.cons rfl (fun K hK => ?_) AllReadyIn.nil)
              go_simp
              refine hK _ _ ?_
              clear hK K
              refine wpAnyIn_ready (rs := [9]) (by kernel_rfl) (by simp) (AllReadyIn.cons rfl (fun K hK => ?_) AllReadyIn.nil)
              go_simp
              refine hK _ _ ?_
              clear hK K
              refine wpAnyIn_done (by kernel_rfl) ?_ _
              exact hend _ (below_undrew (hb6.trans (hb7.mono hb6.size)))
          · go_simp
            refine hK _ _ ?_
            clear hK K
            refine wpAnyIn_ready (rs := [6]) (by kernel_rfl) (by simp) (AllReadyIn.cons rfl (fun K hK => ?_) AllReadyIn.nil)
            go_simp
            refine hK _ _ ?_
            clear hK K
            refine wpAnyIn_ready (rs := [8]) (by kernel_rfl) (by simp) (AllReadyIn.cons rfl (fun K hK => ?_) AllReadyIn.nil)
            go_simp
            refine hK _ _ ?_
            clear hK K
            refine wpAnyIn_ready (rs := [9]) (by kernel_rfl) (by simp) (AllReadyIn.cons rfl (fun K hK => ?_) AllReadyIn.nil)
            go_simp
            refine hK _ _ ?_
            clear hK K
            refine wpAnyIn_done (by kernel_rfl) ?_ _
            exact hend _ (below_undrew (hb6.trans (hb7.mono hb6.size)))
    case done =>
      rintro D xs Y hD rfl hI hK
      have hall := gl_all h.f h.l HOk.out.2.2
      have hok := hI.ok
      have hbu := hI.bu
      rw [hall] at hok hbu
      have HF : Hid (hB h = bg ++ catP ((hLs h.f).zip h.l) ∧ hE h = 0) := Lib.hid (by
        have e : hE h = 0 := by rw [hE, if_pos HSh.out, ← erP_zip]; exact hok
        exact ⟨by rw [HB.out, if_pos e], e⟩)
      have hne : (bg ++ catP ((hLs h.f).zip h.l)).data.toList ≠ [] := by
        intro e
        have h1 := congrArg List.length e
        rw [ba_len, ByteArray.size_append, HBs.out] at h1
        simp at h1
      have hStr := bString_keeps w1.heap.size w1.heap.size _ Y hbu hne
      have HR : Hid ((⟨(bg ++ catP ((hLs h.f).zip h.l)).data.toList.toArray⟩ : ByteArray) = hB h) := Lib.hid (by rw [HF.out.1])
      rw [HR.out] at hStr
      have HE0 := Lib.hid HF.out.2
      generalize hrb : hB h = rB at hStr
      have HRb := Lib.hid hrb
      clear hrb
      have hstr := hI.str
      have herr := hI.err
      have hbel := hI.bel
      clear HF HR hbu hok hall hne HB
      gi_wp2_with fail
      refine ⟨trivial, (callsIn_wide.2 hStr).mono ?_⟩
      rintro e w8 ⟨rfl, hb8, hk8, hs8⟩
      have st8 := hk8.boxed hstr rfl
      have er8 := hk8.boxed herr rfl
      have hK8 : w8.heap[D]? = some (.deferred (some [])) := hk8 D _ hK (fun _ _ _ e => by cases e)
      have hne : w.heap.size + 1 + 1 ≠ w.heap.size + 1 := by omega
      have hB8 := hbel.trans (hb8.mono (by omega))
      have cS := st8.cell
      have fS := st8.frozen
      have cE : ∀ v, (w8.setCell ⟨w.heap.size + 1, 0, none⟩ v).cell? ⟨w.heap.size + 1 + 1, 0, none⟩ = some (.int .i64 0) := fun v => (er8.other hne v).cell
      have fE : ∀ v, (w8.setCell ⟨w.heap.size + 1, 0, none⟩ v).frozen? ⟨w.heap.size + 1 + 1, 0, none⟩ = false := fun v => (er8.other hne v).frozen
      have HZ : Hid (BZ w D rB 0 ((w8.setCell ⟨w.heap.size + 1, 0, none⟩ (.string rB)).setCell ⟨w.heap.size + 1 + 1, 0, none⟩ (.int .i64 0))) := Lib.hid
        ⟨(st8.set _).other hne.symm _, (er8.other hne _).set _, (hB8.setCell (p := ⟨w.heap.size + 1, 0, none⟩) (by simp) _).setCell (p := ⟨w.heap.size + 1 + 1, 0, none⟩) (by simp; omega) _, ((Keeps.setCell (p := fun _ => false) st8 rfl 0 _).trans (Keeps.setCell (er8.other hne _) rfl 0 _)) D _ hK8 (fun _ _ _ e => by cases e)⟩
      clear hk8 hb8 st8 er8 hK8 hB8 hstr herr hbel hI hStr hK
      gi_wp2
      refine ⟨by simp, .inl ⟨_, _, rfl, run_takeDeferred HZ.out.late, ?_⟩⟩
      refine ⟨.tuple #[.string rB, .int .i64 0], ?_, by rw [HRb.out, HE0.out], HZ.out.bel.trans (belowK_b (w := w) (Nat.le_refl _) _ D _ _ (by omega) HZ.out.late rfl rfl)⟩
      have r1 := boxed_put (.deferred none) HZ.out.str HZ.out.late rfl
      have r2 := boxed_put (.deferred none) HZ.out.err HZ.out.late rfl
      rw [results_cc rfl]
      simp [asAddr, Result.andThen, go_sem, r1, r2]
    case stop =>
      rintro D pre Y hD hSp hX hK
      have hr := gl_pre (l := h.l) hSp
      rw [gl_all h.f h.l HOk.out.2.2] at hr
      have HF : Hid (hB h = ⟨#[]⟩ ∧ hE h = erP (gl h.l pre)) := Lib.hid (by
        have e : hE h = erP (gl h.l pre) := by rw [hE, if_pos HSh.out, ← erP_zip, erP_pre hr hX.bad]
        exact ⟨by rw [HB.out, e, if_neg hX.bad], e⟩)
      gi_wp2
      refine ⟨by simp, .inl ⟨_, _, rfl, run_takeDeferred hK, ?_⟩⟩
      refine ⟨.tuple #[.string (hB h), .int .i64 (hE h)], ?_, rfl, hX.bel.trans (belowK_b (w := w) (Nat.le_refl _) _ D _ _ (by omega) hK rfl rfl)⟩
      have r1 := boxed_put (.deferred none) hX.str hK rfl
      have r2 := boxed_put (.deferred none) hX.err hK rfl
      rw [results_cc rfl, HF.out.1, HF.out.2]
      simp [asAddr, Result.andThen, go_sem, r1, r2]
  · have ts : (shE h != 0) = true := by simpa using hs
    have HF : Hid (hB h = ⟨#[]⟩ ∧ hE h = shE h) := Lib.hid (by
      have e : hE h = shE h := by rw [hE, if_neg hs]
      exact ⟨by rw [hB, e, if_neg hs], e⟩)
    have cS := bS1.cell
    have fS := bS1.frozen
    have cE : ∀ v, (w1.setCell ⟨w.heap.size + 1, 0, none⟩ v).cell? ⟨w.heap.size + 1 + 1, 0, none⟩ = some (.int .i64 0) := fun v => (bE1.other (by omega) v).cell
    have fE : ∀ v, (w1.setCell ⟨w.heap.size + 1, 0, none⟩ v).frozen? ⟨w.heap.size + 1 + 1, 0, none⟩ = false := fun v => (bE1.other (by omega) v).frozen
    have r1 : ∀ v u, ((w1.setCell ⟨w.heap.size + 1, 0, none⟩ v).setCell ⟨w.heap.size + 1 + 1, 0, none⟩ u).cell? ⟨w.heap.size + 1, 0, none⟩ = some v := fun v u => ((bS1.set v).other (by omega) u).cell
    have r2 : ∀ v u, ((w1.setCell ⟨w.heap.size + 1, 0, none⟩ v).setCell ⟨w.heap.size + 1 + 1, 0, none⟩ u).cell? ⟨w.heap.size + 1 + 1, 0, none⟩ = some u := fun v u => ((bE1.other (by omega) v).set u).cell
    have hBF : ∀ v u, Below w.heap.size w ((w1.setCell ⟨w.heap.size + 1, 0, none⟩ v).setCell ⟨w.heap.size + 1 + 1, 0, none⟩ u) := fun v u => (hB1.setCell (p := ⟨w.heap.size + 1, 0, none⟩) (by simp) v).setCell (p := ⟨w.heap.size + 1 + 1, 0, none⟩) (by simp; omega) u
    clear hBeg hPr hs
    gi_wp2
    refine ⟨.tuple #[.string (hB h), .int .i64 (hE h)], ?_, rfl, hBF _ _⟩
    rw [results_cc rfl, HF.out.1, HF.out.2]
    simp [asAddr, Result.andThen, go_sem, r1, r2]
end Go.Proofs.YtllgkohgcicbhaaGreatDoor

/-
  props.Right and Letters, and the document's example, answer as the plain functions say; nothing that was there is changed. Conditions: as for props.Bytes.
-/
namespace Go.Proofs.YtllgkohgcicbhaaGreatDoor
open Go.RowKit

set_option maxHeartbeats 1000000 in
theorem pright_any (h : He) (A : Option Addr) (cap : Nat) (w : World) (hw : Wid w) (hh : wfH h) (hA : ValsAt w A (rowV h.l)) :
    Calls Tryz.prog 60 #[encH h A cap] w fun e w' => e = .returned (.int .i64 (hE h)) ∧ Below w.heap.size w w' := by
  have hb0 : Below w.heap.size w (w.alloc (.cells #[.int .i64 h.c, .int .u64 h.z, .int .u64 h.f, .slice A h.l.length cap] 27)) := (Below.refl _ w).alloc (Nat.le_refl _) _
  have hBy := pbytes_any h A cap _ (hw.below hb0) hh (hA.below hb0)
  generalize hB h = r at hBy
  generalize hE h = x at hBy ⊢
  obtain ⟨c, z, f, l⟩ := h
  unfold encH at hBy ⊢
  dsimp only at *
  clear hh hA
  go_enter Tryz.func60, Tryz.ntmps60
  go_wp2_with fail
  refine hBy.mono ?_
  rintro e w1 ⟨rfl, hb1⟩
  clear hBy
  go_wp2
  go_ret
  exact ⟨rfl, hb0.trans (hb1.mono hb0.size)⟩
end Go.Proofs.YtllgkohgcicbhaaGreatDoor
