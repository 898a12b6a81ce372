/-
  beat: numbers as they count, what is due to be sent, when the other side is gone. Nothing that was there is changed. No condition.
-/
import Derived.Lib.MinMax
import Derived.Laws.ResultCell
import Derived.WalkSmall
import Derived.Lib.Hide
import Derived.Deep.QuietTactic
import Derived.BigQuiet
import Derived.Deep.RegionHeld3
import Derived.Deep.DeepCutAuto
import Derived.Test.YtlbmkokdoigcnaaJMem
import Derived.Test.YtlbmkokdoigcnaaChecked
namespace Go.Proofs.Ytlbmkokdoigcnaa
open Go.RowKit

/-- the nearest one of 0 to most -/
def heldN (n most : Int) : Int := min (max n 0) most
def lastT : Int := 1099511627776
structure BT where
  e : Int
  i : Int
  o : Int
def encB (b : BT) : Value := .agg #[.int .i64 b.e, .int .i64 b.i, .int .i64 b.o]
def cnt (b : BT) : BT := ⟨heldN b.e 65535, heldN b.i 1099511627776, heldN b.o 1099511627776⟩
theorem held_le (n m : Int) (h : 0 ≤ m) : 0 ≤ heldN n m ∧ heldN n m ≤ m := by unfold heldN; omega

set_option maxHeartbeats 1000000 in
theorem within_any (n m : Int) (w : World) : Calls Try.prog 45 #[.int .i64 n, .int .i64 m] w fun e w' => e = .returned (.int .i64 (heldN n m)) ∧ w' = w := by
  have HH := Lib.hid (show heldN n m = min (max n 0) m from rfl)
  go_enter Try.func45, Try.ntmps45
  go_wp2
  go_ret
  exact ⟨by rw [HH.out]; rfl, rfl⟩
theorem moment_any (n : Int) (w : World) : Calls Try.prog 34 #[.int .i64 n] w fun e w' => e = .returned (.int .i64 (heldN n 1099511627776)) ∧ w' = w := by
  have h := within_any n 1099511627776 w
  generalize heldN n 1099511627776 = z at h ⊢
  go_enter Try.func34, Try.ntmps34
  go_wp2_with fail
  refine h.mono ?_
  rintro e w1 ⟨rfl, rfl⟩
  clear h
  go_wp2
  go_ret
  exact ⟨rfl, rfl⟩

theorem Bx.threeB {W : World} {B : Nat} {t : TypeId} {a b c : Value} (h : Bx W B t [a, b, c]) : W.cell? ⟨B, 0, none⟩ = some a ∧ W.cell? ⟨B, 1, none⟩ = some b ∧ W.cell? ⟨B, 2, none⟩ = some c :=
  ⟨h.cell 0 (by simp), h.cell 1 (by simp), h.cell 2 (by simp)⟩
theorem Bx.other3 {W : World} {B C : Nat} {t : TypeId} {l : List Value} (h : Bx W C t l) (hne : B ≠ C) (a b c : Value) : Bx (((W.setCell ⟨B, 0, none⟩ a).setCell ⟨B, 1, none⟩ b).setCell ⟨B, 2, none⟩ c) C t l :=
  ((h.other hne 0 a).other hne 1 b).other hne 2 c

set_option maxRecDepth 100000 in
set_option maxHeartbeats 1000000 in
theorem counted_any (b : BT) (w : World) : Calls Try.prog 33 #[encB b] w fun e w' => e = .returned (encB (cnt b)) ∧ Below w.heap.size w w' := by
  obtain ⟨be, bi, bo⟩ := b
  have h1 := within_any be 65535
  have h2 := moment_any bi
  have h3 := moment_any bo
  unfold cnt
  unfold encB
  dsimp only at *
  generalize heldN be 65535 = x at *
  generalize heldN bi 1099511627776 = y at *
  generalize heldN bo 1099511627776 = z at *
  obtain ⟨W0, hW0⟩ : ∃ W0, W0 = (w.alloc (.cells #[.int .i64 be, .int .i64 bi, .int .i64 bo] 41)).alloc (.cells #[.int .i64 0, .int .i64 0, .int .i64 0] 41) := ⟨_, rfl⟩
  have hb0 : Below w.heap.size w W0 := by rw [hW0]; exact ((Below.refl _ w).alloc (Nat.le_refl _) _).alloc (by simp) _
  have hx0 : Bx W0 w.heap.size 41 [.int .i64 be, .int .i64 bi, .int .i64 bo] := by rw [hW0]; exact (Bx.new w _ _).alloc _
  have hx1 : Bx W0 (w.heap.size + 1) 41 [.int .i64 0, .int .i64 0, .int .i64 0] := by
    have h := Bx.new (w.alloc (.cells #[.int .i64 be, .int .i64 bi, .int .i64 bo] 41)) 41 [.int .i64 0, .int .i64 0, .int .i64 0]
    rw [World.size_alloc] at h
    rw [hW0]
    exact h
  have x0 := hx0.cell 0 (by simp)
  have x1 := hx0.cell 1 (by simp)
  have x2 := hx0.cell 2 (by simp)
  dsimp only [List.getElem_cons_zero, List.getElem_cons_succ] at x0 x1 x2
  obtain ⟨p0, q0, p1, q1, p2, q2, hX0⟩ := hx1.store3 (.int .i64 x) (.int .i64 y) (.int .i64 z)
  have hk3 := (hx0.other3 (B := w.heap.size + 1) (by omega) (.int .i64 x) (.int .i64 y) (.int .i64 z)).threeB
  have hk4 : (fun w' : World => w'.cell? ⟨w.heap.size, 0, none⟩ = some (.int .i64 be) ∧ w'.cell? ⟨w.heap.size, 1, none⟩ = some (.int .i64 bi) ∧ w'.cell? ⟨w.heap.size, 2, none⟩ = some (.int .i64 bo)) (((W0.setCell ⟨w.heap.size + 1, 0, none⟩ (.int .i64 x)).setCell ⟨w.heap.size + 1, 1, none⟩ (.int .i64 y)).setCell ⟨w.heap.size + 1, 2, none⟩ (.int .i64 z)).drew := hk3
  dsimp only at hk4
  have hx0d : Bx W0.drew w.heap.size 41 [.int .i64 be, .int .i64 bi, .int .i64 bo] := hx0
  have hx1d : Bx W0.drew (w.heap.size + 1) 41 [.int .i64 0, .int .i64 0, .int .i64 0] := hx1
  obtain ⟨a0, f0, a1, f1, a2, f2, hX⟩ := hx1d.store3 (.int .i64 x) (.int .i64 y) (.int .i64 z)
  have hB := below_store3 hb0 (B := w.heap.size + 1) (by omega) (.int .i64 x) (.int .i64 y) (.int .i64 z)
  have y0 := hX0.cell 0 (by simp)
  have y1 := hX0.cell 1 (by simp)
  have y2 := hX0.cell 2 (by simp)
  dsimp only [List.getElem_cons_zero, List.getElem_cons_succ] at y0 y1 y2
  have hx0s := hx0d.other3 (B := w.heap.size + 1) (by omega) (.int .i64 x) (.int .i64 y) (.int .i64 z)
  have hk1 := hx0d.threeB
  have hk2 := hx0s.threeB
  have HB := Lib.hid hB
  clear hx0 hx1 hx0d hx1d hx0s hX hB hb0 hX0 a0 f0 a1 f1 a2 f2 hk3
  go_enter Try.func33, Try.ntmps33
  go_wp2
  rw [← hW0]
  clear hW0
  go_region_held3 (fun w' => w'.cell? ⟨w.heap.size, 0, none⟩ = some (.int .i64 be) ∧ w'.cell? ⟨w.heap.size, 1, none⟩ = some (.int .i64 bi) ∧ w'.cell? ⟨w.heap.size, 2, none⟩ = some (.int .i64 bo)) (first | (with_reducible exact hk4) | (with_reducible exact hk2) | (with_reducible exact hk1)) (first | (go_at_call 45; with_reducible refine (h1 _).mono ?_; rintro e w' ⟨rfl, rfl⟩) | (go_at_call 34; with_reducible refine (h2 _).mono ?_; rintro e w' ⟨rfl, rfl⟩) | (go_at_call 34; with_reducible refine (h3 _).mono ?_; rintro e w' ⟨rfl, rfl⟩))
  clear p0 q0 p1 q1 p2 q2 hk4 x0 x1 x2 hk1 hk2
  go_wp2
  refine bodyPost_ret (v := .agg #[.int .i64 x, .int .i64 y, .int .i64 z]) ?_ rfl ⟨rfl, HB.out.drew⟩
  simp [results, Try.results33, asAddr, Result.andThen, go_sem, y0, y1, y2]
end Go.Proofs.Ytlbmkokdoigcnaa
