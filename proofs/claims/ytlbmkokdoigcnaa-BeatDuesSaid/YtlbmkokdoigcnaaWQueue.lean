/-
  The heap's methods: how many, which is ahead, two change their places. Nothing else is changed. No condition.
-/
import Derived.Deep.QuietTactic
import Derived.BigQuiet
import Derived.WalkSmall
import Derived.Lib.Hide
import Derived.Deep.RegionHeld3
import Derived.Deep.DeepCutAuto
import Derived.Test.YtlbmkokdoigcnaaMBeat
import Derived.Test.YtlbmkokdoigcnaaChecked
namespace Go.Proofs.Ytlbmkokdoigcnaa
open Go.RowKit

theorem qlen_any (A : Option Addr) (n c : Nat) (w : World) : Calls Try.prog 40 #[.slice A n c] w fun e w' => e = .returned (.int .i64 n) ∧ w' = w := by
  go_enter Try.func40, Try.ntmps40
  go_wp2
  go_ret
  exact ⟨rfl, rfl⟩

set_option maxRecDepth 100000 in
set_option maxHeartbeats 1000000 in
theorem qless_at (g o n cap i j : Nat) (x y : DP) (w : World) (hi : (i : Int) < (n : Int)) (hj : (j : Int) < (n : Int))
    (c1 : w.cell? ⟨g, o + i * 2, none⟩ = some (.int .i64 x.a)) (c2 : w.cell? ⟨g, o + i * 2 + 1, none⟩ = some (.int .i64 x.i))
    (d1 : w.cell? ⟨g, o + j * 2, none⟩ = some (.int .i64 y.a)) (d2 : w.cell? ⟨g, o + j * 2 + 1, none⟩ = some (.int .i64 y.i)) :
    Calls Try.prog 30 #[.slice (some ⟨g, o, none⟩) n cap, .int .i64 i, .int .i64 j] w fun e w' => e = .returned (.bool (ltD x y)) ∧ Below w.heap.size w w' := by
  have i0 : (0 : Int) ≤ (i : Int) := by omega
  have j0 : (0 : Int) ≤ (j : Int) := by omega
  obtain ⟨xa, xi⟩ := x
  obtain ⟨ya, yi⟩ := y
  dsimp only at *
  go_enter Try.func30, Try.ntmps30
  have hg : g < w.heap.size := by
    rcases Nat.lt_or_ge g w.heap.size with h | h
    · exact h
    · simp [World.cell?, Array.getElem?_eq_none h] at c1
  have keep : ∀ w', Below w.heap.size w w' → w'.cell? ⟨g, o + i * 2, none⟩ = some (.int .i64 xa) ∧ w'.cell? ⟨g, o + i * 2 + 1, none⟩ = some (.int .i64 xi) ∧ w'.cell? ⟨g, o + j * 2, none⟩ = some (.int .i64 ya) ∧ w'.cell? ⟨g, o + j * 2 + 1, none⟩ = some (.int .i64 yi) := fun w' h =>
    ⟨(h.cell (p := ⟨g, o + i * 2, none⟩) hg).trans c1, (h.cell (p := ⟨g, o + i * 2 + 1, none⟩) hg).trans c2, (h.cell (p := ⟨g, o + j * 2, none⟩) hg).trans d1, (h.cell (p := ⟨g, o + j * 2 + 1, none⟩) hg).trans d2⟩
  have k1 : ∀ q, (w.alloc q).cell? ⟨g, o + i * 2, none⟩ = some (.int .i64 xa) := fun q => (keep _ ((Below.refl _ w).alloc (Nat.le_refl _) q)).1
  have k2 : ∀ q, (w.alloc q).cell? ⟨g, o + i * 2 + 1, none⟩ = some (.int .i64 xi) := fun q => (keep _ ((Below.refl _ w).alloc (Nat.le_refl _) q)).2.1
  have k3 : ∀ q, (w.alloc q).cell? ⟨g, o + j * 2, none⟩ = some (.int .i64 ya) := fun q => (keep _ ((Below.refl _ w).alloc (Nat.le_refl _) q)).2.2.1
  have k4 : ∀ q, (w.alloc q).cell? ⟨g, o + j * 2 + 1, none⟩ = some (.int .i64 yi) := fun q => (keep _ ((Below.refl _ w).alloc (Nat.le_refl _) q)).2.2.2
  have m1 : ∀ q p, ((w.alloc q).alloc p).cell? ⟨g, o + i * 2, none⟩ = some (.int .i64 xa) := fun q p => (keep _ (((Below.refl _ w).alloc (Nat.le_refl _) q).alloc (by simp) p)).1
  have m2 : ∀ q p, ((w.alloc q).alloc p).cell? ⟨g, o + i * 2 + 1, none⟩ = some (.int .i64 xi) := fun q p => (keep _ (((Below.refl _ w).alloc (Nat.le_refl _) q).alloc (by simp) p)).2.1
  have m3 : ∀ q p, ((w.alloc q).alloc p).cell? ⟨g, o + j * 2, none⟩ = some (.int .i64 ya) := fun q p => (keep _ (((Below.refl _ w).alloc (Nat.le_refl _) q).alloc (by simp) p)).2.2.1
  have m4 : ∀ q p, ((w.alloc q).alloc p).cell? ⟨g, o + j * 2 + 1, none⟩ = some (.int .i64 yi) := fun q p => (keep _ (((Below.refl _ w).alloc (Nat.le_refl _) q).alloc (by simp) p)).2.2.2
  clear keep hg
  go_wp2
  have hQ : ∀ (o p : Obj), Below w.heap.size w ((w.alloc o).alloc p) := fun o p => ((Below.refl _ w).alloc (Nat.le_refl _) o).alloc (by simp) p
  have HQ := Lib.hid hQ
  clear hQ
  go_region
  all_goals (
    clear k1 k2 k3 k4 m1 m2 m3 m4 c1 c2 d1 d2 hi hj i0 j0
    rcases Bool.eq_false_or_eq_true (decide (xa < ya)) with t1 | t1
    · have HR : Hid (ltD ⟨xa, xi⟩ ⟨ya, yi⟩ = true) := Lib.hid (by simp [ltD] at t1 ⊢; simp [t1])
      go_wp2
      go_ret
      exact ⟨by rw [HR.out] <;> rfl, (HQ.out _ _).drew⟩
    · rcases Bool.eq_false_or_eq_true (xa == ya) with t2 | t2
      · have HR : Hid (ltD ⟨xa, xi⟩ ⟨ya, yi⟩ = decide (xi < yi)) := Lib.hid (by simp [ltD, t1, t2])
        go_wp2
        go_ret
        exact ⟨by rw [HR.out] <;> rfl, (HQ.out _ _).drew⟩
      · have HR : Hid (ltD ⟨xa, xi⟩ ⟨ya, yi⟩ = false) := Lib.hid (by simp [ltD, t1, t2])
        go_wp2
        go_ret
        exact ⟨by rw [HR.out] <;> rfl, (HQ.out _ _).drew⟩)

theorem qless_any (g n cap i j : Nat) (x y : DP) (w : World) (hi : (i : Int) < (n : Int)) (hj : (j : Int) < (n : Int))
    (c1 : w.cell? ⟨g, i * 2, none⟩ = some (.int .i64 x.a)) (c2 : w.cell? ⟨g, i * 2 + 1, none⟩ = some (.int .i64 x.i))
    (d1 : w.cell? ⟨g, j * 2, none⟩ = some (.int .i64 y.a)) (d2 : w.cell? ⟨g, j * 2 + 1, none⟩ = some (.int .i64 y.i)) :
    Calls Try.prog 30 #[.slice (some ⟨g, 0, none⟩) n cap, .int .i64 i, .int .i64 j] w fun e w' => e = .returned (.bool (ltD x y)) ∧ Below w.heap.size w w' := by
  refine qless_at g 0 n cap i j x y w hi hj ?_ ?_ ?_ ?_ <;> rw [Nat.zero_add] <;> assumption

/-- what was there is as it was, but for one block -/
structure Fr1 (g : Nat) (w w' : World) : Prop where
  os : w'.os = w.os
  tape : w'.tape = w.tape
  output : w'.output = w.output
  size : w.heap.size ≤ w'.heap.size
  block : ∀ k, k < w.heap.size → k ≠ g → w'.heap[k]? = w.heap[k]?
theorem Fr1.refl (g : Nat) (w : World) : Fr1 g w w := ⟨rfl, rfl, rfl, Nat.le_refl _, fun _ _ _ => rfl⟩
theorem Fr1.trans {g : Nat} {a b c : World} (h : Fr1 g a b) (k : Fr1 g b c) : Fr1 g a c :=
  ⟨k.os.trans h.os, k.tape.trans h.tape, k.output.trans h.output, Nat.le_trans h.size k.size, fun i hi hg => (k.block i (Nat.lt_of_lt_of_le hi h.size) hg).trans (h.block i hi hg)⟩
theorem Fr1.of {g : Nat} {w w' : World} (h : Below w.heap.size w w') : Fr1 g w w' := ⟨h.os, h.tape, h.output, h.size, fun k hk _ => h.block k hk⟩
theorem Fr1.drew {g : Nat} {w w' : World} (h : Fr1 g w w') : Fr1 g w w'.drew := ⟨h.os, h.tape, h.output, h.size, h.block⟩
theorem Fr1.set {w w' : World} {g : Nat} (h : Fr1 g w w') (o : Nat) (v : Value) : Fr1 g w (w'.setCell ⟨g, o, none⟩ v) :=
  ⟨h.os, h.tape, h.output, by simpa [World.setCell] using h.size, fun k hk hg => (Below.heap_setCell w' ⟨g, o, none⟩ v k hg).trans (h.block k hk hg)⟩
theorem Fr1.bx {w w' : World} {g b : Nat} (h : Fr1 g w w') {t : TypeId} {l : List Value} (hb : Bx w b t l) (hne : b ≠ g) : Bx w' b t l := (h.block b hb.lt hne).trans hb
theorem Fr1.below {w w' : World} {g n : Nat} (h : Fr1 g w w') (hn : n ≤ w.heap.size) (hg : n ≤ g) : Below n w w' := ⟨h.os, h.tape, h.output, h.size, fun k hk => h.block k (by omega) (by omega)⟩

set_option maxRecDepth 100000 in
set_option maxHeartbeats 1000000 in
theorem qswap_any (g cap i j : Nat) (l : List DP) (w : World) (hR : RowD w g cap l) (hi : i < l.length) (hj : j < l.length) :
    Calls Try.prog 66 #[.slice (some ⟨g, 0, none⟩) l.length cap, .int .i64 i, .int .i64 j] w fun e w' => e = .returned (.tuple #[]) ∧ RowD w' g cap (swp l i j) ∧ Fr1 g w w' := by
  obtain ⟨c1, c2, fr⟩ := hR.at i hi
  obtain ⟨d1, d2, -⟩ := hR.at j hj
  have HR := Lib.hid (((hR.set i hi (atD l j)).set j (by simpa using hj) (atD l i)).kept (w' := (((((w.setCell ⟨g, i * 2, none⟩ (.int .i64 (atD l j).a)).setCell ⟨g, i * 2 + 1, none⟩ (.int .i64 (atD l j).i)).setCell ⟨g, j * 2, none⟩ (.int .i64 (atD l i).a)).setCell ⟨g, j * 2 + 1, none⟩ (.int .i64 (atD l i).i)).drew)) rfl)
  obtain ⟨cur, hb, h1, -, h3, -⟩ := hR
  have HS : Hid (swp l i j = (l.set i (atD l j)).set j (atD l i)) := Lib.hid rfl
  generalize atD l i = x at *
  generalize atD l j = y at *
  generalize hn : l.length = n at *
  obtain ⟨xa, xi⟩ := x
  obtain ⟨ya, yi⟩ := y
  dsimp only at *
  have b1 := hb.set (i * 2) (.int .i64 ya)
  have b2 := b1.set (i * 2 + 1) (.int .i64 yi)
  have b3 := b2.set (j * 2) (.int .i64 xa)
  have e1 := b1.cell (i * 2 + 1) (by simp; omega)
  have e2 := b2.cell (j * 2) (by simp; omega)
  have e3 := b3.cell (j * 2 + 1) (by simp; omega)
  have f1 := b1.frozen (i * 2 + 1)
  have f2 := b2.frozen (j * 2)
  have f3 := b3.frozen (j * 2 + 1)
  have f0 := fr (i * 2)
  generalize (cur.set (i * 2) (.int .i64 ya))[i * 2 + 1]'_ = v1 at e1
  generalize ((cur.set (i * 2) (.int .i64 ya)).set (i * 2 + 1) (.int .i64 yi))[j * 2]'_ = v2 at e2
  generalize (((cur.set (i * 2) (.int .i64 ya)).set (i * 2 + 1) (.int .i64 yi)).set (j * 2) (.int .i64 xa))[j * 2 + 1]'_ = v3 at e3
  have i0 : (0 : Int) ≤ (i : Int) := by omega
  have j0 : (0 : Int) ≤ (j : Int) := by omega
  have i1 : (i : Int) < (n : Int) := by omega
  have j1 : (j : Int) < (n : Int) := by omega
  clear fr hb b1 b2 b3 h1 h3 hn hi hj
  go_enter Try.func66, Try.ntmps66
  go_wp2
  go_region
  go_end0
  exact ⟨rfl, by rw [HS.out]; exact HR.out, ((((Fr1.refl g w).set _ _).set _ _).set _ _).set _ _ |>.drew⟩

end Go.Proofs.Ytlbmkokdoigcnaa
