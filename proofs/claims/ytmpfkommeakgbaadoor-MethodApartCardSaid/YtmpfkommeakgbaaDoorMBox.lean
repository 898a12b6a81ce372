/-
  A struct of three or four cells in a block of its own: what is read there, what a store leaves there, and that it stays. No condition.
-/
import Derived.Test.YtmpfkommeakgbaaDoorRows
import Derived.Laws.AppendOwn
import Derived.Below
namespace Go.Proofs.YtmpfkommeakgbaaDoor
open Go.RowKit

/-- the block B holds just these cells -/
def Bx (W : World) (B : Nat) (t : TypeId) (l : List Value) : Prop := W.heap[B]? = some (.cells l.toArray t (0, 0))
theorem Bx.lt {W : World} {B : Nat} {t : TypeId} {l : List Value} (h : Bx W B t l) : B < W.heap.size := (Array.getElem?_eq_some_iff.1 h).1
theorem Bx.cell {W : World} {B : Nat} {t : TypeId} {l : List Value} (h : Bx W B t l) (i : Nat) (hi : i < l.length) : W.cell? ⟨B, i, none⟩ = some l[i] := by
  simp [World.cell?, show W.heap[B]? = _ from h, hi]
theorem Bx.frozen {W : World} {B : Nat} {t : TypeId} {l : List Value} (h : Bx W B t l) (i : Nat) : W.frozen? ⟨B, i, none⟩ = false := by
  simp [World.frozen?, show W.heap[B]? = _ from h]
theorem Bx.new (W : World) (t : TypeId) (l : List Value) : Bx (W.alloc (.cells l.toArray t)) W.heap.size t l := heap_alloc_new W _
theorem Bx.below {W W' : World} {n B : Nat} {t : TypeId} {l : List Value} (h : Bx W B t l) (hb : Below n W W') (hn : B < n) : Bx W' B t l := (hb.block B hn).trans h
theorem Bx.kept {W W' : World} {B : Nat} {t : TypeId} {l : List Value} (h : Bx W B t l) (hb : Below W.heap.size W W') : Bx W' B t l := h.below hb h.lt
theorem Bx.alloc {W : World} {B : Nat} {t : TypeId} {l : List Value} (h : Bx W B t l) (o : Obj) : Bx (W.alloc o) B t l := h.kept ((Below.refl _ _).alloc (Nat.le_refl _) _)
theorem Bx.set {W : World} {B : Nat} {t : TypeId} {l : List Value} (h : Bx W B t l) (i : Nat) (v : Value) : Bx (W.setCell ⟨B, i, none⟩ v) B t (l.set i v) := by
  obtain ⟨hlt, hk⟩ := Array.getElem?_eq_some_iff.1 h
  show (W.heap.modify B _)[B]? = _
  rw [Array.getElem?_eq_getElem (by rw [Array.size_modify]; exact hlt), Array.getElem_modify_self, hk]
  simp
theorem Bx.other {W : World} {B B' : Nat} {t : TypeId} {l : List Value} (h : Bx W B t l) (hne : B' ≠ B) (i : Nat) (v : Value) : Bx (W.setCell ⟨B', i, none⟩ v) B t l := by
  show (W.heap.modify B' _)[B]? = _
  rw [Array.getElem?_modify, if_neg hne]
  exact h
/-- what a store of a whole struct asks for, cell by cell -/
theorem Bx.store3 {W : World} {B : Nat} {t : TypeId} {a b c : Value} (h : Bx W B t [a, b, c]) (a' b' c' : Value) :
    W.cell? ⟨B, 0, none⟩ = some a ∧ W.frozen? ⟨B, 0, none⟩ = false ∧
    (W.setCell ⟨B, 0, none⟩ a').cell? ⟨B, 1, none⟩ = some b ∧ (W.setCell ⟨B, 0, none⟩ a').frozen? ⟨B, 1, none⟩ = false ∧
    ((W.setCell ⟨B, 0, none⟩ a').setCell ⟨B, 1, none⟩ b').cell? ⟨B, 2, none⟩ = some c ∧ ((W.setCell ⟨B, 0, none⟩ a').setCell ⟨B, 1, none⟩ b').frozen? ⟨B, 2, none⟩ = false ∧
    Bx (((W.setCell ⟨B, 0, none⟩ a').setCell ⟨B, 1, none⟩ b').setCell ⟨B, 2, none⟩ c') B t [a', b', c'] :=
  ⟨h.cell 0 (by simp), h.frozen 0, (h.set 0 a').cell 1 (by simp), (h.set 0 a').frozen 1, ((h.set 0 a').set 1 b').cell 2 (by simp), ((h.set 0 a').set 1 b').frozen 2, ((h.set 0 a').set 1 b').set 2 c'⟩
theorem below_store3 {n B : Nat} {w W : World} (h : Below n w W) (hn : n ≤ B) (a b c : Value) : Below n w (((W.setCell ⟨B, 0, none⟩ a).setCell ⟨B, 1, none⟩ b).setCell ⟨B, 2, none⟩ c) :=
  ((h.setCell (p := ⟨B, 0, none⟩) hn a).setCell (p := ⟨B, 1, none⟩) hn b).setCell (p := ⟨B, 2, none⟩) hn c
theorem Bx.store5 {W : World} {B : Nat} {t : TypeId} {a b c d e : Value} (h : Bx W B t [a, b, c, d, e]) (a' b' c' d' e' : Value) :
    W.cell? ⟨B, 0, none⟩ = some a ∧ W.frozen? ⟨B, 0, none⟩ = false ∧
    (W.setCell ⟨B, 0, none⟩ a').cell? ⟨B, 1, none⟩ = some b ∧ (W.setCell ⟨B, 0, none⟩ a').frozen? ⟨B, 1, none⟩ = false ∧
    ((W.setCell ⟨B, 0, none⟩ a').setCell ⟨B, 1, none⟩ b').cell? ⟨B, 2, none⟩ = some c ∧ ((W.setCell ⟨B, 0, none⟩ a').setCell ⟨B, 1, none⟩ b').frozen? ⟨B, 2, none⟩ = false ∧
    (((W.setCell ⟨B, 0, none⟩ a').setCell ⟨B, 1, none⟩ b').setCell ⟨B, 2, none⟩ c').cell? ⟨B, 3, none⟩ = some d ∧ (((W.setCell ⟨B, 0, none⟩ a').setCell ⟨B, 1, none⟩ b').setCell ⟨B, 2, none⟩ c').frozen? ⟨B, 3, none⟩ = false ∧
    ((((W.setCell ⟨B, 0, none⟩ a').setCell ⟨B, 1, none⟩ b').setCell ⟨B, 2, none⟩ c').setCell ⟨B, 3, none⟩ d').cell? ⟨B, 4, none⟩ = some e ∧ ((((W.setCell ⟨B, 0, none⟩ a').setCell ⟨B, 1, none⟩ b').setCell ⟨B, 2, none⟩ c').setCell ⟨B, 3, none⟩ d').frozen? ⟨B, 4, none⟩ = false ∧
    Bx (((((W.setCell ⟨B, 0, none⟩ a').setCell ⟨B, 1, none⟩ b').setCell ⟨B, 2, none⟩ c').setCell ⟨B, 3, none⟩ d').setCell ⟨B, 4, none⟩ e') B t [a', b', c', d', e'] :=
  ⟨h.cell 0 (by simp), h.frozen 0, (h.set 0 a').cell 1 (by simp), (h.set 0 a').frozen 1, ((h.set 0 a').set 1 b').cell 2 (by simp), ((h.set 0 a').set 1 b').frozen 2, (((h.set 0 a').set 1 b').set 2 c').cell 3 (by simp), (((h.set 0 a').set 1 b').set 2 c').frozen 3, ((((h.set 0 a').set 1 b').set 2 c').set 3 d').cell 4 (by simp), ((((h.set 0 a').set 1 b').set 2 c').set 3 d').frozen 4, ((((h.set 0 a').set 1 b').set 2 c').set 3 d').set 4 e'⟩
theorem below_store5 {n B : Nat} {w W : World} (h : Below n w W) (hn : n ≤ B) (a' b' c' d' e' : Value) : Below n w (((((W.setCell ⟨B, 0, none⟩ a').setCell ⟨B, 1, none⟩ b').setCell ⟨B, 2, none⟩ c').setCell ⟨B, 3, none⟩ d').setCell ⟨B, 4, none⟩ e') :=
  ((((h.setCell (p := ⟨B, 0, none⟩) hn a').setCell (p := ⟨B, 1, none⟩) hn b').setCell (p := ⟨B, 2, none⟩) hn c').setCell (p := ⟨B, 3, none⟩) hn d').setCell (p := ⟨B, 4, none⟩) hn e'
end Go.Proofs.YtmpfkommeakgbaaDoor
