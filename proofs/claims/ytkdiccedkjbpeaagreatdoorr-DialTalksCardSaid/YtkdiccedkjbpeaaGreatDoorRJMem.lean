/-
  Several texts joined in one file: each says at its own head, below, what it proves, and its conditions.
-/
import Derived.Test.YtkdiccedkjbpeaaGreatDoorRRows
import Derived.Laws.AppendOwn
import Derived.Below
import Derived.Laws.ResultCell
import Derived.RangeFuncNested
import Derived.RangeFuncBound
import Derived.RangeFuncCalls
import Derived.RangeFuncLeaves
import Derived.Deep.Onto
import Derived.Laws.AppendOwnNone
import Derived.Maps.AppendAt
import Derived.Deep.MidRow
/-
  A struct of three or four cells in a block of its own: what is read there, what a store leaves there, and that it stays. No condition.
-/
namespace Go.Proofs.YtkdiccedkjbpeaaGreatDoorR
open Go.RowKit

/-- the block B holds just these cells -/
def Bx (W : World) (B : Nat) (t : TypeId) (l : List Value) : Prop := W.heap[B]? = some (.cells l.toArray t (0, 0))
theorem Bx.lt {W : World} {B : Nat} {t : TypeId} {l : List Value} (h : Bx W B t l) : B < W.heap.size := (Array.getElem?_eq_some_iff.1 h).1
theorem Bx.cell {W : World} {B : Nat} {t : TypeId} {l : List Value} (h : Bx W B t l) (i : Nat) (hi : i < l.length) : W.cell? ⟨B, i, none⟩ = some l[i] := by
  simp [World.cell?, show W.heap[B]? = _ from h, hi]
theorem Bx.frozen {W : World} {B : Nat} {t : TypeId} {l : List Value} (h : Bx W B t l) (i : Nat) : W.frozen? ⟨B, i, none⟩ = false := by
  simp [World.frozen?, show W.heap[B]? = _ from h]
theorem Bx.new (W : World) (t : TypeId) (l : List Value) : Bx (W.alloc (.cells l.toArray t)) W.heap.size t l := heap_alloc_new W _
theorem Bx.below {W W' : World} {n B : Nat} {t : TypeId} {l : List Value} (h : Bx W B t l) (hb : Below n W W') (hn : B < n) : Bx W' B t l := (hb.block B hn).trans h
theorem Bx.kept {W W' : World} {B : Nat} {t : TypeId} {l : List Value} (h : Bx W B t l) (hb : Below W.heap.size W W') : Bx W' B t l := h.below hb h.lt
theorem Bx.alloc {W : World} {B : Nat} {t : TypeId} {l : List Value} (h : Bx W B t l) (o : Obj) : Bx (W.alloc o) B t l := h.kept ((Below.refl _ _).alloc (Nat.le_refl _) _)
theorem Bx.set {W : World} {B : Nat} {t : TypeId} {l : List Value} (h : Bx W B t l) (i : Nat) (v : Value) : Bx (W.setCell ⟨B, i, none⟩ v) B t (l.set i v) := by
  obtain ⟨hlt, hk⟩ := Array.getElem?_eq_some_iff.1 h
  show (W.heap.modify B _)[B]? = _
  rw [Array.getElem?_eq_getElem (by rw [Array.size_modify]; exact hlt), Array.getElem_modify_self, hk]
  simp
theorem Bx.other {W : World} {B B' : Nat} {t : TypeId} {l : List Value} (h : Bx W B t l) (hne : B' ≠ B) (i : Nat) (v : Value) : Bx (W.setCell ⟨B', i, none⟩ v) B t l := by
  show (W.heap.modify B' _)[B]? = _
  rw [Array.getElem?_modify, if_neg hne]
  exact h
/-- what a store of a whole struct asks for, cell by cell -/
theorem Bx.store3 {W : World} {B : Nat} {t : TypeId} {a b c : Value} (h : Bx W B t [a, b, c]) (a' b' c' : Value) :
    W.cell? ⟨B, 0, none⟩ = some a ∧ W.frozen? ⟨B, 0, none⟩ = false ∧
    (W.setCell ⟨B, 0, none⟩ a').cell? ⟨B, 1, none⟩ = some b ∧ (W.setCell ⟨B, 0, none⟩ a').frozen? ⟨B, 1, none⟩ = false ∧
    ((W.setCell ⟨B, 0, none⟩ a').setCell ⟨B, 1, none⟩ b').cell? ⟨B, 2, none⟩ = some c ∧ ((W.setCell ⟨B, 0, none⟩ a').setCell ⟨B, 1, none⟩ b').frozen? ⟨B, 2, none⟩ = false ∧
    Bx (((W.setCell ⟨B, 0, none⟩ a').setCell ⟨B, 1, none⟩ b').setCell ⟨B, 2, none⟩ c') B t [a', b', c'] :=
  ⟨h.cell 0 (by simp), h.frozen 0, (h.set 0 a').cell 1 (by simp), (h.set 0 a').frozen 1, ((h.set 0 a').set 1 b').cell 2 (by simp), ((h.set 0 a').set 1 b').frozen 2, ((h.set 0 a').set 1 b').set 2 c'⟩
theorem below_store3 {n B : Nat} {w W : World} (h : Below n w W) (hn : n ≤ B) (a b c : Value) : Below n w (((W.setCell ⟨B, 0, none⟩ a).setCell ⟨B, 1, none⟩ b).setCell ⟨B, 2, none⟩ c) :=
  ((h.setCell (p := ⟨B, 0, none⟩) hn a).setCell (p := ⟨B, 1, none⟩) hn b).setCell (p := ⟨B, 2, none⟩) hn c
theorem Bx.store5 {W : World} {B : Nat} {t : TypeId} {a b c d e : Value} (h : Bx W B t [a, b, c, d, e]) (a' b' c' d' e' : Value) :
    W.cell? ⟨B, 0, none⟩ = some a ∧ W.frozen? ⟨B, 0, none⟩ = false ∧
    (W.setCell ⟨B, 0, none⟩ a').cell? ⟨B, 1, none⟩ = some b ∧ (W.setCell ⟨B, 0, none⟩ a').frozen? ⟨B, 1, none⟩ = false ∧
    ((W.setCell ⟨B, 0, none⟩ a').setCell ⟨B, 1, none⟩ b').cell? ⟨B, 2, none⟩ = some c ∧ ((W.setCell ⟨B, 0, none⟩ a').setCell ⟨B, 1, none⟩ b').frozen? ⟨B, 2, none⟩ = false ∧
    (((W.setCell ⟨B, 0, none⟩ a').setCell ⟨B, 1, none⟩ b').setCell ⟨B, 2, none⟩ c').cell? ⟨B, 3, none⟩ = some d ∧ (((W.setCell ⟨B, 0, none⟩ a').setCell ⟨B, 1, none⟩ b').setCell ⟨B, 2, none⟩ c').frozen? ⟨B, 3, none⟩ = false ∧
    ((((W.setCell ⟨B, 0, none⟩ a').setCell ⟨B, 1, none⟩ b').setCell ⟨B, 2, none⟩ c').setCell ⟨B, 3, none⟩ d').cell? ⟨B, 4, none⟩ = some e ∧ ((((W.setCell ⟨B, 0, none⟩ a').setCell ⟨B, 1, none⟩ b').setCell ⟨B, 2, none⟩ c').setCell ⟨B, 3, none⟩ d').frozen? ⟨B, 4, none⟩ = false ∧
    Bx (((((W.setCell ⟨B, 0, none⟩ a').setCell ⟨B, 1, none⟩ b').setCell ⟨B, 2, none⟩ c').setCell ⟨B, 3, none⟩ d').setCell ⟨B, 4, none⟩ e') B t [a', b', c', d', e'] :=
  ⟨h.cell 0 (by simp), h.frozen 0, (h.set 0 a').cell 1 (by simp), (h.set 0 a').frozen 1, ((h.set 0 a').set 1 b').cell 2 (by simp), ((h.set 0 a').set 1 b').frozen 2, (((h.set 0 a').set 1 b').set 2 c').cell 3 (by simp), (((h.set 0 a').set 1 b').set 2 c').frozen 3, ((((h.set 0 a').set 1 b').set 2 c').set 3 d').cell 4 (by simp), ((((h.set 0 a').set 1 b').set 2 c').set 3 d').frozen 4, ((((h.set 0 a').set 1 b').set 2 c').set 3 d').set 4 e'⟩
theorem below_store5 {n B : Nat} {w W : World} (h : Below n w W) (hn : n ≤ B) (a' b' c' d' e' : Value) : Below n w (((((W.setCell ⟨B, 0, none⟩ a').setCell ⟨B, 1, none⟩ b').setCell ⟨B, 2, none⟩ c').setCell ⟨B, 3, none⟩ d').setCell ⟨B, 4, none⟩ e') :=
  ((((h.setCell (p := ⟨B, 0, none⟩) hn a').setCell (p := ⟨B, 1, none⟩) hn b').setCell (p := ⟨B, 2, none⟩) hn c').setCell (p := ⟨B, 3, none⟩) hn d').setCell (p := ⟨B, 4, none⟩) hn e'
end Go.Proofs.YtkdiccedkjbpeaaGreatDoorR

/-
  A struct of two cells in a block of its own: what a store of the whole leaves there. No condition.
-/
namespace Go.Proofs.YtkdiccedkjbpeaaGreatDoorR
open Go.RowKit

theorem Bx.store2 {W : World} {B : Nat} {t : TypeId} {a b : Value} (h : Bx W B t [a, b]) (a' b' : Value) :
    W.cell? ⟨B, 0, none⟩ = some a ∧ W.frozen? ⟨B, 0, none⟩ = false ∧
    (W.setCell ⟨B, 0, none⟩ a').cell? ⟨B, 1, none⟩ = some b ∧ (W.setCell ⟨B, 0, none⟩ a').frozen? ⟨B, 1, none⟩ = false ∧
    Bx ((W.setCell ⟨B, 0, none⟩ a').setCell ⟨B, 1, none⟩ b') B t [a', b'] :=
  ⟨h.cell 0 (by simp), h.frozen 0, (h.set 0 a').cell 1 (by simp), (h.set 0 a').frozen 1, (h.set 0 a').set 1 b'⟩
theorem below_store2 {n B : Nat} {w W : World} (h : Below n w W) (hn : n ≤ B) (a b : Value) : Below n w ((W.setCell ⟨B, 0, none⟩ a).setCell ⟨B, 1, none⟩ b) :=
  (h.setCell (p := ⟨B, 0, none⟩) hn a).setCell (p := ⟨B, 1, none⟩) hn b
end Go.Proofs.YtkdiccedkjbpeaaGreatDoorR

/-
  Boxes of one cell: what they hold stays, whatever is made and whatever else is written; a function's results where some of them lie in cells. No condition.
-/
namespace Go.Proofs.YtkdiccedkjbpeaaGreatDoorR
open Go.RowKit

theorem boxed_below {w W : World} {n B : Nat} {t : TypeId} {v : Value} (h : Boxed w B t v) (hb : Below n w W) (hn : B < n) : Boxed W B t v := (hb.block B hn).trans h
theorem boxed_putObj {W : World} {l B : Nat} {t : TypeId} {o : Obj} (o' : Obj) (h : W.heap[l]? = some o) (hc : o.isCells = false) {v : Value} (hv : Boxed W B t v) : Boxed (W.putObj l o') B t v :=
  hv.kept (grownBy_putObj' W l o') (fun e => by
    obtain rfl : B = l := by simpa using e
    rw [show W.heap[B]? = _ from hv] at h
    cases h
    cases hc)
theorem grown_of_below {a b : World} (h : Below a.heap.size a b) (row : Option Nat) : a.grownBy b row := ⟨h.os, h.tape, h.output, h.size, fun k hk _ => h.block k hk⟩
theorem boxed_grown {A A' : World} {row : Option Nat} {n B : Nat} {t : TypeId} {v : Value} (h : Boxed A B t v) (hg : A.grownBy A' row) (hr : ∀ r, row = some r → n ≤ r ∧ ∃ o : Obj, A.heap[r]? = some o ∧ o.isCells = false) : Boxed A' B t v :=
  h.kept hg (fun e => by obtain ⟨-, o, ho, hc⟩ := hr B e.symm; rw [show A.heap[B]? = _ from h] at ho; cases ho; cases hc)
theorem below_grown {A A' w : World} {row : Option Nat} {n N : Nat} (h : Below n w A) (hn : n ≤ w.heap.size) (hN : n ≤ N) (hg : A.grownBy A' row) (hr : ∀ r, row = some r → N ≤ r ∧ ∃ o : Obj, A.heap[r]? = some o ∧ o.isCells = false) : Below n w A' :=
  h.grown hg (Nat.le_trans hn h.size) (fun k e => Nat.le_trans hN (hr k e).1)
theorem boxed_put {W : World} {D B : Nat} {t : TypeId} {v : Value} {o : Obj} (o' : Obj) (h : Boxed W B t v) (hK : W.heap[D]? = some o) (hc : o.isCells = false) : (W.putObj D o').cell? ⟨B, 0, none⟩ = some v := (boxed_putObj o' hK hc h).cell
theorem results_ctt {fn : Func} {p t u : Tmp} {ty : TypeId} (h : fn.results = #[.cell p ty, .tmp t, .tmp u]) (tmps : Array Value) (P : Program) (w : World) :
    (results fn tmps).run P w =
      ((asAddr (tmps.getD p undef)).run P w).andThen fun a w₁ => ((loadVar ty a).run P w₁).andThen fun v w₂ => .ok (.tuple #[v, tmps.getD t undef, tmps.getD u undef]) w₂ := by
  simp only [results, h]
  simp [Sem.run_bind, Result.andThen]
theorem results_ccc {fn : Func} {p q r : Tmp} {tp tq tr : TypeId} (h : fn.results = #[.cell p tp, .cell q tq, .cell r tr]) (tmps : Array Value) (P : Program) (w : World) :
    (results fn tmps).run P w =
      ((asAddr (tmps.getD p undef)).run P w).andThen fun a w₁ => ((loadVar tp a).run P w₁).andThen fun u w₂ => ((asAddr (tmps.getD q undef)).run P w₂).andThen fun b w₃ => ((loadVar tq b).run P w₃).andThen fun v w₄ => ((asAddr (tmps.getD r undef)).run P w₄).andThen fun c w₅ => ((loadVar tr c).run P w₅).andThen fun x w₆ => .ok (.tuple #[u, v, x]) w₆ := by
  simp only [results, h]
  simp [Sem.run_bind, Result.andThen]
theorem results_cttt {fn : Func} {p t u x : Tmp} {ty : TypeId} (h : fn.results = #[.cell p ty, .tmp t, .tmp u, .tmp x]) (tmps : Array Value) (P : Program) (w : World) :
    (results fn tmps).run P w =
      ((asAddr (tmps.getD p undef)).run P w).andThen fun a w₁ => ((loadVar ty a).run P w₁).andThen fun v w₂ => .ok (.tuple #[v, tmps.getD t undef, tmps.getD u undef, tmps.getD x undef]) w₂ := by
  simp only [results, h]
  simp [Sem.run_bind, Result.andThen]
end Go.Proofs.YtkdiccedkjbpeaaGreatDoorR

/-
  Rows of texts in memory: what a slice reads as, and that it stays so. No condition.
-/
namespace Go.Proofs.YtkdiccedkjbpeaaGreatDoorR
open Go.RowKit

/-- the slice '.slice A (l.length) _' reads as the values l, and lies in old memory -/
def ValsAt (w : World) (A : Option Addr) (l : List Value) : Prop :=
  0 < l.length → ∃ b off, A = some ⟨b, off, none⟩ ∧ b < w.heap.size ∧ ∀ i (h : i < l.length), w.cell? ⟨b, off + i, none⟩ = some (l[i]'h)

theorem ValsAt.below {w w' : World} {A : Option Addr} {l : List Value} (h : ValsAt w A l) (hb : Below w.heap.size w w') : ValsAt w' A l := fun h0 => by
  obtain ⟨b, off, hA, hlt, hc⟩ := h h0
  exact ⟨b, off, hA, Nat.lt_of_lt_of_le hlt hb.size, fun i hi => (hb.cell (p := ⟨b, off + i, none⟩) hlt).trans (hc i hi)⟩
theorem vals_of_row {w : World} {base : Nat} {e : TypeId} {v : Value} {l : List Value} {n : Nat} (h : w.ownsRow base e 1 v n l) : ∃ A c, v = .slice A n c ∧ ValsAt w A l := by
  obtain ⟨hlen, ⟨rfl, h0⟩ | ⟨g, cap, cur, rfl, hg, hb, hn, hc, hs, ht⟩⟩ := h
  · exact ⟨none, 0, by rw [h0], fun h => by omega⟩
  · refine ⟨_, cap, rfl, fun _ => ⟨g, 0, rfl, (Array.getElem?_eq_some_iff.1 hb).1, fun i hi => ?_⟩⟩
    have e1 : w.cell? ⟨g, 0 + i, none⟩ = cur[i]? := by simp [World.cell?, hb]
    rw [e1]
    have h2 : (List.take (n * 1) cur.toList)[i]? = some l[i] := by rw [ht]; exact List.getElem?_eq_getElem hi
    rw [List.getElem?_take] at h2
    split at h2
    · rw [← h2, Array.getElem?_toList]
    · cases h2
end Go.Proofs.YtkdiccedkjbpeaaGreatDoorR

/-
  A row of one's own that grows: nothing that was there is changed, and it stays while other things are made. No condition.
-/
namespace Go.Proofs.YtkdiccedkjbpeaaGreatDoorR
open Go.RowKit

theorem rowBelow {w wr w1 : World} {base : Nat} {e : TypeId} {size : Nat} {v : Value} {n : Nat} {xs : List Value} {tmp : Obj} (hn : base ≤ w.heap.size) (hrow : wr.ownsRow base e size v n xs) (hb : Below base w wr) (hg : (wr.alloc tmp).grownBy w1 v.ownBlock) : Below base w w1 :=
  (hb.alloc (Nat.le_trans hn hb.size) tmp).grown hg (by have := hb.size; simp; omega) (fun j ej => by
    rcases hrow.2 with ⟨rfl, _⟩ | ⟨g, cap, cur, rfl, hbg, _, _⟩
    · simp [Value.ownBlock] at ej
    · obtain rfl : g = j := by simpa [Value.ownBlock] using ej
      exact hbg)
theorem rowKept {W W' : World} {b : Nat} {e : TypeId} {size : Nat} {v : Value} {k : Nat} {xs : List Value} (h : W.ownsRow b e size v k xs) (hb : Below W.heap.size W W') : W'.ownsRow b e size v k xs :=
  h.kept (grown_of_below hb none) (by cases hv : v.ownBlock <;> simp)
/-- what a row of structs reads as, cell by cell -/
theorem vals_row {w : World} {base : Nat} {e : TypeId} {size : Nat} {v : Value} {l : List Value} {n : Nat} (h : w.ownsRow base e size v n l) : ∃ A c, v = .slice A n c ∧ ValsAt w A l ∧ l.length = n * size := by
  obtain ⟨hlen, ⟨rfl, h0⟩ | ⟨g, cap, cur, rfl, hg, hb, hn, hc, hs, ht⟩⟩ := h
  · exact ⟨none, 0, by rw [h0], fun h => by rw [hlen, h0] at h; omega, hlen⟩
  · refine ⟨_, cap, rfl, fun _ => ⟨g, 0, rfl, (Array.getElem?_eq_some_iff.1 hb).1, fun i hi => ?_⟩, hlen⟩
    have e1 : w.cell? ⟨g, 0 + i, none⟩ = cur[i]? := by simp [World.cell?, hb]
    rw [e1]
    have h2 : (List.take (n * size) cur.toList)[i]? = some l[i] := by rw [ht]; exact List.getElem?_eq_getElem hi
    rw [List.getElem?_take] at h2
    split at h2
    · rw [← h2, Array.getElem?_toList]
    · cases h2
/-- numbers as a row's values -/
def intVals (l : List Int) : List Value := l.map (Value.int .i64)
theorem intVals_snoc (l : List Int) (k : Int) : intVals (l ++ [k]) = intVals l ++ [.int .i64 k] := by simp [intVals]
end Go.Proofs.YtkdiccedkjbpeaaGreatDoorR

/-
  What stays by its type: blocks of other types than those that a call writes. No condition.
-/
namespace Go.Proofs.YtkdiccedkjbpeaaGreatDoorR
open Go.RowKit

/-- every block that is no row of cells, or one of a type of which p holds, is as it was -/
def Keeps (p : TypeId → Bool) (w w' : World) : Prop := ∀ (g : Nat) (o : Obj), w.heap[g]? = some o → (∀ cs t fz, o = .cells cs t fz → p t = true) → w'.heap[g]? = some o
theorem Keeps.refl (p : TypeId → Bool) (w : World) : Keeps p w w := fun _ _ h _ => h
theorem Keeps.trans {p : TypeId → Bool} {a b c : World} (h : Keeps p a b) (h' : Keeps p b c) : Keeps p a c := fun g o hg ho => h' g o (h g o hg ho) ho
theorem Keeps.below {p : TypeId → Bool} {w w' : World} (h : Below w.heap.size w w') : Keeps p w w' := fun g _ hg _ => (h.block g (Array.getElem?_eq_some_iff.1 hg).1).trans hg
theorem Keeps.setCell {p : TypeId → Bool} {w : World} {b : Nat} {cs : Array Value} {t : TypeId} {fz : Nat × Nat} (hb : w.heap[b]? = some (.cells cs t fz)) (hp : p t = false) (i : Nat) (v : Value) : Keeps p w (w.setCell ⟨b, i, none⟩ v) := fun g o hg ho => by
  have hne : g ≠ b := fun e => by
    subst e
    rw [hb] at hg
    have := ho cs t fz (Option.some.inj hg).symm
    rw [hp] at this
    cases this
  exact (Below.heap_setCell w ⟨b, i, none⟩ v g hne).trans hg
theorem Keeps.grown {p : TypeId → Bool} {w w' : World} {base : Nat} {e : TypeId} {size : Nat} {v : Value} {n : Nat} {xs : List Value} (hrow : w.ownsRow base e size v n xs) (hg : w.grownBy w' v.ownBlock) (hp : p e = false) : Keeps p w w' := fun g o hgo ho => by
  refine (hg.block g (Array.getElem?_eq_some_iff.1 hgo).1 (fun ej => ?_)).trans hgo
  rcases hrow.2 with ⟨rfl, _⟩ | ⟨g', cap, cur, rfl, -, hb, -, -⟩
  · simp [Value.ownBlock] at ej
  · obtain rfl : g' = g := by simpa [Value.ownBlock] using ej.symm
    rw [hb] at hgo
    have := ho cur e (0, 0) (Option.some.inj hgo).symm
    rw [hp] at this
    cases this
theorem Keeps.bx {p : TypeId → Bool} {w w' : World} (h : Keeps p w w') {B : Nat} {t : TypeId} {l : List Value} (hB : Bx w B t l) (hp : p t = true) : Bx w' B t l := h B _ hB (fun _ _ _ e => by cases e; exact hp)
theorem Keeps.boxed {p : TypeId → Bool} {w w' : World} (h : Keeps p w w') {B : Nat} {t : TypeId} {v : Value} (hB : Boxed w B t v) (hp : p t = true) : Boxed w' B t v := h B _ hB (fun _ _ _ e => by cases e; exact hp)
theorem Keeps.row {p : TypeId → Bool} {w w' : World} (h : Keeps p w w') {base : Nat} {e : TypeId} {size : Nat} {v : Value} {n : Nat} {xs : List Value} (hrow : w.ownsRow base e size v n xs) (hp : p e = true) : w'.ownsRow base e size v n xs := by
  refine ⟨hrow.1, ?_⟩
  rcases hrow.2 with h0 | ⟨g, cap, cur, hv, hg, hb, hr⟩
  · exact .inl h0
  · exact .inr ⟨g, cap, cur, hv, hg, h g _ hb (fun _ _ _ e => by cases e; exact hp), hr⟩
end Go.Proofs.YtkdiccedkjbpeaaGreatDoorR

/-
  append of a row of structs that came in, nil or not, to a row of one's own. No condition.
-/
namespace Go.Proofs.YtkdiccedkjbpeaaGreatDoorR
open Go.RowKit

theorem wpList_append_row {P : Program} {w : World} {ops : Array Oper} {rest : List Oper} {o : Oper} {a : Act} {Q : Exit → Act → World → Prop} (hgd : o.guard = none) (s x : Operand) (t : TypeId)
    (ho : o.op = .call { callee := .builtin .append, args := #[s, x], argTypes := #[t, t] })
    (base : Nat) (e : TypeId) (i : TypeInfo) (z : Value) (size bytes : Nat) (ht : P.underlying t = some (.slice e)) (hi : P.info? e = some i) (hz : i.zero = some z)
    (hsize : i.size = size) (hby : i.bytes = bytes) (hzs : z.cells.size = size) (hsz : 0 < size)
    (v : Value) (n : Nat) (xs : List Value) (hs : a.eval s = v) (hown : w.ownsRow base e size v n xs)
    (A : Option Addr) (m c : Nat) (news : List Value) (hx : a.eval x = .slice A m c) (hl : news.length = m * size) (hA : ValsAt w A news) (hnone : A = none → m = 0 ∧ c = 0) (h1 : ∀ u ∈ news, u.oneCell' = true)
    (h63 : n + m ≤ maxLen) (hbytes : (n + m) * bytes ≤ 140737488355328) (hbase : base ≤ w.heap.size)
    (h : ∀ v' w', w'.ownsRow base e size v' (n + m) (xs ++ news) → w.grownBy w' v.ownBlock → wpList P ops Q rest (a.put o.dst v') w') :
    wpList P ops Q (o :: rest) a w := by
  cases A with
  | none =>
    obtain ⟨rfl, rfl⟩ := hnone rfl
    have hn : news = [] := List.eq_nil_of_length_eq_zero (by omega)
    subst hn
    refine wpList_append_own_none hgd s x t ho base e i size ht hi v n xs hs hown hx ?_
    exact h v w (by simpa using hown) ⟨rfl, rfl, rfl, Nat.le_refl _, fun _ _ _ => rfl⟩
  | some ad =>
    refine wpList_append_own_at w hgd s x t ho base e i z size bytes ht hi hz hsize hby hzs hsz v n xs hs hown ad m c news hx hl ?_ h1 h63 hbytes hbase (fun v' w' q1 q2 _ _ => h v' w' q1 q2)
    intro j u hj
    obtain ⟨hlt, he⟩ := List.getElem?_eq_some_iff.1 hj
    obtain ⟨b, off, hab, -, hc⟩ := hA (by omega)
    cases hab
    have := hc j hlt
    rw [he] at this
    rw [Addr.add_mid]
    exact this
end Go.Proofs.YtkdiccedkjbpeaaGreatDoorR
