/-
  What stays by its type: blocks of other types than those that a call writes. No condition.
-/
import Derived.Test.YtmpfkommeakgbaaDoorMBox
import Derived.Test.YtmpfkommeakgbaaDoorMRow
namespace Go.Proofs.YtmpfkommeakgbaaDoor
open Go.RowKit

/-- every block that is no row of cells, or one of a type of which p holds, is as it was -/
def Keeps (p : TypeId → Bool) (w w' : World) : Prop := ∀ (g : Nat) (o : Obj), w.heap[g]? = some o → (∀ cs t fz, o = .cells cs t fz → p t = true) → w'.heap[g]? = some o
theorem Keeps.refl (p : TypeId → Bool) (w : World) : Keeps p w w := fun _ _ h _ => h
theorem Keeps.trans {p : TypeId → Bool} {a b c : World} (h : Keeps p a b) (h' : Keeps p b c) : Keeps p a c := fun g o hg ho => h' g o (h g o hg ho) ho
theorem Keeps.below {p : TypeId → Bool} {w w' : World} (h : Below w.heap.size w w') : Keeps p w w' := fun g _ hg _ => (h.block g (Array.getElem?_eq_some_iff.1 hg).1).trans hg
theorem Keeps.setCell {p : TypeId → Bool} {w : World} {b : Nat} {cs : Array Value} {t : TypeId} {fz : Nat × Nat} (hb : w.heap[b]? = some (.cells cs t fz)) (hp : p t = false) (i : Nat) (v : Value) : Keeps p w (w.setCell ⟨b, i, none⟩ v) := fun g o hg ho => by
  have hne : g ≠ b := fun e => by
    subst e
    rw [hb] at hg
    have := ho cs t fz (Option.some.inj hg).symm
    rw [hp] at this
    cases this
  exact (Below.heap_setCell w ⟨b, i, none⟩ v g hne).trans hg
theorem Keeps.grown {p : TypeId → Bool} {w w' : World} {base : Nat} {e : TypeId} {size : Nat} {v : Value} {n : Nat} {xs : List Value} (hrow : w.ownsRow base e size v n xs) (hg : w.grownBy w' v.ownBlock) (hp : p e = false) : Keeps p w w' := fun g o hgo ho => by
  refine (hg.block g (Array.getElem?_eq_some_iff.1 hgo).1 (fun ej => ?_)).trans hgo
  rcases hrow.2 with ⟨rfl, _⟩ | ⟨g', cap, cur, rfl, -, hb, -, -⟩
  · simp [Value.ownBlock] at ej
  · obtain rfl : g' = g := by simpa [Value.ownBlock] using ej.symm
    rw [hb] at hgo
    have := ho cur e (0, 0) (Option.some.inj hgo).symm
    rw [hp] at this
    cases this
theorem Keeps.bx {p : TypeId → Bool} {w w' : World} (h : Keeps p w w') {B : Nat} {t : TypeId} {l : List Value} (hB : Bx w B t l) (hp : p t = true) : Bx w' B t l := h B _ hB (fun _ _ _ e => by cases e; exact hp)
theorem Keeps.boxed {p : TypeId → Bool} {w w' : World} (h : Keeps p w w') {B : Nat} {t : TypeId} {v : Value} (hB : Boxed w B t v) (hp : p t = true) : Boxed w' B t v := h B _ hB (fun _ _ _ e => by cases e; exact hp)
theorem Keeps.row {p : TypeId → Bool} {w w' : World} (h : Keeps p w w') {base : Nat} {e : TypeId} {size : Nat} {v : Value} {n : Nat} {xs : List Value} (hrow : w.ownsRow base e size v n xs) (hp : p e = true) : w'.ownsRow base e size v n xs := by
  refine ⟨hrow.1, ?_⟩
  rcases hrow.2 with h0 | ⟨g, cap, cur, hv, hg, hb, hr⟩
  · exact .inl h0
  · exact .inr ⟨g, cap, cur, hv, hg, h g _ hb (fun _ _ _ e => by cases e; exact hp), hr⟩
end Go.Proofs.YtmpfkommeakgbaaDoor
