/-
  A row of one's own that grows: nothing that was there is changed, and it stays while other things are made. No condition.
-/
import Derived.Deep.Onto
import Derived.Test.YtmpfkommeakgbaaDoorMBoxed
import Derived.Test.YtmpfkommeakgbaaDoorMStr
namespace Go.Proofs.YtmpfkommeakgbaaDoor
open Go.RowKit

theorem rowBelow {w wr w1 : World} {base : Nat} {e : TypeId} {size : Nat} {v : Value} {n : Nat} {xs : List Value} {tmp : Obj} (hn : base ≤ w.heap.size) (hrow : wr.ownsRow base e size v n xs) (hb : Below base w wr) (hg : (wr.alloc tmp).grownBy w1 v.ownBlock) : Below base w w1 :=
  (hb.alloc (Nat.le_trans hn hb.size) tmp).grown hg (by have := hb.size; simp; omega) (fun j ej => by
    rcases hrow.2 with ⟨rfl, _⟩ | ⟨g, cap, cur, rfl, hbg, _, _⟩
    · simp [Value.ownBlock] at ej
    · obtain rfl : g = j := by simpa [Value.ownBlock] using ej
      exact hbg)
theorem rowKept {W W' : World} {b : Nat} {e : TypeId} {size : Nat} {v : Value} {k : Nat} {xs : List Value} (h : W.ownsRow b e size v k xs) (hb : Below W.heap.size W W') : W'.ownsRow b e size v k xs :=
  h.kept (grown_of_below hb none) (by cases hv : v.ownBlock <;> simp)
/-- what a row of structs reads as, cell by cell -/
theorem vals_row {w : World} {base : Nat} {e : TypeId} {size : Nat} {v : Value} {l : List Value} {n : Nat} (h : w.ownsRow base e size v n l) : ∃ A c, v = .slice A n c ∧ ValsAt w A l ∧ l.length = n * size := by
  obtain ⟨hlen, ⟨rfl, h0⟩ | ⟨g, cap, cur, rfl, hg, hb, hn, hc, hs, ht⟩⟩ := h
  · exact ⟨none, 0, by rw [h0], fun h => by rw [hlen, h0] at h; omega, hlen⟩
  · refine ⟨_, cap, rfl, fun _ => ⟨g, 0, rfl, (Array.getElem?_eq_some_iff.1 hb).1, fun i hi => ?_⟩, hlen⟩
    have e1 : w.cell? ⟨g, 0 + i, none⟩ = cur[i]? := by simp [World.cell?, hb]
    rw [e1]
    have h2 : (List.take (n * size) cur.toList)[i]? = some l[i] := by rw [ht]; exact List.getElem?_eq_getElem hi
    rw [List.getElem?_take] at h2
    split at h2
    · rw [← h2, Array.getElem?_toList]
    · cases h2
/-- numbers as a row's values -/
def intVals (l : List Int) : List Value := l.map (Value.int .i64)
theorem intVals_snoc (l : List Int) (k : Int) : intVals (l ++ [k]) = intVals l ++ [.int .i64 k] := by simp [intVals]
end Go.Proofs.YtmpfkommeakgbaaDoor
