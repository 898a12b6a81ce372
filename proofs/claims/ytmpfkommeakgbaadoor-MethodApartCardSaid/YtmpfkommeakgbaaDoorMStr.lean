/-
  Rows of texts in memory: what a slice reads as, and that it stays so. No condition.
-/
import Derived.Test.YtmpfkommeakgbaaDoorRows
import Derived.Laws.AppendOwn
import Derived.Below
namespace Go.Proofs.YtmpfkommeakgbaaDoor
open Go.RowKit

/-- the slice '.slice A (l.length) _' reads as the values l, and lies in old memory -/
def ValsAt (w : World) (A : Option Addr) (l : List Value) : Prop :=
  0 < l.length → ∃ b off, A = some ⟨b, off, none⟩ ∧ b < w.heap.size ∧ ∀ i (h : i < l.length), w.cell? ⟨b, off + i, none⟩ = some (l[i]'h)

theorem ValsAt.below {w w' : World} {A : Option Addr} {l : List Value} (h : ValsAt w A l) (hb : Below w.heap.size w w') : ValsAt w' A l := fun h0 => by
  obtain ⟨b, off, hA, hlt, hc⟩ := h h0
  exact ⟨b, off, hA, Nat.lt_of_lt_of_le hlt hb.size, fun i hi => (hb.cell (p := ⟨b, off + i, none⟩) hlt).trans (hc i hi)⟩
theorem vals_of_row {w : World} {base : Nat} {e : TypeId} {v : Value} {l : List Value} {n : Nat} (h : w.ownsRow base e 1 v n l) : ∃ A c, v = .slice A n c ∧ ValsAt w A l := by
  obtain ⟨hlen, ⟨rfl, h0⟩ | ⟨g, cap, cur, rfl, hg, hb, hn, hc, hs, ht⟩⟩ := h
  · exact ⟨none, 0, by rw [h0], fun h => by omega⟩
  · refine ⟨_, cap, rfl, fun _ => ⟨g, 0, rfl, (Array.getElem?_eq_some_iff.1 hb).1, fun i hi => ?_⟩⟩
    have e1 : w.cell? ⟨g, 0 + i, none⟩ = cur[i]? := by simp [World.cell?, hb]
    rw [e1]
    have h2 : (List.take (n * 1) cur.toList)[i]? = some l[i] := by rw [ht]; exact List.getElem?_eq_getElem hi
    rw [List.getElem?_take] at h2
    split at h2
    · rw [← h2, Array.getElem?_toList]
    · cases h2
end Go.Proofs.YtmpfkommeakgbaaDoor
