/-
  A slice of texts that came in reads as a list of texts, and is of no more bulk than its reading. No condition.
-/
import Derived.Test.YtdgpemkoicoheaaDoorMStr
import Derived.Test.YtdgpemkoicoheaaDoorGLaw
import Derived.Test.YtdgpemkoicoheaaDoorGUpto
import Derived.SliceStrings
namespace Go.Proofs.YtdgpemkoicoheaaDoor
open Go.RowKit Go.ChangeShapes

/-- how much a row of texts is: a text is its bytes and one -/
def strBulk : List ByteArray → Nat
  | [] => 0
  | s :: l => s.size + 1 + strBulk l
theorem strBulk_strs {H : Type} (l : List ByteArray) : Rows.uptoBulkAll (strs (H := H) l) = strBulk l := by
  induction l with
  | nil => rfl
  | cons s l ih =>
    show Rows.uptoBulk (DataW.lit (H := H) (.string s.data.toList)) + Rows.uptoBulkAll (strs l) = s.size + 1 + strBulk l
    rw [ih]
    simp [Rows.uptoBulk]
theorem strings_open {H : Type} {enc : TypeId × Value → H} {P : Program} {W : World} {t e : TypeId} {fuel : Nat} {v : Value} {y : DataW H × List MemPlace}
    (ht : P.underlying t = some (.slice e)) (he : P.underlying e = some .string) (hc : P.cellsOf e = 1) (h : DataW.trod enc P W 0 (fun _ => true) true fuel t [v] = some y) :
    ∃ (A : Option Addr) (l : List ByteArray) (cap : Nat), v = .slice A l.length cap ∧ ValsAt W A (l.map Value.string) ∧ l.length ≤ cap ∧ (A = none → cap = 0) ∧ strBulk l + 1 ≤ Rows.uptoBulk y.1 := by
  rcases open_strings ht he hc h with ⟨hv, rfl⟩ | ⟨a, len, cap, ss, hv, _, hl, hm, hlen, rfl, hcell, _⟩
  · obtain rfl : v = .slice none 0 0 := by simpa using hv
    exact ⟨none, [], 0, rfl, fun h => absurd h (by simp), Nat.le_refl _, fun _ => rfl, by simp [strBulk, Rows.uptoBulk]⟩
  · obtain rfl : v = .slice (some a) len cap := by simpa using hv
    simp only [if_true] at hlen
    have hll : (ss.take len).length = len := by rw [List.length_take]; omega
    refine ⟨some a, ss.take len, cap, by rw [hll], fun h0 => ?_, by omega, (fun h => by cases h), ?_⟩
    · have hpos : 0 < len := by rw [List.length_map, hll] at h0; exact h0
      obtain ⟨b, off, spot⟩ := a
      have h00 := hcell 0 (by omega)
      have hspot : spot = none := by simpa [Addr.add] using World.cell?_spot h00
      subst hspot
      refine ⟨b, off, rfl, ?_, fun i hi => ?_⟩
      · rcases Nat.lt_or_ge b W.heap.size with k | k
        · exact k
        · simp [World.cell?, Addr.add, Array.getElem?_eq_none k] at h00
      · have hi' : i < len := by rw [List.length_map, hll] at hi; exact hi
        have := hcell i (by omega)
        rw [Go.WideShapes.add_plain] at this
        rw [this, List.getElem_map, List.getElem_take]
        simp [List.getD_eq_getElem?_getD, List.getElem?_eq_getElem (show i < ss.length by omega)]
    · show _ ≤ Rows.uptoBulkAll (strs (ss.take len)) + Rows.uptoBulkAll (strs (ss.drop len)) + 1
      rw [strBulk_strs]
      omega
end Go.Proofs.YtdgpemkoicoheaaDoor
