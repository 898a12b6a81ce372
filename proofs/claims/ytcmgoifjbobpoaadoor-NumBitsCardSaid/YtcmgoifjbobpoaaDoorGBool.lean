/-
  A slice of bools that came in reads as a list of bools. No condition.
-/
import Derived.Test.YtcmgoifjbobpoaaDoorMMem
import Derived.Test.YtcmgoifjbobpoaaDoorGLaw
import Derived.Deep.Grids
namespace Go.Proofs.YtcmgoifjbobpoaaDoor
open Go.RowKit Go.Deep

/-- how many elements a row has -/
def boolCount {H : Type} : DataW H → Nat
  | .slice elems _ => elems.length
  | _ => 0

theorem bools_open {H : Type} {enc : TypeId × Value → H} {P : Program} {W : World} {t e : TypeId} {fuel : Nat} {v : Value} {y : DataW H × List MemPlace}
    (ht : P.underlying t = some (.slice e)) (he : P.underlying e = some .bool) (hc : P.cellsOf e = 1) (h : DataW.trod enc P W 0 (fun _ => true) true fuel t [v] = some y) :
    ∃ (A : Option Addr) (l : List Bool) (cap : Nat), v = .slice A l.length cap ∧ BoolsAt W A l ∧ l.length ≤ cap ∧ (∀ R : Nat, (y.1.weights P t).all (· ≤ R) = true → l.length * P.bytesOf e ≤ R) ∧ (A = none → cap = 0) ∧ boolCount y.1 = l.length := by
  rcases open_bools ht he hc h with ⟨hv, rfl⟩ | ⟨a, len, cap, B, hv, _, hl, hm, rfl, hcell⟩
  · obtain rfl : v = .slice none 0 0 := by simpa using hv
    exact ⟨none, [], 0, rfl, fun h => absurd h (by simp), Nat.le_refl _, fun R _ => by simp, fun _ => rfl, rfl⟩
  · obtain rfl : v = .slice (some a) len cap := by simpa using hv
    refine ⟨some a, (List.range len).map B, cap, by simp, fun h0 => ?_, by simpa using hl, ?_, ?_, ?_⟩
    · have hlen : 0 < len := by simpa using h0
      obtain ⟨b, off, spot⟩ := a
      have h00 := hcell 0 (by omega)
      have hspot : spot = none := by simpa [Addr.add] using World.cell?_spot h00
      subst hspot
      refine ⟨b, off, rfl, ?_, fun i hi => ?_⟩
      · rcases Nat.lt_or_ge b W.heap.size with k | k
        · exact k
        · simp [World.cell?, Addr.add, Array.getElem?_eq_none k] at h00
      · have hi' : i < len := by simpa using hi
        have := hcell i (by omega)
        rw [Go.WideShapes.add_plain] at this
        simpa using this
    · intro R hR
      simp only [boolRow, DataW.weights, ht, List.all_cons, Bool.and_eq_true, decide_eq_true_eq, List.length_map, List.length_range] at hR
      refine Nat.le_trans (Nat.mul_le_mul_right _ ?_) hR.1
      simp
    · intro h
      cases h
    · simp [boolRow, boolCount]
end Go.Proofs.YtcmgoifjbobpoaaDoor
