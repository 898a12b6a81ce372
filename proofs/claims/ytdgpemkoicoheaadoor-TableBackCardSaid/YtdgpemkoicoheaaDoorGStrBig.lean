/-
  A slice of texts that came in reads as a list of texts, each within the reach of its reading. No condition.
-/
import Derived.Test.YtdgpemkoicoheaaDoorGStr
namespace Go.Proofs.YtdgpemkoicoheaaDoor
open Go.RowKit Go.ChangeShapes

theorem weightsAll_strs {H : Type} {P : Program} {e : TypeId} {R : Nat} : ∀ {l : List ByteArray}, (DataW.weightsAll P e (strs (H := H) l)).all (· ≤ R) = true → ∀ s ∈ l, s.size ≤ R
  | [], _, s, hs => by cases hs
  | a :: l, h, s, hs => by
    have h' : ([a.data.toList.length] ++ DataW.weightsAll P e (strs (H := H) l)).all (· ≤ R) = true := h
    rw [List.all_append, Bool.and_eq_true] at h'
    rcases List.mem_cons.1 hs with rfl | hs
    · have := h'.1
      simpa using this
    · exact weightsAll_strs h'.2 s hs
theorem strings_open_big {H : Type} {enc : TypeId × Value → H} {P : Program} {W : World} {t e : TypeId} {fuel : Nat} {v : Value} {y : DataW H × List MemPlace}
    (ht : P.underlying t = some (.slice e)) (he : P.underlying e = some .string) (hc : P.cellsOf e = 1) (h : DataW.trod enc P W 0 (fun _ => true) true fuel t [v] = some y) :
    ∃ (A : Option Addr) (l : List ByteArray) (cap : Nat), v = .slice A l.length cap ∧ ValsAt W A (l.map Value.string) ∧ l.length ≤ cap ∧ (A = none → cap = 0) ∧ (∀ R : Nat, (y.1.weights P t).all (· ≤ R) = true → l.length * P.bytesOf e ≤ R ∧ ∀ s ∈ l, s.size ≤ R) := by
  obtain ⟨A, l, cap, h1, h2, h3, h4, -⟩ := strings_open ht he hc h
  refine ⟨A, l, cap, h1, h2, h3, h4, ?_⟩
  rcases open_strings ht he hc h with ⟨hv, rfl⟩ | ⟨a, len, cap', ss, hv, _, hl, hm, hlen, rfl, hcell, _⟩
  · obtain rfl : v = .slice none 0 0 := by simpa using hv
    simp only [Value.slice.injEq] at h1
    obtain ⟨-, h0, -⟩ := h1
    have hn : l = [] := List.eq_nil_of_length_eq_zero h0.symm
    subst hn
    intro R _
    exact ⟨by simp, fun s hs => by cases hs⟩
  · obtain rfl : v = .slice (some a) len cap' := by simpa using hv
    simp only [Value.slice.injEq] at h1
    obtain ⟨rfl, hle, rfl⟩ := h1
    simp only [if_true] at hlen
    have hll : (ss.take len).length = len := by rw [List.length_take]; omega
    have hl2 : l = ss.take len := by
      apply List.ext_getElem
      · omega
      · intro i hi hi2
        obtain ⟨b, off, hab, -, hc2⟩ := h2 (by simp; omega)
        cases hab
        have q1 := hc2 i (by simpa using hi)
        have q2 := hcell i (by omega)
        rw [Go.WideShapes.add_plain, q1, List.getElem_map] at q2
        have q3 : ss.getD i ByteArray.empty = ss[i]'(by omega) := by
          simp [List.getD_eq_getElem?_getD, List.getElem?_eq_getElem (show i < ss.length by omega)]
        rw [q3] at q2
        rw [List.getElem_take]
        simpa using q2
    subst hl2
    intro R hR
    have hR' : ((DataW.slice (strs (H := H) (ss.take len)) (strs (ss.drop len))).weights P t).all (· ≤ R) = true := hR
    rw [DataW.weights, ht] at hR'
    simp only [List.all_cons, List.all_append, Bool.and_eq_true, decide_eq_true_eq] at hR'
    refine ⟨Nat.le_trans (Nat.mul_le_mul_right _ ?_) hR'.1, weightsAll_strs hR'.2.1⟩
    simp [strs]
end Go.Proofs.YtdgpemkoicoheaaDoor
