/-
  A slice of values that came in reads as a list of values, each within the reach of its reading. No condition.
-/
import Derived.Deep.Slices
import Derived.Deep.Fields
import Derived.ChangeSame
import Derived.Test.YtkdiccedkjbpeaaGreatDoorRGLaw
import Derived.Test.YtkdiccedkjbpeaaGreatDoorRJMV
namespace Go.Proofs.YtkdiccedkjbpeaaGreatDoorR
open Go.RowKit Go.ChangeShapes Go.WideShapes Go.Deep

set_option maxRecDepth 100000 in
theorem val_of_struct {H : Type} {enc : TypeId × Value → H} {w : World} {base : Nat} {sp : Nat → Bool} {held : Bool} {fuel : Nat} {cs : List Value} {x : DataW H × List MemPlace}
    (h : DataW.trod enc Tryz.prog w base sp held fuel 51 cs = some x) : ∃ v : MV, cs = [.int .u64 v.n, .string v.s] ∧ (0 ≤ v.n ∧ v.n < 18446744073709551616) ∧ ∀ R : Nat, (x.1.weights Tryz.prog 51).all (· ≤ R) = true → v.s.size ≤ R := by
  obtain ⟨xs, n, -, hx, hlen, hxl, hf⟩ := DataW.trod_struct Tryz.underlying51 h
  have hC : Tryz.prog.cellsOf 51 = 2 := by kernel_rfl
  have hi1 : Tryz.prog.cellsOf 49 = 1 := by kernel_rfl
  have hs1 : Tryz.prog.cellsOf 9 = 1 := by kernel_rfl
  rw [hC] at hlen
  match cs, hlen with
  | [a, b], _ =>
    have h0 : DataW.trod enc Tryz.prog w base sp held n 49 ([a, b].take (Tryz.prog.cellsOf 49)) = xs[0]? := hf 0 _ rfl
    have h1 : DataW.trod enc Tryz.prog w base sp held n 9 ([b].take (Tryz.prog.cellsOf 9)) = xs[1]? := hf 1 _ rfl
    rw [hi1] at h0
    rw [hs1] at h1
    simp only [List.take_succ_cons, List.take_zero] at h0 h1
    match xs, hxl with
    | [x0, x1], _ =>
      simp only [List.getElem?_cons_zero, List.getElem?_cons_succ] at h0 h1
      obtain ⟨t, e0, hy0, w0⟩ := DataW.trod_int Tryz.underlying49 h0
      obtain ⟨d, e1, hd, -⟩ := DataW.trod_string Tryz.underlying9 h1
      have b0 := bounds_u64 w0
      cases e0
      cases e1
      refine ⟨⟨t, d⟩, rfl, ⟨by dsimp only; omega, by dsimp only; omega⟩, fun R hR => ?_⟩
      rw [hx] at hR
      have hR' : (DataW.weightsEach Tryz.prog [49, 9] [x0.1, x1.1]).all (· ≤ R) = true := by
        have := hR
        simp only [DataW.weights, Tryz.underlying51, List.map_cons, List.map_nil] at this
        exact this
      rw [hd] at hR'
      simp only [DataW.weightsEach, List.all_append, Bool.and_eq_true, DataW.weights] at hR'
      have h2 := hR'.2.1
      simpa using h2
theorem weightsAll_mem {H : Type} {P : Program} {e : TypeId} {R : Nat} : ∀ {l : List (DataW H)}, (DataW.weightsAll P e l).all (· ≤ R) = true → ∀ d ∈ l, (d.weights P e).all (· ≤ R) = true
  | [], _, d, hd => by cases hd
  | a :: l, h, d, hd => by
    rw [DataW.weightsAll, List.all_append, Bool.and_eq_true] at h
    rcases List.mem_cons.1 hd with rfl | hd
    · exact h.1
    · exact weightsAll_mem h.2 d hd
theorem vals_open {H : Type} {enc : TypeId × Value → H} {W : World} {fuel : Nat} {v : Value} {y : DataW H × List MemPlace}
    (h : DataW.trod enc Tryz.prog W 0 (fun _ => true) true fuel 37 [v] = some y) :
    ∃ (A : Option Addr) (l : List MV) (cap : Nat), v = .slice A l.length cap ∧ ValsAt W A (rowV l) ∧ (A = none → l.length = 0 ∧ cap = 0) ∧ (∀ R : Nat, (y.1.weights Tryz.prog 37).all (· ≤ R) = true → l.length * 24 ≤ R ∧ ∀ u ∈ l, (0 ≤ u.n ∧ u.n < 18446744073709551616) ∧ u.s.size ≤ R) := by
  have hC : Tryz.prog.cellsOf 51 = 2 := by kernel_rfl
  have hBy : Tryz.prog.bytesOf 51 = 24 := by kernel_rfl
  rcases open_slice Tryz.underlying37 h with ⟨hv, rfl⟩ | ⟨a, len, cap, m, n, D, Pl, hcs, hb, hl, hm, hmm, hx, hi⟩
  · obtain rfl : v = .slice none 0 0 := by simpa using hv
    exact ⟨none, [], 0, rfl, fun h => absurd h (by simp [rowV]), fun _ => ⟨rfl, rfl⟩, fun R _ => ⟨by simp, fun u hu => by cases hu⟩⟩
  · obtain rfl : v = .slice (some a) len cap := by simpa using hcs
    have hlm : len ≤ m := by rw [hmm]; simp; exact hl
    have H1 : ∀ i, ∃ f : MV, i < len → (W.cell? (a.add (i * 2)) = some (.int .u64 f.n) ∧ W.cell? (a.add (i * 2 + 1)) = some (.string f.s)) ∧ (0 ≤ f.n ∧ f.n < 18446744073709551616) ∧ ∀ R : Nat, ((D i).weights Tryz.prog 51).all (· ≤ R) = true → f.s.size ≤ R := by
      intro i
      by_cases h : i < len
      · obtain ⟨cs', hc, ht'⟩ := hi i (by omega)
        rw [hC] at hc
        obtain ⟨f, rfl, hbk, hwt⟩ := val_of_struct ht'
        obtain ⟨-, hcl, hat⟩ := World.cells?_some hc
        refine ⟨f, fun _ => ⟨⟨?_, ?_⟩, hbk, hwt⟩⟩
        · have := hat 0 (by decide); rw [Go.Deep.add_add] at this; simpa using this
        · have := hat 1 (by decide); rw [Go.Deep.add_add] at this; simpa using this
      · exact ⟨noV, fun h' => absurd h' h⟩
    obtain ⟨F, hF⟩ : ∃ F : Nat → MV, ∀ i, i < len → (W.cell? (a.add (i * 2)) = some (.int .u64 (F i).n) ∧ W.cell? (a.add (i * 2 + 1)) = some (.string (F i).s)) ∧ (0 ≤ (F i).n ∧ (F i).n < 18446744073709551616) ∧ ∀ R : Nat, ((D i).weights Tryz.prog 51).all (· ≤ R) = true → (F i).s.size ≤ R :=
      ⟨fun i => Classical.choose (H1 i), fun i => Classical.choose_spec (H1 i)⟩
    refine ⟨some a, (List.range len).map F, cap, by simp, fun h0 => ?_, (fun e => by cases e), fun R hR => ?_⟩
    · rw [rowV_length, List.length_map, List.length_range] at h0
      obtain ⟨b, off, spot⟩ := a
      have h00 := (hF 0 (by omega)).1.1
      have hspot : spot = none := by simpa [Addr.add] using World.cell?_spot h00
      subst hspot
      refine ⟨b, off, rfl, ?_, fun i hi' => ?_⟩
      · rcases Nat.lt_or_ge b W.heap.size with k | k
        · exact k
        · simp [World.cell?, Addr.add, Array.getElem?_eq_none k] at h00
      · have hi2 : i < len * 2 := by rw [rowV_length, List.length_map, List.length_range] at hi'; exact hi'
        have hk : i / 2 < len := by omega
        obtain ⟨⟨c0, c1⟩, -⟩ := hF (i / 2) hk
        obtain ⟨r0, r1⟩ := v_cells ((List.range len).map F) (i / 2) (by simp; exact hk)
        simp only [List.getElem_map, List.getElem_range] at r0 r1
        have hr : i % 2 = 0 ∨ i % 2 = 1 := by omega
        have hv := List.getElem?_eq_getElem hi'
        rcases hr with hr | hr
        · have e : i = i / 2 * 2 := by omega
          rw [← e] at c0 r0
          rw [Go.WideShapes.add_plain] at c0
          rw [c0, ← r0, hv]
        · have e : i = i / 2 * 2 + 1 := by omega
          rw [← e] at c1 r1
          rw [Go.WideShapes.add_plain] at c1
          rw [c1, ← r1, hv]
    · rw [hx] at hR
      simp only [DataW.weights, Tryz.underlying37, hBy, List.all_cons, List.all_append, Bool.and_eq_true, decide_eq_true_eq, List.length_map, List.length_range] at hR
      refine ⟨?_, fun u hu => ?_⟩
      · rw [List.length_map, List.length_range]
        refine Nat.le_trans (Nat.mul_le_mul_right _ ?_) hR.1
        omega
      · obtain ⟨i, hi', rfl⟩ := List.mem_map.1 hu
        have hil := List.mem_range.1 hi'
        obtain ⟨-, g1, g2⟩ := hF i hil
        exact ⟨g1, g2 R (weightsAll_mem hR.2.1 (D i) (List.mem_map.2 ⟨i, hi', rfl⟩))⟩
end Go.Proofs.YtkdiccedkjbpeaaGreatDoorR
