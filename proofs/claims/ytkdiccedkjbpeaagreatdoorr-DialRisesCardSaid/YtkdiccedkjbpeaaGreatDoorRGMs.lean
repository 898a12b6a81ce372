/-
  A slice of methods that came in reads as a row of methods, each with its values, all within the reach of the reading. No condition.
-/
import Derived.Deep.Slices
import Derived.Deep.Fields
import Derived.ChangeSame
import Derived.Test.YtkdiccedkjbpeaaGreatDoorRGMeth
import Derived.Test.YtkdiccedkjbpeaaGreatDoorRPMethC
namespace Go.Proofs.YtkdiccedkjbpeaaGreatDoorR
open Go.RowKit Go.ChangeShapes Go.WideShapes Go.Deep

/-- the cells of a method that came in -/
def MsAt (W : World) (a : Addr) (m : Me) (A : Option Addr) (c : Nat) : Prop := W.cell? a = some (.int .i64 m.c) ∧ W.cell? (a.add 1) = some (.int .i64 m.i) ∧ W.cell? (a.add 2) = some (.slice A m.l.length c) ∧ ValsAt W A (rowV m.l)
def meNone : Me := ⟨0, 0, []⟩
set_option maxRecDepth 100000 in
theorem ms_struct {H : Type} {enc : TypeId × Value → H} {W : World} {fuel : Nat} {cs : List Value} {x : DataW H × List MemPlace}
    (h : DataW.trod enc Tryz.prog W 0 (fun _ => true) true fuel 39 cs = some x) : ∃ (m : Me) (A : Option Addr) (c : Nat), cs = [.int .i64 m.c, .int .i64 m.i, .slice A m.l.length c] ∧ ValsAt W A (rowV m.l) ∧ ∀ R : Nat, (x.1.weights Tryz.prog 39).all (· ≤ R) = true → ∀ u ∈ m.l, (0 ≤ u.n ∧ u.n < 18446744073709551616) ∧ u.s.size ≤ R := by
  obtain ⟨xs, n, -, hx, hlen, hxl, hf⟩ := DataW.trod_struct Tryz.underlying39 h
  have hC : Tryz.prog.cellsOf 39 = 3 := by kernel_rfl
  have k0 : Tryz.prog.cellsOf 3 = 1 := by kernel_rfl
  have k2 : Tryz.prog.cellsOf 37 = 1 := by kernel_rfl
  rw [hC] at hlen
  match cs, hlen with
  | [y0, y1, y2], _ =>
    have h0 : DataW.trod enc Tryz.prog W 0 (fun _ => true) true n 3 ([y0, y1, y2].take (Tryz.prog.cellsOf 3)) = xs[0]? := hf 0 _ rfl
    have h1 : DataW.trod enc Tryz.prog W 0 (fun _ => true) true n 3 ([y1, y2].take (Tryz.prog.cellsOf 3)) = xs[1]? := hf 1 _ rfl
    have h2 : DataW.trod enc Tryz.prog W 0 (fun _ => true) true n 37 ([y2].take (Tryz.prog.cellsOf 37)) = xs[2]? := hf 2 _ rfl
    rw [k0] at h0 h1
    rw [k2] at h2
    simp only [List.take_succ_cons, List.take_zero] at h0 h1 h2
    match xs, hxl with
    | [x0, x1, x2], _ =>
      simp only [List.getElem?_cons_zero, List.getElem?_cons_succ] at h0 h1 h2
      obtain ⟨z0, e0, -, -⟩ := DataW.trod_int Tryz.underlying3 h0
      obtain ⟨z1, e1, -, -⟩ := DataW.trod_int Tryz.underlying3 h1
      obtain ⟨A2, z2, c2, e2, p2, -, q2⟩ := vals_open h2
      cases e0
      cases e1
      subst e2
      refine ⟨⟨z0, z1, z2⟩, A2, c2, rfl, p2, fun R hR => ?_⟩
      rw [hx] at hR
      have hR' : (DataW.weightsEach Tryz.prog [3, 3, 37] [x0.1, x1.1, x2.1]).all (· ≤ R) = true := by
        have := hR
        simp only [DataW.weights, Tryz.underlying39, List.map_cons, List.map_nil] at this
        exact this
      simp only [DataW.weightsEach, List.all_append, Bool.and_eq_true] at hR'
      exact (q2 R hR'.2.2.1).2
set_option maxRecDepth 100000 in
theorem ms_open {H : Type} {enc : TypeId × Value → H} {W : World} {fuel : Nat} {v : Value} {y : DataW H × List MemPlace}
    (h : DataW.trod enc Tryz.prog W 0 (fun _ => true) true fuel 33 [v] = some y) :
    ∃ (A : Option Addr) (n cap : Nat) (F : Nat → Me) (G : Nat → Option Addr) (K : Nat → Nat), v = .slice A n cap ∧ (∀ i, i < n → ∃ b off, A = some ⟨b, off, none⟩ ∧ b < W.heap.size ∧ MsAt W ⟨b, off + i * 3, none⟩ (F i) (G i) (K i)) ∧ (A = none → n = 0 ∧ cap = 0) ∧ ∀ R : Nat, (y.1.weights Tryz.prog 33).all (· ≤ R) = true → ∀ i, i < n → ∀ u ∈ (F i).l, (0 ≤ u.n ∧ u.n < 18446744073709551616) ∧ u.s.size ≤ R := by
  have hC : Tryz.prog.cellsOf 39 = 3 := by kernel_rfl
  rcases open_slice Tryz.underlying33 h with ⟨hv, rfl⟩ | ⟨a, len, cap, m, n, D, Pl, hcs, hb, hl, hm, hmm, hx, hi⟩
  · obtain rfl : v = .slice none 0 0 := by simpa using hv
    exact ⟨none, 0, 0, fun _ => meNone, fun _ => none, fun _ => 0, rfl, fun i hi => absurd hi (by omega), fun _ => ⟨rfl, rfl⟩, fun R _ i hi => absurd hi (by omega)⟩
  · obtain rfl : v = .slice (some a) len cap := by simpa using hcs
    have hlm : len ≤ m := by rw [hmm]; simp; exact hl
    by_cases hz : len = 0
    · subst hz
      exact ⟨some a, 0, cap, fun _ => meNone, fun _ => none, fun _ => 0, rfl, fun i hi => absurd hi (by omega), (fun e => by cases e), fun R _ i hi => absurd hi (by omega)⟩
    have hspot : a.spot = none ∧ a.block < W.heap.size := by
      obtain ⟨cs', hc, ht'⟩ := hi 0 (by omega)
      rw [hC] at hc
      obtain ⟨f, g, k, rfl, hva, hwt⟩ := ms_struct ht'
      obtain ⟨-, hcl, hat⟩ := World.cells?_some hc
      have h00 : W.cell? a = some (.int .i64 f.c) := by have := hat 0 (by decide); rw [Nat.zero_mul, Addr.add_zero', Addr.add_zero'] at this; simpa using this
      refine ⟨World.cell?_spot h00, ?_⟩
      rcases Nat.lt_or_ge a.block W.heap.size with k | k
      · exact k
      · simp [World.cell?, Array.getElem?_eq_none k] at h00
    obtain ⟨b, off, spot⟩ := a
    obtain ⟨hs1, hs2⟩ := hspot
    dsimp only at hs1 hs2
    subst hs1
    have H1 : ∀ i, ∃ (f : Me) (g : Option Addr) (k : Nat), i < len → MsAt W ⟨b, off + i * 3, none⟩ f g k ∧ ∀ R : Nat, ((D i).weights Tryz.prog 39).all (· ≤ R) = true → ∀ u ∈ f.l, (0 ≤ u.n ∧ u.n < 18446744073709551616) ∧ u.s.size ≤ R := by
      intro i
      by_cases h : i < len
      · obtain ⟨cs', hc, ht'⟩ := hi i (by omega)
        rw [hC, Go.WideShapes.add_plain] at hc
        obtain ⟨f, g, k, rfl, hva, hwt⟩ := ms_struct ht'
        obtain ⟨-, hcl, hat⟩ := World.cells?_some hc
        refine ⟨f, g, k, fun _ => ⟨⟨?_, ?_, ?_, hva⟩, hwt⟩⟩
        · have := hat 0 (by decide); rw [Addr.add_zero'] at this; simpa using this
        · have := hat 1 (by decide); simpa using this
        · have := hat 2 (by decide); simpa using this
      · exact ⟨meNone, none, 0, fun h' => absurd h' h⟩
    refine ⟨some ⟨b, off, none⟩, len, cap, fun i => Classical.choose (H1 i), fun i => Classical.choose (Classical.choose_spec (H1 i)), fun i => Classical.choose (Classical.choose_spec (Classical.choose_spec (H1 i))), rfl, fun i hil => ?_, (fun e => by cases e), fun R hR i hil => ?_⟩
    · exact ⟨b, off, rfl, hs2, (Classical.choose_spec (Classical.choose_spec (Classical.choose_spec (H1 i))) hil).1⟩
    · have hF := (Classical.choose_spec (Classical.choose_spec (Classical.choose_spec (H1 i))) hil).2
      rw [hx] at hR
      simp only [DataW.weights, Tryz.underlying33, List.all_cons, List.all_append, Bool.and_eq_true] at hR
      exact hF R (weightsAll_mem hR.2.1 (D i) (List.mem_map.2 ⟨i, List.mem_range.2 (by omega), rfl⟩))
set_option maxRecDepth 100000 in
theorem ms_row_open {H : Type} {enc : TypeId × Value → H} {W : World} {r : Reach} {b0 : Nat} {v : Value} {d : DataW H} {p : List MemPlace}
    (hv : Value.okWide Tryz.prog W r b0 33 v) (h : DataW.Trod enc Tryz.prog W 0 (fun _ => true) true 33 v d p) :
    ∃ (A : Option Addr) (n cap : Nat) (F : Nat → Me) (G : Nat → Option Addr) (K : Nat → Nat), v = .slice A n cap ∧ (∀ i, i < n → ∃ b off, A = some ⟨b, off, none⟩ ∧ b < W.heap.size ∧ MsAt W ⟨b, off + i * 3, none⟩ (F i) (G i) (K i)) ∧ (A = none → n = 0 ∧ cap = 0) ∧ ∀ R : Nat, (d.weights Tryz.prog 33).all (· ≤ R) = true → ∀ i, i < n → ∀ u ∈ (F i).l, (0 ≤ u.n ∧ u.n < 18446744073709551616) ∧ u.s.size ≤ R := by
  obtain ⟨fuel, hf⟩ := h
  obtain ⟨a, l, k, rfl⟩ := okWide_slice Tryz.underlying33 hv
  exact ms_open (y := (d, p)) (by simpa [Value.cells] using hf)
end Go.Proofs.YtkdiccedkjbpeaaGreatDoorR
