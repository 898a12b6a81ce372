/-
  A slice of frames that came in reads as a list of frames, each within the reach of the reading. No condition.
-/
import Derived.Deep.Slices
import Derived.Deep.Fields
import Derived.ChangeSame
import Derived.Test.YtllgkohgcicbhaaGreatDoorGLaw
import Derived.Test.YtllgkohgcicbhaaGreatDoorZB
import Derived.Test.YtllgkohgcicbhaaGreatDoorGCAsm
namespace Go.Proofs.YtllgkohgcicbhaaGreatDoor
open Go.RowKit Go.ChangeShapes Go.WideShapes Go.Deep

def frNo : Fr := ⟨0, 0, ⟨#[]⟩⟩
set_option maxRecDepth 100000 in
theorem frs_open {H : Type} {enc : TypeId × Value → H} {W : World} {fuel : Nat} {v : Value} {y : DataW H × List MemPlace}
    (h : DataW.trod enc Tryz.prog W 0 (fun _ => true) true fuel 42 [v] = some y) :
    ∃ (A : Option Addr) (l : List Fr) (cap : Nat), v = .slice A l.length cap ∧ ValsAt W A (rowFr l) ∧ ∀ R : Nat, (y.1.weights Tryz.prog 42).all (· ≤ R) = true → ∀ f ∈ l, f.d.size ≤ R := by
  have hC : Tryz.prog.cellsOf 33 = 3 := by kernel_rfl
  rcases open_slice Tryz.underlying42 h with ⟨hv, rfl⟩ | ⟨a, len, cap, m, n, D, Pl, hcs, hb, hl, hm, hmm, hx, hi⟩
  · obtain rfl : v = .slice none 0 0 := by simpa using hv
    exact ⟨none, [], 0, rfl, fun h => absurd h (by simp [rowFr]), fun R _ f hf => by cases hf⟩
  · obtain rfl : v = .slice (some a) len cap := by simpa using hcs
    have hlm : len ≤ m := by rw [hmm]; simp; exact hl
    have H1 : ∀ i, ∃ f : Fr, i < len → (W.cell? (a.add (i * 3)) = some (.int .i64 f.t) ∧ W.cell? (a.add (i * 3 + 1)) = some (.int .i64 f.c) ∧ W.cell? (a.add (i * 3 + 2)) = some (.string f.d)) ∧ ∀ R : Nat, ((D i).weights Tryz.prog 33).all (· ≤ R) = true → f.d.size ≤ R := by
      intro i
      by_cases h : i < len
      · obtain ⟨cs', hc, ht'⟩ := hi i (by omega)
        rw [hC] at hc
        obtain ⟨x0, x1, x2, rfl, -, -, hq⟩ := frame_of_struct ht'
        obtain ⟨-, hcl, hat⟩ := World.cells?_some hc
        refine ⟨⟨x0, x1, x2⟩, fun _ => ⟨⟨?_, ?_, ?_⟩, hq⟩⟩
        · have := hat 0 (by decide); rw [Go.Deep.add_add] at this; simpa using this
        · have := hat 1 (by decide); rw [Go.Deep.add_add] at this; simpa using this
        · have := hat 2 (by decide); rw [Go.Deep.add_add] at this; simpa using this
      · exact ⟨frNo, fun h' => absurd h' h⟩
    obtain ⟨F, hF⟩ : ∃ F : Nat → Fr, ∀ i, i < len → (W.cell? (a.add (i * 3)) = some (.int .i64 (F i).t) ∧ W.cell? (a.add (i * 3 + 1)) = some (.int .i64 (F i).c) ∧ W.cell? (a.add (i * 3 + 2)) = some (.string (F i).d)) ∧ ∀ R : Nat, ((D i).weights Tryz.prog 33).all (· ≤ R) = true → (F i).d.size ≤ R :=
      ⟨fun i => Classical.choose (H1 i), fun i => Classical.choose_spec (H1 i)⟩
    refine ⟨some a, (List.range len).map F, cap, by simp, fun h0 => ?_, fun R hR f hf => ?_⟩
    · rw [rowFr_length, List.length_map, List.length_range] at h0
      obtain ⟨b, off, spot⟩ := a
      have h00 := (hF 0 (by omega)).1.1
      have hspot : spot = none := by simpa [Addr.add] using World.cell?_spot h00
      subst hspot
      refine ⟨b, off, rfl, ?_, fun i hi' => ?_⟩
      · rcases Nat.lt_or_ge b W.heap.size with k | k
        · exact k
        · simp [World.cell?, Addr.add, Array.getElem?_eq_none k] at h00
      · have hi2 : i < len * 3 := by rw [rowFr_length, List.length_map, List.length_range] at hi'; exact hi'
        have hk : i / 3 < len := by omega
        obtain ⟨⟨c0, c1, c2⟩, -⟩ := hF (i / 3) hk
        obtain ⟨r0, r1, r2⟩ := row_cells ((List.range len).map F) (i / 3) (by simp; exact hk)
        simp only [List.getElem_map, List.getElem_range] at r0 r1 r2
        have hr : i % 3 = 0 ∨ i % 3 = 1 ∨ i % 3 = 2 := by omega
        have hv := List.getElem?_eq_getElem hi'
        rcases hr with hr | hr | hr
        · have e : i = i / 3 * 3 := by omega
          rw [← e] at c0 r0
          rw [Go.WideShapes.add_plain] at c0
          rw [c0, ← r0, hv]
        · have e : i = i / 3 * 3 + 1 := by omega
          rw [← e] at c1 r1
          rw [Go.WideShapes.add_plain] at c1
          rw [c1, ← r1, hv]
        · have e : i = i / 3 * 3 + 2 := by omega
          rw [← e] at c2 r2
          rw [Go.WideShapes.add_plain] at c2
          rw [c2, ← r2, hv]
    · obtain ⟨i, hil, rfl⟩ := List.mem_map.1 hf
      have hil := List.mem_range.1 hil
      rw [hx] at hR
      simp only [DataW.weights, Tryz.underlying42, List.all_cons, List.all_append, Bool.and_eq_true] at hR
      exact (hF i hil).2 R (weightsAll_mem hR.2.1 (D i) (List.mem_map.2 ⟨i, List.mem_range.2 (by omega), rfl⟩))
set_option maxRecDepth 100000 in
theorem frs_row_open {H : Type} {enc : TypeId × Value → H} {W : World} {r : Reach} {b0 : Nat} {v : Value} {d : DataW H} {p : List MemPlace}
    (hv : Value.okWide Tryz.prog W r b0 42 v) (h : DataW.Trod enc Tryz.prog W 0 (fun _ => true) true 42 v d p) :
    ∃ (A : Option Addr) (l : List Fr) (cap : Nat), v = .slice A l.length cap ∧ ValsAt W A (rowFr l) ∧ ∀ R : Nat, (d.weights Tryz.prog 42).all (· ≤ R) = true → ∀ f ∈ l, f.d.size ≤ R := by
  obtain ⟨fuel, hf⟩ := h
  obtain ⟨a, l, k, rfl⟩ := okWide_slice Tryz.underlying42 hv
  exact frs_open (y := (d, p)) (by simpa [Value.cells] using hf)
end Go.Proofs.YtllgkohgcicbhaaGreatDoor
