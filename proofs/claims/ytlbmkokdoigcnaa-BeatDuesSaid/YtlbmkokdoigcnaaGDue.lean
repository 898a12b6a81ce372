/-
  A slice of what is due that came in reads as a list; the struct that BeatDues is asked of, taken apart. No condition.
-/
import Derived.Deep.Slices
import Derived.Deep.Fields
import Derived.ChangeSame
import Derived.Lib.SmallJoins
import Derived.Test.YtlbmkokdoigcnaaGLaw
import Derived.Test.YtlbmkokdoigcnaaWBeat
namespace Go.Proofs.Ytlbmkokdoigcnaa
open Go.RowKit Go.ChangeShapes Go.WideShapes Go.Deep Go.Joins

set_option maxRecDepth 100000 in
theorem due_of_struct {H : Type} {enc : TypeId × Value → H} {w : World} {base : Nat} {sp : Nat → Bool} {held : Bool} {fuel : Nat} {cs : List Value} {x : DataW H × List MemPlace}
    (h : DataW.trod enc Try.prog w base sp held fuel 24 cs = some x) : ∃ d : DP, cs = [.int .i64 d.a, .int .i64 d.i] := by
  obtain ⟨xs, n, -, hx, hlen, hxl, hf⟩ := DataW.trod_struct Try.underlying24 h
  have hC : Try.prog.cellsOf 24 = 2 := by kernel_rfl
  have hi1 : Try.prog.cellsOf 3 = 1 := by kernel_rfl
  rw [hC] at hlen
  match cs, hlen with
  | [a, b], _ =>
    have h0 : DataW.trod enc Try.prog w base sp held n 3 ([a, b].take (Try.prog.cellsOf 3)) = xs[0]? := hf 0 _ rfl
    have h1 : DataW.trod enc Try.prog w base sp held n 3 ([b].take (Try.prog.cellsOf 3)) = xs[1]? := hf 1 _ rfl
    rw [hi1] at h0 h1
    simp only [List.take_succ_cons, List.take_zero] at h0 h1
    match xs, hxl with
    | [x0, x1], _ =>
      simp only [List.getElem?_cons_zero, List.getElem?_cons_succ] at h0 h1
      obtain ⟨t, e0, rfl, -⟩ := DataW.trod_int Try.underlying3 h0
      obtain ⟨k, e1, rfl, -⟩ := DataW.trod_int Try.underlying3 h1
      cases e0
      cases e1
      exact ⟨⟨t, k⟩, rfl⟩
set_option maxRecDepth 100000 in
theorem dues_open {H : Type} {enc : TypeId × Value → H} {W : World} {fuel : Nat} {v : Value} {y : DataW H × List MemPlace}
    (h : DataW.trod enc Try.prog W 0 (fun _ => true) true fuel 22 [v] = some y) :
    ∃ (A : Option Addr) (l : List DP) (cap : Nat), v = .slice A l.length cap ∧ InD W A cap l ∧ ∀ R : Nat, (y.1.weights Try.prog 22).all (· ≤ R) = true → l.length * 16 ≤ R := by
  have hBy : Try.prog.bytesOf 24 = 16 := by kernel_rfl
  have hC : Try.prog.cellsOf 24 = 2 := by kernel_rfl
  rcases open_slice Try.underlying22 h with ⟨hv, rfl⟩ | ⟨a, len, cap, m, n, D, Pl, hcs, hb, hl, hm, hmm, hx, hi⟩
  · obtain rfl : v = .slice none 0 0 := by simpa using hv
    exact ⟨none, [], 0, rfl, ⟨fun h => absurd h (by simp [rowD]), fun _ => ⟨rfl, rfl⟩⟩, fun _ _ => by simp⟩
  · obtain rfl : v = .slice (some a) len cap := by simpa using hcs
    have hlm : len ≤ m := by rw [hmm]; simp; exact hl
    have H1 : ∀ i, ∃ d : DP, i < len → W.cell? (a.add (i * 2)) = some (.int .i64 d.a) ∧ W.cell? (a.add (i * 2 + 1)) = some (.int .i64 d.i) := by
      intro i
      by_cases h : i < len
      · obtain ⟨cs', hc, ht'⟩ := hi i (by omega)
        rw [hC] at hc
        obtain ⟨d, rfl⟩ := due_of_struct ht'
        obtain ⟨-, hcl, hat⟩ := World.cells?_some hc
        refine ⟨d, fun _ => ⟨?_, ?_⟩⟩
        · have := hat 0 (by decide); rw [Go.Deep.add_add] at this; simpa using this
        · have := hat 1 (by decide); rw [Go.Deep.add_add] at this; simpa using this
      · exact ⟨⟨0, 0⟩, fun h' => absurd h' h⟩
    obtain ⟨F, hF⟩ : ∃ F : Nat → DP, ∀ i, i < len → W.cell? (a.add (i * 2)) = some (.int .i64 (F i).a) ∧ W.cell? (a.add (i * 2 + 1)) = some (.int .i64 (F i).i) :=
      ⟨fun i => Classical.choose (H1 i), fun i => Classical.choose_spec (H1 i)⟩
    refine ⟨some a, (List.range len).map F, cap, by simp, ⟨fun h0 => ?_, fun e => by cases e⟩, fun R hR => by
      rw [hx] at hR
      simp only [DataW.weights, Try.underlying22, hBy, List.all_cons, List.all_append, Bool.and_eq_true, decide_eq_true_eq, List.length_map, List.length_range] at hR
      rw [List.length_map, List.length_range]
      refine Nat.le_trans (Nat.mul_le_mul_right _ ?_) hR.1
      omega⟩
    rw [rowD_length, List.length_map, List.length_range] at h0
    obtain ⟨b, off, spot⟩ := a
    have h00 := (hF 0 (by omega)).1
    have hspot : spot = none := by simpa [Addr.add] using World.cell?_spot h00
    subst hspot
    refine ⟨b, off, rfl, ?_, fun i hi' => ?_⟩
    · rcases Nat.lt_or_ge b W.heap.size with k | k
      · exact k
      · simp [World.cell?, Addr.add, Array.getElem?_eq_none k] at h00
    · have hi2 : i < len * 2 := by rw [rowD_length, List.length_map, List.length_range] at hi'; exact hi'
      have hk : i / 2 < len := by omega
      obtain ⟨c0, c1⟩ := hF (i / 2) hk
      obtain ⟨r0, r1⟩ := rowD_cells ((List.range len).map F) (i / 2) (by simp; exact hk)
      have hat : atD ((List.range len).map F) (i / 2) = F (i / 2) := by rw [atD_lt (by simp; exact hk)]; simp
      rw [hat] at r0 r1
      have hr : i % 2 = 0 ∨ i % 2 = 1 := by omega
      have hv := List.getElem?_eq_getElem hi'
      rcases hr with hr | hr
      · have e : i = i / 2 * 2 := by omega
        rw [← e] at c0 r0
        rw [Go.WideShapes.add_plain] at c0
        rw [c0, ← r0, hv]
      · have e : i = i / 2 * 2 + 1 := by omega
        rw [← e] at c1 r1
        rw [Go.WideShapes.add_plain] at c1
        rw [c1, ← r1, hv]
set_option maxRecDepth 100000 in
theorem dues_row_open {H : Type} {enc : TypeId × Value → H} {W : World} {r : Reach} {b0 : Nat} {v : Value} {d : DataW H} {p : List MemPlace}
    (hv : Value.okWide Try.prog W r b0 22 v) (h : DataW.Trod enc Try.prog W 0 (fun _ => true) true 22 v d p) :
    ∃ (A : Option Addr) (l : List DP) (cap : Nat), v = .slice A l.length cap ∧ InD W A cap l ∧ ∀ R : Nat, (d.weights Try.prog 22).all (· ≤ R) = true → l.length * 16 ≤ R := by
  obtain ⟨fuel, hf⟩ := h
  obtain ⟨a, l, k, rfl⟩ := okWide_slice Try.underlying22 hv
  exact dues_open (y := (d, p)) (by simpa [Value.cells] using hf)
set_option maxRecDepth 100000 in
theorem beatDuesIn_of_struct {H : Type} {enc : TypeId × Value → H} {W : World} {fuel : Nat} {cs : List Value} {x : DataW H × List MemPlace}
    (h : DataW.trod enc Try.prog W 0 (fun _ => true) true fuel 26 cs = some x) : ∃ (A : Option Addr) (l : List DP) (cap : Nat) (a i id now : Int), cs = [.slice A l.length cap, .int .i64 a, .int .i64 i, .int .i64 id, .int .i64 now] ∧ InD W A cap l := by
  obtain ⟨xs, n, -, hx, hlen, hxl, hf⟩ := DataW.trod_struct Try.underlying26 h
  have hC : Try.prog.cellsOf 26 = 5 := by kernel_rfl
  have k0 : Try.prog.cellsOf 22 = 1 := by kernel_rfl
  have k1 : Try.prog.cellsOf 24 = 2 := by kernel_rfl
  have k2 : Try.prog.cellsOf 3 = 1 := by kernel_rfl
  rw [hC] at hlen
  match cs, hlen with
  | [y0, y1, y2, y3, y4], _ =>
    have h0 : DataW.trod enc Try.prog W 0 (fun _ => true) true n 22 ([y0, y1, y2, y3, y4].take (Try.prog.cellsOf 22)) = xs[0]? := hf 0 _ rfl
    rw [k0] at h0
    have h1 : DataW.trod enc Try.prog W 0 (fun _ => true) true n 24 ([y1, y2, y3, y4].take (Try.prog.cellsOf 24)) = xs[1]? := hf 1 _ rfl
    rw [k1] at h1
    have h2 : DataW.trod enc Try.prog W 0 (fun _ => true) true n 3 ([y3, y4].take (Try.prog.cellsOf 3)) = xs[2]? := hf 2 _ rfl
    rw [k2] at h2
    have h3 : DataW.trod enc Try.prog W 0 (fun _ => true) true n 3 ([y4].take (Try.prog.cellsOf 3)) = xs[3]? := hf 3 _ rfl
    rw [k2] at h3
    simp only [List.take_succ_cons, List.take_zero] at h0 h1 h2 h3
    match xs, hxl with
    | [x0, x1, x2, x3], _ =>
      simp only [List.getElem?_cons_zero, List.getElem?_cons_succ] at h0 h1 h2 h3
      obtain ⟨A, l, cap, e0, hi, -⟩ := dues_open h0
      obtain ⟨d, e1⟩ := due_of_struct h1
      obtain ⟨z2, e2, -, -⟩ := DataW.trod_int Try.underlying3 h2
      obtain ⟨z3, e3, -, -⟩ := DataW.trod_int Try.underlying3 h3
      subst e0
      cases e1
      cases e2
      cases e3
      exact ⟨A, l, cap, d.a, d.i, z2, z3, rfl, hi⟩
set_option maxRecDepth 100000 in
theorem beatDuesIn_open {H : Type} {enc : TypeId × Value → H} {W : World} {r : Reach} {b0 : Nat} {v : Value} {d : DataW H} {p : List MemPlace}
    (hv : Value.okWide Try.prog W r b0 26 v) (h : DataW.Trod enc Try.prog W 0 (fun _ => true) true 26 v d p) : ∃ (A : Option Addr) (l : List DP) (cap : Nat) (a i id now : Int), v = .agg #[.slice A l.length cap, .int .i64 a, .int .i64 i, .int .i64 id, .int .i64 now] ∧ InD W A cap l := by
  obtain ⟨cs, rfl, hsz⟩ := okWide_struct Try.underlying26 hv
  obtain ⟨fuel, hf0⟩ := h
  obtain ⟨cl⟩ := cs
  obtain ⟨A, l, cap, a, i, id, now, e, hi⟩ := beatDuesIn_of_struct (cs := cl) (x := (d, p)) hf0
  subst e
  exact ⟨A, l, cap, a, i, id, now, rfl, hi⟩
end Go.Proofs.Ytlbmkokdoigcnaa
