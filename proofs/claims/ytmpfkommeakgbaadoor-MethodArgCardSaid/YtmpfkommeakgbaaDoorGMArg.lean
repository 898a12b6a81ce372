/-
  What MethodArg is asked of, as it came in: a method, a number, a value and a number. No condition.
-/
import Derived.Lib.SmallJoins
import Derived.Test.YtmpfkommeakgbaaDoorGMeth
namespace Go.Proofs.YtmpfkommeakgbaaDoor
open Go.RowKit Go.ChangeShapes Go.WideShapes Go.Deep Go.Joins

set_option maxRecDepth 100000 in
theorem method_of_struct {H : Type} {enc : TypeId × Value → H} {W : World} {fuel : Nat} {cs : List Value} {x : DataW H × List MemPlace}
    (h : DataW.trod enc Tryd.prog W 0 (fun _ => true) true fuel 24 cs = some x) : ∃ (c j : Int) (A : Option Addr) (l : List MV) (cap : Nat), cs = [.int .i64 c, .int .i64 j, .slice A l.length cap] ∧ ValsAt W A (rowV l) ∧ (A = none → l.length = 0 ∧ cap = 0) ∧ ∀ R : Nat, (x.1.weights Tryd.prog 24).all (· ≤ R) = true → l.length * 24 ≤ R := by
  obtain ⟨xs, n, -, hx, hlen, hxl, hf⟩ := DataW.trod_struct Tryd.underlying24 h
  have hC : Tryd.prog.cellsOf 24 = 3 := by kernel_rfl
  have hi1 : Tryd.prog.cellsOf 3 = 1 := by kernel_rfl
  have hs1 : Tryd.prog.cellsOf 22 = 1 := by kernel_rfl
  rw [hC] at hlen
  match cs, hlen with
  | [a, b, c], _ =>
    have h0 : DataW.trod enc Tryd.prog W 0 (fun _ => true) true n 3 ([a, b, c].take (Tryd.prog.cellsOf 3)) = xs[0]? := hf 0 _ rfl
    have h1 : DataW.trod enc Tryd.prog W 0 (fun _ => true) true n 3 ([b, c].take (Tryd.prog.cellsOf 3)) = xs[1]? := hf 1 _ rfl
    have h2 : DataW.trod enc Tryd.prog W 0 (fun _ => true) true n 22 ([c].take (Tryd.prog.cellsOf 22)) = xs[2]? := hf 2 _ rfl
    rw [hi1] at h0 h1
    rw [hs1] at h2
    simp only [List.take_succ_cons, List.take_zero] at h0 h1 h2
    match xs, hxl with
    | [x0, x1, x2], _ =>
      simp only [List.getElem?_cons_zero, List.getElem?_cons_succ] at h0 h1 h2
      obtain ⟨t, e0, -, -⟩ := DataW.trod_int Tryd.underlying3 h0
      obtain ⟨u, e1, -, -⟩ := DataW.trod_int Tryd.underlying3 h1
      obtain ⟨A, l, cap, e2, hV, hn, hq⟩ := vals_open h2
      cases e0
      cases e1
      subst e2
      refine ⟨t, u, A, l, cap, rfl, hV, hn, fun R hR => ?_⟩
      rw [hx] at hR
      have hR' : (DataW.weightsEach Tryd.prog [3, 3, 22] [x0.1, x1.1, x2.1]).all (· ≤ R) = true := by
        have := hR
        simp only [DataW.weights, Tryd.underlying24, List.map_cons, List.map_nil] at this
        exact this
      simp only [DataW.weightsEach, List.all_append, Bool.and_eq_true] at hR'
      exact (hq R hR'.2.2.1).1
set_option maxRecDepth 100000 in
theorem argIn_open {H : Type} {enc : TypeId × Value → H} {W : World} {r : Reach} {b0 : Nat} {v : Value} {d : DataW H} {p : List MemPlace}
    (hv : Value.okWide Tryd.prog W r b0 46 v) (h : DataW.Trod enc Tryd.prog W 0 (fun _ => true) true 46 v d p) :
    ∃ (c j : Int) (A : Option Addr) (l : List MV) (cap : Nat) (i : Int) (x : MV) (k : Int), v = .agg #[.int .i64 c, .int .i64 j, .slice A l.length cap, .int .i64 i, .int .u64 x.n, .string x.s, .int .i64 k] ∧ ValsAt W A (rowV l) ∧ (A = none → l.length = 0 ∧ cap = 0) ∧ ∀ R : Nat, (d.weights Tryd.prog 46).all (· ≤ R) = true → l.length * 24 ≤ R := by
  obtain ⟨cs, rfl, hsz⟩ := okWide_struct Tryd.underlying46 hv
  obtain ⟨fuel, hf0⟩ := h
  obtain ⟨xs, n, -, hx, hlen, hxl, hf⟩ := DataW.trod_struct Tryd.underlying46 hf0
  have hC : Tryd.prog.cellsOf 46 = 7 := by kernel_rfl
  have hm1 : Tryd.prog.cellsOf 24 = 3 := by kernel_rfl
  have hv1 : Tryd.prog.cellsOf 27 = 2 := by kernel_rfl
  have hi1 : Tryd.prog.cellsOf 3 = 1 := by kernel_rfl
  obtain ⟨cl⟩ := cs
  have hl7 : cl.length = 7 := by rw [hC] at hsz; simpa using hsz
  match cl, hl7 with
  | [c0, c1, c2, c3, c4, c5, c6], _ =>
    have h0 : DataW.trod enc Tryd.prog W 0 (fun _ => true) true n 24 ([c0, c1, c2, c3, c4, c5, c6].take (Tryd.prog.cellsOf 24)) = xs[0]? := hf 0 _ rfl
    have h1 : DataW.trod enc Tryd.prog W 0 (fun _ => true) true n 3 ([c3, c4, c5, c6].take (Tryd.prog.cellsOf 3)) = xs[1]? := hf 1 _ rfl
    have h2 : DataW.trod enc Tryd.prog W 0 (fun _ => true) true n 27 ([c4, c5, c6].take (Tryd.prog.cellsOf 27)) = xs[2]? := hf 2 _ rfl
    have h3 : DataW.trod enc Tryd.prog W 0 (fun _ => true) true n 3 ([c6].take (Tryd.prog.cellsOf 3)) = xs[3]? := hf 3 _ rfl
    rw [hm1] at h0
    rw [hi1] at h1 h3
    rw [hv1] at h2
    simp only [List.take_succ_cons, List.take_zero] at h0 h1 h2 h3
    match xs, hxl with
    | [x0, x1, x2, x3], _ =>
      simp only [List.getElem?_cons_zero, List.getElem?_cons_succ] at h0 h1 h2 h3
      obtain ⟨c, j, A, l, cap, e0, hV, hn, hq⟩ := method_of_struct h0
      obtain ⟨i, e1, -, -⟩ := DataW.trod_int Tryd.underlying3 h1
      obtain ⟨x, e2, -, -⟩ := val_of_struct h2
      obtain ⟨k, e3, -, -⟩ := DataW.trod_int Tryd.underlying3 h3
      cases e0
      cases e1
      cases e2
      cases e3
      refine ⟨c, j, A, l, cap, i, x, k, rfl, hV, hn, fun R hR => ?_⟩
      simp only [Prod.mk.injEq] at hx
      rw [hx.1] at hR
      have hR' : (DataW.weightsEach Tryd.prog [24, 3, 27, 3] [x0.1, x1.1, x2.1, x3.1]).all (· ≤ R) = true := by
        have := hR
        simp only [DataW.weights, Tryd.underlying46, List.map_cons, List.map_nil] at this
        exact this
      simp only [DataW.weightsEach, List.all_append, Bool.and_eq_true] at hR'
      exact hq R hR'.1
end Go.Proofs.YtmpfkommeakgbaaDoor
