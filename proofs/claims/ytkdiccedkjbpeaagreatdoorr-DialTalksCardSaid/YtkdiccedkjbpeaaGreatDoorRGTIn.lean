/-
  Structs that came in, taken apart: their cells, and what their leaves are within the reach of the reading. No condition.
-/
import Derived.Lib.SmallJoins
import Derived.Test.YtkdiccedkjbpeaaGreatDoorRGLaw
namespace Go.Proofs.YtkdiccedkjbpeaaGreatDoorR
open Go.RowKit Go.ChangeShapes Go.WideShapes Go.Deep Go.Joins

set_option maxRecDepth 100000 in
theorem tune_of_struct {H : Type} {enc : TypeId × Value → H} {W : World} {fuel : Nat} {cs : List Value} {x : DataW H × List MemPlace}
    (h : DataW.trod enc Tryz.prog W 0 (fun _ => true) true fuel 23 cs = some x) : ∃ (x0 : Int) (x1 : Int) (x2 : Int), cs = [.int .i64 x0, .int .i64 x1, .int .i64 x2] ∧ (-9223372036854775808 ≤ x0 ∧ x0 ≤ 9223372036854775807) ∧ (-9223372036854775808 ≤ x1 ∧ x1 ≤ 9223372036854775807) ∧ (-9223372036854775808 ≤ x2 ∧ x2 ≤ 9223372036854775807) ∧ ∀ R : Nat, (x.1.weights Tryz.prog 23).all (· ≤ R) = true → True := by
  obtain ⟨xs, n, -, hx, hlen, hxl, hf⟩ := DataW.trod_struct Tryz.underlying23 h
  have hC : Tryz.prog.cellsOf 23 = 3 := by kernel_rfl
  have k0 : Tryz.prog.cellsOf 3 = 1 := by kernel_rfl
  have k1 : Tryz.prog.cellsOf 3 = 1 := by kernel_rfl
  have k2 : Tryz.prog.cellsOf 3 = 1 := by kernel_rfl
  rw [hC] at hlen
  match cs, hlen with
  | [y0, y1, y2], _ =>
    have h0 : DataW.trod enc Tryz.prog W 0 (fun _ => true) true n 3 ([y0, y1, y2].take (Tryz.prog.cellsOf 3)) = xs[0]? := hf 0 _ rfl
    rw [k0] at h0
    have h1 : DataW.trod enc Tryz.prog W 0 (fun _ => true) true n 3 ([y1, y2].take (Tryz.prog.cellsOf 3)) = xs[1]? := hf 1 _ rfl
    rw [k1] at h1
    have h2 : DataW.trod enc Tryz.prog W 0 (fun _ => true) true n 3 ([y2].take (Tryz.prog.cellsOf 3)) = xs[2]? := hf 2 _ rfl
    rw [k2] at h2
    simp only [List.take_succ_cons, List.take_zero] at h0 h1 h2
    match xs, hxl with
    | [x0, x1, x2], _ =>
      simp only [List.getElem?_cons_zero, List.getElem?_cons_succ] at h0 h1 h2
      obtain ⟨z0, e0, -, w0⟩ := DataW.trod_int Tryz.underlying3 h0
      have b0 := bounds_i64 w0
      obtain ⟨z1, e1, -, w1⟩ := DataW.trod_int Tryz.underlying3 h1
      have b1 := bounds_i64 w1
      obtain ⟨z2, e2, -, w2⟩ := DataW.trod_int Tryz.underlying3 h2
      have b2 := bounds_i64 w2
      cases e0
      cases e1
      cases e2
      exact ⟨z0, z1, z2, rfl, ⟨by omega, by omega⟩, ⟨by omega, by omega⟩, ⟨by omega, by omega⟩, fun _ _ => trivial⟩
set_option maxRecDepth 100000 in
theorem dialTalksIn_of_struct {H : Type} {enc : TypeId × Value → H} {W : World} {fuel : Nat} {cs : List Value} {x : DataW H × List MemPlace}
    (h : DataW.trod enc Tryz.prog W 0 (fun _ => true) true fuel 25 cs = some x) : ∃ (x0_0 : Int) (x0_1 : Int) (x0_2 : Int) (x1_0 : Int) (x1_1 : Int) (x1_2 : Int) (x2 : ByteArray) (x3 : ByteArray) (x4 : ByteArray), cs = [.int .i64 x0_0, .int .i64 x0_1, .int .i64 x0_2, .int .i64 x1_0, .int .i64 x1_1, .int .i64 x1_2, .string x2, .string x3, .string x4] ∧ (-9223372036854775808 ≤ x0_0 ∧ x0_0 ≤ 9223372036854775807) ∧ (-9223372036854775808 ≤ x0_1 ∧ x0_1 ≤ 9223372036854775807) ∧ (-9223372036854775808 ≤ x0_2 ∧ x0_2 ≤ 9223372036854775807) ∧ (-9223372036854775808 ≤ x1_0 ∧ x1_0 ≤ 9223372036854775807) ∧ (-9223372036854775808 ≤ x1_1 ∧ x1_1 ≤ 9223372036854775807) ∧ (-9223372036854775808 ≤ x1_2 ∧ x1_2 ≤ 9223372036854775807) ∧ ∀ R : Nat, (x.1.weights Tryz.prog 25).all (· ≤ R) = true → x2.size ≤ R ∧ x3.size ≤ R ∧ x4.size ≤ R := by
  obtain ⟨xs, n, -, hx, hlen, hxl, hf⟩ := DataW.trod_struct Tryz.underlying25 h
  have hC : Tryz.prog.cellsOf 25 = 9 := by kernel_rfl
  have k0 : Tryz.prog.cellsOf 23 = 3 := by kernel_rfl
  have k1 : Tryz.prog.cellsOf 23 = 3 := by kernel_rfl
  have k2 : Tryz.prog.cellsOf 9 = 1 := by kernel_rfl
  have k3 : Tryz.prog.cellsOf 9 = 1 := by kernel_rfl
  have k4 : Tryz.prog.cellsOf 9 = 1 := by kernel_rfl
  rw [hC] at hlen
  match cs, hlen with
  | [y0, y1, y2, y3, y4, y5, y6, y7, y8], _ =>
    have h0 : DataW.trod enc Tryz.prog W 0 (fun _ => true) true n 23 ([y0, y1, y2, y3, y4, y5, y6, y7, y8].take (Tryz.prog.cellsOf 23)) = xs[0]? := hf 0 _ rfl
    rw [k0] at h0
    have h1 : DataW.trod enc Tryz.prog W 0 (fun _ => true) true n 23 ([y3, y4, y5, y6, y7, y8].take (Tryz.prog.cellsOf 23)) = xs[1]? := hf 1 _ rfl
    rw [k1] at h1
    have h2 : DataW.trod enc Tryz.prog W 0 (fun _ => true) true n 9 ([y6, y7, y8].take (Tryz.prog.cellsOf 9)) = xs[2]? := hf 2 _ rfl
    rw [k2] at h2
    have h3 : DataW.trod enc Tryz.prog W 0 (fun _ => true) true n 9 ([y7, y8].take (Tryz.prog.cellsOf 9)) = xs[3]? := hf 3 _ rfl
    rw [k3] at h3
    have h4 : DataW.trod enc Tryz.prog W 0 (fun _ => true) true n 9 ([y8].take (Tryz.prog.cellsOf 9)) = xs[4]? := hf 4 _ rfl
    rw [k4] at h4
    simp only [List.take_succ_cons, List.take_zero] at h0 h1 h2 h3 h4
    match xs, hxl with
    | [x0, x1, x2, x3, x4], _ =>
      simp only [List.getElem?_cons_zero, List.getElem?_cons_succ] at h0 h1 h2 h3 h4
      obtain ⟨s0_0, s0_1, s0_2, e0, g0_0, g0_1, g0_2, q0⟩ := tune_of_struct h0
      obtain ⟨s1_0, s1_1, s1_2, e1, g1_0, g1_1, g1_2, q1⟩ := tune_of_struct h1
      obtain ⟨z2, e2, hd2, -⟩ := DataW.trod_string Tryz.underlying9 h2
      obtain ⟨z3, e3, hd3, -⟩ := DataW.trod_string Tryz.underlying9 h3
      obtain ⟨z4, e4, hd4, -⟩ := DataW.trod_string Tryz.underlying9 h4
      cases e0
      cases e1
      cases e2
      cases e3
      cases e4
      refine ⟨s0_0, s0_1, s0_2, s1_0, s1_1, s1_2, z2, z3, z4, rfl, g0_0, g0_1, g0_2, g1_0, g1_1, g1_2, fun R hR => ?_⟩
      rw [hx] at hR
      have hR' : (DataW.weightsEach Tryz.prog [23, 23, 9, 9, 9] [x0.1, x1.1, x2.1, x3.1, x4.1]).all (· ≤ R) = true := by
        have := hR
        simp only [DataW.weights, Tryz.underlying25, List.map_cons, List.map_nil] at this
        exact this
      simp only [DataW.weightsEach, List.all_append, Bool.and_eq_true] at hR'
      have r2 : z2.size ≤ R := by
        have h2 := hR'.2.2.1
        rw [hd2] at h2
        simpa [DataW.weights] using h2
      have r3 : z3.size ≤ R := by
        have h2 := hR'.2.2.2.1
        rw [hd3] at h2
        simpa [DataW.weights] using h2
      have r4 : z4.size ≤ R := by
        have h2 := hR'.2.2.2.2.1
        rw [hd4] at h2
        simpa [DataW.weights] using h2
      exact ⟨r2, r3, r4⟩
set_option maxRecDepth 100000 in
theorem dialTalksIn_open {H : Type} {enc : TypeId × Value → H} {W : World} {r : Reach} {b0 : Nat} {v : Value} {d : DataW H} {p : List MemPlace}
    (hv : Value.okWide Tryz.prog W r b0 25 v) (h : DataW.Trod enc Tryz.prog W 0 (fun _ => true) true 25 v d p) : ∃ (x0_0 : Int) (x0_1 : Int) (x0_2 : Int) (x1_0 : Int) (x1_1 : Int) (x1_2 : Int) (x2 : ByteArray) (x3 : ByteArray) (x4 : ByteArray), v = .agg #[.int .i64 x0_0, .int .i64 x0_1, .int .i64 x0_2, .int .i64 x1_0, .int .i64 x1_1, .int .i64 x1_2, .string x2, .string x3, .string x4] ∧ (-9223372036854775808 ≤ x0_0 ∧ x0_0 ≤ 9223372036854775807) ∧ (-9223372036854775808 ≤ x0_1 ∧ x0_1 ≤ 9223372036854775807) ∧ (-9223372036854775808 ≤ x0_2 ∧ x0_2 ≤ 9223372036854775807) ∧ (-9223372036854775808 ≤ x1_0 ∧ x1_0 ≤ 9223372036854775807) ∧ (-9223372036854775808 ≤ x1_1 ∧ x1_1 ≤ 9223372036854775807) ∧ (-9223372036854775808 ≤ x1_2 ∧ x1_2 ≤ 9223372036854775807) ∧ ∀ R : Nat, (d.weights Tryz.prog 25).all (· ≤ R) = true → x2.size ≤ R ∧ x3.size ≤ R ∧ x4.size ≤ R := by
  obtain ⟨cs, rfl, hsz⟩ := okWide_struct Tryz.underlying25 hv
  obtain ⟨fuel, hf0⟩ := h
  obtain ⟨cl⟩ := cs
  obtain ⟨s0, s1, s2, s3, s4, s5, s6, s7, s8, e, g0, g1, g2, g3, g4, g5, q⟩ := dialTalksIn_of_struct (cs := cl) (x := (d, p)) hf0
  subst e
  exact ⟨s0, s1, s2, s3, s4, s5, s6, s7, s8, rfl, g0, g1, g2, g3, g4, g5, q⟩
end Go.Proofs.YtkdiccedkjbpeaaGreatDoorR
