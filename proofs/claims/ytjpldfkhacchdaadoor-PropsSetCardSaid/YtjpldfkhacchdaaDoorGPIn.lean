/-
  Structs that came in, taken apart: their cells, and what their leaves are within the reach of the reading. No condition.
-/
import Derived.Lib.SmallJoins
import Derived.Test.YtjpldfkhacchdaaDoorGMeth
namespace Go.Proofs.YtjpldfkhacchdaaDoor
open Go.RowKit Go.ChangeShapes Go.WideShapes Go.Deep Go.Joins

set_option maxRecDepth 100000 in
theorem head_of_struct {H : Type} {enc : TypeId × Value → H} {W : World} {fuel : Nat} {cs : List Value} {x : DataW H × List MemPlace}
    (h : DataW.trod enc Tryd.prog W 0 (fun _ => true) true fuel 25 cs = some x) : ∃ (x0 : Int) (x1 : Int) (x2 : Int) (A3 : Option Addr) (x3 : List MV) (c3 : Nat), cs = [.int .i64 x0, .int .u64 x1, .int .u64 x2, .slice A3 x3.length c3] ∧ (-9223372036854775808 ≤ x0 ∧ x0 ≤ 9223372036854775807) ∧ (0 ≤ x1 ∧ x1 < 18446744073709551616) ∧ (0 ≤ x2 ∧ x2 < 18446744073709551616) ∧ ValsAt W A3 (rowV x3) ∧ (A3 = none → x3.length = 0 ∧ c3 = 0) ∧ ∀ R : Nat, (x.1.weights Tryd.prog 25).all (· ≤ R) = true → (x3.length * 24 ≤ R ∧ ∀ u ∈ x3, (0 ≤ u.n ∧ u.n < 18446744073709551616) ∧ u.s.size ≤ R) := by
  obtain ⟨xs, n, -, hx, hlen, hxl, hf⟩ := DataW.trod_struct Tryd.underlying25 h
  have hC : Tryd.prog.cellsOf 25 = 4 := by kernel_rfl
  have k0 : Tryd.prog.cellsOf 3 = 1 := by kernel_rfl
  have k1 : Tryd.prog.cellsOf 22 = 1 := by kernel_rfl
  have k2 : Tryd.prog.cellsOf 22 = 1 := by kernel_rfl
  have k3 : Tryd.prog.cellsOf 23 = 1 := by kernel_rfl
  rw [hC] at hlen
  match cs, hlen with
  | [y0, y1, y2, y3], _ =>
    have h0 : DataW.trod enc Tryd.prog W 0 (fun _ => true) true n 3 ([y0, y1, y2, y3].take (Tryd.prog.cellsOf 3)) = xs[0]? := hf 0 _ rfl
    rw [k0] at h0
    have h1 : DataW.trod enc Tryd.prog W 0 (fun _ => true) true n 22 ([y1, y2, y3].take (Tryd.prog.cellsOf 22)) = xs[1]? := hf 1 _ rfl
    rw [k1] at h1
    have h2 : DataW.trod enc Tryd.prog W 0 (fun _ => true) true n 22 ([y2, y3].take (Tryd.prog.cellsOf 22)) = xs[2]? := hf 2 _ rfl
    rw [k2] at h2
    have h3 : DataW.trod enc Tryd.prog W 0 (fun _ => true) true n 23 ([y3].take (Tryd.prog.cellsOf 23)) = xs[3]? := hf 3 _ rfl
    rw [k3] at h3
    simp only [List.take_succ_cons, List.take_zero] at h0 h1 h2 h3
    match xs, hxl with
    | [x0, x1, x2, x3], _ =>
      simp only [List.getElem?_cons_zero, List.getElem?_cons_succ] at h0 h1 h2 h3
      obtain ⟨z0, e0, -, w0⟩ := DataW.trod_int Tryd.underlying3 h0
      have b0 := bounds_i64 w0
      obtain ⟨z1, e1, -, w1⟩ := DataW.trod_int Tryd.underlying22 h1
      have b1 := bounds_u64 w1
      obtain ⟨z2, e2, -, w2⟩ := DataW.trod_int Tryd.underlying22 h2
      have b2 := bounds_u64 w2
      obtain ⟨A3, z3, c3, e3, p3, n3, q3⟩ := vals_open h3
      cases e0
      cases e1
      cases e2
      subst e3
      refine ⟨z0, z1, z2, A3, z3, c3, rfl, ⟨by omega, by omega⟩, ⟨by omega, by omega⟩, ⟨by omega, by omega⟩, p3, n3, fun R hR => ?_⟩
      rw [hx] at hR
      have hR' : (DataW.weightsEach Tryd.prog [3, 22, 22, 23] [x0.1, x1.1, x2.1, x3.1]).all (· ≤ R) = true := by
        have := hR
        simp only [DataW.weights, Tryd.underlying25, List.map_cons, List.map_nil] at this
        exact this
      simp only [DataW.weightsEach, List.all_append, Bool.and_eq_true] at hR'
      exact q3 R hR'.2.2.2.1
set_option maxRecDepth 100000 in
theorem propsSetIn_of_struct {H : Type} {enc : TypeId × Value → H} {W : World} {fuel : Nat} {cs : List Value} {x : DataW H × List MemPlace}
    (h : DataW.trod enc Tryd.prog W 0 (fun _ => true) true fuel 48 cs = some x) : ∃ (x0_0 : Int) (x0_1 : Int) (x0_2 : Int) (A0_3 : Option Addr) (x0_3 : List MV) (c0_3 : Nat) (x1 : Int) (x2 : MV) (x3 : Int), cs = [.int .i64 x0_0, .int .u64 x0_1, .int .u64 x0_2, .slice A0_3 x0_3.length c0_3, .int .i64 x1, .int .u64 x2.n, .string x2.s, .int .i64 x3] ∧ (-9223372036854775808 ≤ x0_0 ∧ x0_0 ≤ 9223372036854775807) ∧ (0 ≤ x0_1 ∧ x0_1 < 18446744073709551616) ∧ (0 ≤ x0_2 ∧ x0_2 < 18446744073709551616) ∧ ValsAt W A0_3 (rowV x0_3) ∧ (A0_3 = none → x0_3.length = 0 ∧ c0_3 = 0) ∧ (-9223372036854775808 ≤ x1 ∧ x1 ≤ 9223372036854775807) ∧ (0 ≤ x2.n ∧ x2.n < 18446744073709551616) ∧ (-9223372036854775808 ≤ x3 ∧ x3 ≤ 9223372036854775807) ∧ ∀ R : Nat, (x.1.weights Tryd.prog 48).all (· ≤ R) = true → (x0_3.length * 24 ≤ R ∧ ∀ u ∈ x0_3, (0 ≤ u.n ∧ u.n < 18446744073709551616) ∧ u.s.size ≤ R) ∧ x2.s.size ≤ R := by
  obtain ⟨xs, n, -, hx, hlen, hxl, hf⟩ := DataW.trod_struct Tryd.underlying48 h
  have hC : Tryd.prog.cellsOf 48 = 8 := by kernel_rfl
  have k0 : Tryd.prog.cellsOf 25 = 4 := by kernel_rfl
  have k1 : Tryd.prog.cellsOf 3 = 1 := by kernel_rfl
  have k2 : Tryd.prog.cellsOf 40 = 2 := by kernel_rfl
  have k3 : Tryd.prog.cellsOf 3 = 1 := by kernel_rfl
  rw [hC] at hlen
  match cs, hlen with
  | [y0, y1, y2, y3, y4, y5, y6, y7], _ =>
    have h0 : DataW.trod enc Tryd.prog W 0 (fun _ => true) true n 25 ([y0, y1, y2, y3, y4, y5, y6, y7].take (Tryd.prog.cellsOf 25)) = xs[0]? := hf 0 _ rfl
    rw [k0] at h0
    have h1 : DataW.trod enc Tryd.prog W 0 (fun _ => true) true n 3 ([y4, y5, y6, y7].take (Tryd.prog.cellsOf 3)) = xs[1]? := hf 1 _ rfl
    rw [k1] at h1
    have h2 : DataW.trod enc Tryd.prog W 0 (fun _ => true) true n 40 ([y5, y6, y7].take (Tryd.prog.cellsOf 40)) = xs[2]? := hf 2 _ rfl
    rw [k2] at h2
    have h3 : DataW.trod enc Tryd.prog W 0 (fun _ => true) true n 3 ([y7].take (Tryd.prog.cellsOf 3)) = xs[3]? := hf 3 _ rfl
    rw [k3] at h3
    simp only [List.take_succ_cons, List.take_zero] at h0 h1 h2 h3
    match xs, hxl with
    | [x0, x1, x2, x3], _ =>
      simp only [List.getElem?_cons_zero, List.getElem?_cons_succ] at h0 h1 h2 h3
      obtain ⟨s0_0, s0_1, s0_2, s0_3, s0_4, s0_5, e0, g0_0, g0_1, g0_2, g0_3, g0_4, q0⟩ := head_of_struct h0
      obtain ⟨z1, e1, -, w1⟩ := DataW.trod_int Tryd.underlying3 h1
      have b1 := bounds_i64 w1
      obtain ⟨z2, e2, b2, q2⟩ := val_of_struct h2
      obtain ⟨z3, e3, -, w3⟩ := DataW.trod_int Tryd.underlying3 h3
      have b3 := bounds_i64 w3
      cases e0
      cases e1
      cases e2
      cases e3
      refine ⟨s0_0, s0_1, s0_2, s0_3, s0_4, s0_5, z1, z2, z3, rfl, g0_0, g0_1, g0_2, g0_3, g0_4, ⟨by omega, by omega⟩, b2, ⟨by omega, by omega⟩, fun R hR => ?_⟩
      rw [hx] at hR
      have hR' : (DataW.weightsEach Tryd.prog [25, 3, 40, 3] [x0.1, x1.1, x2.1, x3.1]).all (· ≤ R) = true := by
        have := hR
        simp only [DataW.weights, Tryd.underlying48, List.map_cons, List.map_nil] at this
        exact this
      simp only [DataW.weightsEach, List.all_append, Bool.and_eq_true] at hR'
      have r0 := q0 R hR'.1
      exact ⟨r0, q2 R hR'.2.2.1⟩
set_option maxRecDepth 100000 in
theorem propsSetIn_open {H : Type} {enc : TypeId × Value → H} {W : World} {r : Reach} {b0 : Nat} {v : Value} {d : DataW H} {p : List MemPlace}
    (hv : Value.okWide Tryd.prog W r b0 48 v) (h : DataW.Trod enc Tryd.prog W 0 (fun _ => true) true 48 v d p) : ∃ (x0_0 : Int) (x0_1 : Int) (x0_2 : Int) (A0_3 : Option Addr) (x0_3 : List MV) (c0_3 : Nat) (x1 : Int) (x2 : MV) (x3 : Int), v = .agg #[.int .i64 x0_0, .int .u64 x0_1, .int .u64 x0_2, .slice A0_3 x0_3.length c0_3, .int .i64 x1, .int .u64 x2.n, .string x2.s, .int .i64 x3] ∧ (-9223372036854775808 ≤ x0_0 ∧ x0_0 ≤ 9223372036854775807) ∧ (0 ≤ x0_1 ∧ x0_1 < 18446744073709551616) ∧ (0 ≤ x0_2 ∧ x0_2 < 18446744073709551616) ∧ ValsAt W A0_3 (rowV x0_3) ∧ (A0_3 = none → x0_3.length = 0 ∧ c0_3 = 0) ∧ (-9223372036854775808 ≤ x1 ∧ x1 ≤ 9223372036854775807) ∧ (0 ≤ x2.n ∧ x2.n < 18446744073709551616) ∧ (-9223372036854775808 ≤ x3 ∧ x3 ≤ 9223372036854775807) ∧ ∀ R : Nat, (d.weights Tryd.prog 48).all (· ≤ R) = true → (x0_3.length * 24 ≤ R ∧ ∀ u ∈ x0_3, (0 ≤ u.n ∧ u.n < 18446744073709551616) ∧ u.s.size ≤ R) ∧ x2.s.size ≤ R := by
  obtain ⟨cs, rfl, hsz⟩ := okWide_struct Tryd.underlying48 hv
  obtain ⟨fuel, hf0⟩ := h
  obtain ⟨cl⟩ := cs
  obtain ⟨s0, s1, s2, s3, s4, s5, s6, s7, s8, e, g0, g1, g2, g3, g4, g5, g6, g7, q⟩ := propsSetIn_of_struct (cs := cl) (x := (d, p)) hf0
  subst e
  exact ⟨s0, s1, s2, s3, s4, s5, s6, s7, s8, rfl, g0, g1, g2, g3, g4, g5, g6, g7, q⟩
set_option maxRecDepth 100000 in
theorem propsTwoIn_of_struct {H : Type} {enc : TypeId × Value → H} {W : World} {fuel : Nat} {cs : List Value} {x : DataW H × List MemPlace}
    (h : DataW.trod enc Tryd.prog W 0 (fun _ => true) true fuel 51 cs = some x) : ∃ (x0_0 : Int) (x0_1 : Int) (x0_2 : Int) (A0_3 : Option Addr) (x0_3 : List MV) (c0_3 : Nat) (x1 : Int) (x2 : MV) (x3 : Int) (x4 : MV), cs = [.int .i64 x0_0, .int .u64 x0_1, .int .u64 x0_2, .slice A0_3 x0_3.length c0_3, .int .i64 x1, .int .u64 x2.n, .string x2.s, .int .i64 x3, .int .u64 x4.n, .string x4.s] ∧ (-9223372036854775808 ≤ x0_0 ∧ x0_0 ≤ 9223372036854775807) ∧ (0 ≤ x0_1 ∧ x0_1 < 18446744073709551616) ∧ (0 ≤ x0_2 ∧ x0_2 < 18446744073709551616) ∧ ValsAt W A0_3 (rowV x0_3) ∧ (A0_3 = none → x0_3.length = 0 ∧ c0_3 = 0) ∧ (-9223372036854775808 ≤ x1 ∧ x1 ≤ 9223372036854775807) ∧ (0 ≤ x2.n ∧ x2.n < 18446744073709551616) ∧ (-9223372036854775808 ≤ x3 ∧ x3 ≤ 9223372036854775807) ∧ (0 ≤ x4.n ∧ x4.n < 18446744073709551616) ∧ ∀ R : Nat, (x.1.weights Tryd.prog 51).all (· ≤ R) = true → (x0_3.length * 24 ≤ R ∧ ∀ u ∈ x0_3, (0 ≤ u.n ∧ u.n < 18446744073709551616) ∧ u.s.size ≤ R) ∧ x2.s.size ≤ R ∧ x4.s.size ≤ R := by
  obtain ⟨xs, n, -, hx, hlen, hxl, hf⟩ := DataW.trod_struct Tryd.underlying51 h
  have hC : Tryd.prog.cellsOf 51 = 10 := by kernel_rfl
  have k0 : Tryd.prog.cellsOf 25 = 4 := by kernel_rfl
  have k1 : Tryd.prog.cellsOf 3 = 1 := by kernel_rfl
  have k2 : Tryd.prog.cellsOf 40 = 2 := by kernel_rfl
  have k3 : Tryd.prog.cellsOf 3 = 1 := by kernel_rfl
  have k4 : Tryd.prog.cellsOf 40 = 2 := by kernel_rfl
  rw [hC] at hlen
  match cs, hlen with
  | [y0, y1, y2, y3, y4, y5, y6, y7, y8, y9], _ =>
    have h0 : DataW.trod enc Tryd.prog W 0 (fun _ => true) true n 25 ([y0, y1, y2, y3, y4, y5, y6, y7, y8, y9].take (Tryd.prog.cellsOf 25)) = xs[0]? := hf 0 _ rfl
    rw [k0] at h0
    have h1 : DataW.trod enc Tryd.prog W 0 (fun _ => true) true n 3 ([y4, y5, y6, y7, y8, y9].take (Tryd.prog.cellsOf 3)) = xs[1]? := hf 1 _ rfl
    rw [k1] at h1
    have h2 : DataW.trod enc Tryd.prog W 0 (fun _ => true) true n 40 ([y5, y6, y7, y8, y9].take (Tryd.prog.cellsOf 40)) = xs[2]? := hf 2 _ rfl
    rw [k2] at h2
    have h3 : DataW.trod enc Tryd.prog W 0 (fun _ => true) true n 3 ([y7, y8, y9].take (Tryd.prog.cellsOf 3)) = xs[3]? := hf 3 _ rfl
    rw [k3] at h3
    have h4 : DataW.trod enc Tryd.prog W 0 (fun _ => true) true n 40 ([y8, y9].take (Tryd.prog.cellsOf 40)) = xs[4]? := hf 4 _ rfl
    rw [k4] at h4
    simp only [List.take_succ_cons, List.take_zero] at h0 h1 h2 h3 h4
    match xs, hxl with
    | [x0, x1, x2, x3, x4], _ =>
      simp only [List.getElem?_cons_zero, List.getElem?_cons_succ] at h0 h1 h2 h3 h4
      obtain ⟨s0_0, s0_1, s0_2, s0_3, s0_4, s0_5, e0, g0_0, g0_1, g0_2, g0_3, g0_4, q0⟩ := head_of_struct h0
      obtain ⟨z1, e1, -, w1⟩ := DataW.trod_int Tryd.underlying3 h1
      have b1 := bounds_i64 w1
      obtain ⟨z2, e2, b2, q2⟩ := val_of_struct h2
      obtain ⟨z3, e3, -, w3⟩ := DataW.trod_int Tryd.underlying3 h3
      have b3 := bounds_i64 w3
      obtain ⟨z4, e4, b4, q4⟩ := val_of_struct h4
      cases e0
      cases e1
      cases e2
      cases e3
      cases e4
      refine ⟨s0_0, s0_1, s0_2, s0_3, s0_4, s0_5, z1, z2, z3, z4, rfl, g0_0, g0_1, g0_2, g0_3, g0_4, ⟨by omega, by omega⟩, b2, ⟨by omega, by omega⟩, b4, fun R hR => ?_⟩
      rw [hx] at hR
      have hR' : (DataW.weightsEach Tryd.prog [25, 3, 40, 3, 40] [x0.1, x1.1, x2.1, x3.1, x4.1]).all (· ≤ R) = true := by
        have := hR
        simp only [DataW.weights, Tryd.underlying51, List.map_cons, List.map_nil] at this
        exact this
      simp only [DataW.weightsEach, List.all_append, Bool.and_eq_true] at hR'
      have r0 := q0 R hR'.1
      exact ⟨r0, q2 R hR'.2.2.1, q4 R hR'.2.2.2.2.1⟩
set_option maxRecDepth 100000 in
theorem propsTwoIn_open {H : Type} {enc : TypeId × Value → H} {W : World} {r : Reach} {b0 : Nat} {v : Value} {d : DataW H} {p : List MemPlace}
    (hv : Value.okWide Tryd.prog W r b0 51 v) (h : DataW.Trod enc Tryd.prog W 0 (fun _ => true) true 51 v d p) : ∃ (x0_0 : Int) (x0_1 : Int) (x0_2 : Int) (A0_3 : Option Addr) (x0_3 : List MV) (c0_3 : Nat) (x1 : Int) (x2 : MV) (x3 : Int) (x4 : MV), v = .agg #[.int .i64 x0_0, .int .u64 x0_1, .int .u64 x0_2, .slice A0_3 x0_3.length c0_3, .int .i64 x1, .int .u64 x2.n, .string x2.s, .int .i64 x3, .int .u64 x4.n, .string x4.s] ∧ (-9223372036854775808 ≤ x0_0 ∧ x0_0 ≤ 9223372036854775807) ∧ (0 ≤ x0_1 ∧ x0_1 < 18446744073709551616) ∧ (0 ≤ x0_2 ∧ x0_2 < 18446744073709551616) ∧ ValsAt W A0_3 (rowV x0_3) ∧ (A0_3 = none → x0_3.length = 0 ∧ c0_3 = 0) ∧ (-9223372036854775808 ≤ x1 ∧ x1 ≤ 9223372036854775807) ∧ (0 ≤ x2.n ∧ x2.n < 18446744073709551616) ∧ (-9223372036854775808 ≤ x3 ∧ x3 ≤ 9223372036854775807) ∧ (0 ≤ x4.n ∧ x4.n < 18446744073709551616) ∧ ∀ R : Nat, (d.weights Tryd.prog 51).all (· ≤ R) = true → (x0_3.length * 24 ≤ R ∧ ∀ u ∈ x0_3, (0 ≤ u.n ∧ u.n < 18446744073709551616) ∧ u.s.size ≤ R) ∧ x2.s.size ≤ R ∧ x4.s.size ≤ R := by
  obtain ⟨cs, rfl, hsz⟩ := okWide_struct Tryd.underlying51 hv
  obtain ⟨fuel, hf0⟩ := h
  obtain ⟨cl⟩ := cs
  obtain ⟨s0, s1, s2, s3, s4, s5, s6, s7, s8, s9, e, g0, g1, g2, g3, g4, g5, g6, g7, g8, q⟩ := propsTwoIn_of_struct (cs := cl) (x := (d, p)) hf0
  subst e
  exact ⟨s0, s1, s2, s3, s4, s5, s6, s7, s8, s9, rfl, g0, g1, g2, g3, g4, g5, g6, g7, g8, q⟩
end Go.Proofs.YtjpldfkhacchdaaDoor
