/-
  Structs that came in, taken apart: their cells, and what their leaves are within the reach of the reading. No condition.
-/
import Derived.Lib.SmallJoins
import Derived.Test.YtllgkohgcicbhaaGreatDoorGMeth
namespace Go.Proofs.YtllgkohgcicbhaaGreatDoor
open Go.RowKit Go.ChangeShapes Go.WideShapes Go.Deep Go.Joins

set_option maxRecDepth 100000 in
theorem method_of_struct {H : Type} {enc : TypeId × Value → H} {W : World} {fuel : Nat} {cs : List Value} {x : DataW H × List MemPlace}
    (h : DataW.trod enc Tryz.prog W 0 (fun _ => true) true fuel 24 cs = some x) : ∃ (x0 : Int) (x1 : Int) (A2 : Option Addr) (x2 : List MV) (c2 : Nat), cs = [.int .i64 x0, .int .i64 x1, .slice A2 x2.length c2] ∧ (-9223372036854775808 ≤ x0 ∧ x0 ≤ 9223372036854775807) ∧ (-9223372036854775808 ≤ x1 ∧ x1 ≤ 9223372036854775807) ∧ ValsAt W A2 (rowV x2) ∧ (A2 = none → x2.length = 0 ∧ c2 = 0) ∧ ∀ R : Nat, (x.1.weights Tryz.prog 24).all (· ≤ R) = true → (x2.length * 24 ≤ R ∧ ∀ u ∈ x2, (0 ≤ u.n ∧ u.n < 18446744073709551616) ∧ u.s.size ≤ R) := by
  obtain ⟨xs, n, -, hx, hlen, hxl, hf⟩ := DataW.trod_struct Tryz.underlying24 h
  have hC : Tryz.prog.cellsOf 24 = 3 := by kernel_rfl
  have k0 : Tryz.prog.cellsOf 3 = 1 := by kernel_rfl
  have k1 : Tryz.prog.cellsOf 3 = 1 := by kernel_rfl
  have k2 : Tryz.prog.cellsOf 22 = 1 := by kernel_rfl
  rw [hC] at hlen
  match cs, hlen with
  | [y0, y1, y2], _ =>
    have h0 : DataW.trod enc Tryz.prog W 0 (fun _ => true) true n 3 ([y0, y1, y2].take (Tryz.prog.cellsOf 3)) = xs[0]? := hf 0 _ rfl
    rw [k0] at h0
    have h1 : DataW.trod enc Tryz.prog W 0 (fun _ => true) true n 3 ([y1, y2].take (Tryz.prog.cellsOf 3)) = xs[1]? := hf 1 _ rfl
    rw [k1] at h1
    have h2 : DataW.trod enc Tryz.prog W 0 (fun _ => true) true n 22 ([y2].take (Tryz.prog.cellsOf 22)) = xs[2]? := hf 2 _ rfl
    rw [k2] at h2
    simp only [List.take_succ_cons, List.take_zero] at h0 h1 h2
    match xs, hxl with
    | [x0, x1, x2], _ =>
      simp only [List.getElem?_cons_zero, List.getElem?_cons_succ] at h0 h1 h2
      obtain ⟨z0, e0, -, w0⟩ := DataW.trod_int Tryz.underlying3 h0
      have b0 := bounds_i64 w0
      obtain ⟨z1, e1, -, w1⟩ := DataW.trod_int Tryz.underlying3 h1
      have b1 := bounds_i64 w1
      obtain ⟨A2, z2, c2, e2, p2, n2, q2⟩ := vals_open h2
      cases e0
      cases e1
      subst e2
      refine ⟨z0, z1, A2, z2, c2, rfl, ⟨by omega, by omega⟩, ⟨by omega, by omega⟩, p2, n2, fun R hR => ?_⟩
      rw [hx] at hR
      have hR' : (DataW.weightsEach Tryz.prog [3, 3, 22] [x0.1, x1.1, x2.1]).all (· ≤ R) = true := by
        have := hR
        simp only [DataW.weights, Tryz.underlying24, List.map_cons, List.map_nil] at this
        exact this
      simp only [DataW.weightsEach, List.all_append, Bool.and_eq_true] at hR'
      exact q2 R hR'.2.2.1
set_option maxRecDepth 100000 in
theorem head_of_struct {H : Type} {enc : TypeId × Value → H} {W : World} {fuel : Nat} {cs : List Value} {x : DataW H × List MemPlace}
    (h : DataW.trod enc Tryz.prog W 0 (fun _ => true) true fuel 27 cs = some x) : ∃ (x0 : Int) (x1 : Int) (x2 : Int) (A3 : Option Addr) (x3 : List MV) (c3 : Nat), cs = [.int .i64 x0, .int .u64 x1, .int .u64 x2, .slice A3 x3.length c3] ∧ (-9223372036854775808 ≤ x0 ∧ x0 ≤ 9223372036854775807) ∧ (0 ≤ x1 ∧ x1 < 18446744073709551616) ∧ (0 ≤ x2 ∧ x2 < 18446744073709551616) ∧ ValsAt W A3 (rowV x3) ∧ (A3 = none → x3.length = 0 ∧ c3 = 0) ∧ ∀ R : Nat, (x.1.weights Tryz.prog 27).all (· ≤ R) = true → (x3.length * 24 ≤ R ∧ ∀ u ∈ x3, (0 ≤ u.n ∧ u.n < 18446744073709551616) ∧ u.s.size ≤ R) := by
  obtain ⟨xs, n, -, hx, hlen, hxl, hf⟩ := DataW.trod_struct Tryz.underlying27 h
  have hC : Tryz.prog.cellsOf 27 = 4 := by kernel_rfl
  have k0 : Tryz.prog.cellsOf 3 = 1 := by kernel_rfl
  have k1 : Tryz.prog.cellsOf 25 = 1 := by kernel_rfl
  have k2 : Tryz.prog.cellsOf 25 = 1 := by kernel_rfl
  have k3 : Tryz.prog.cellsOf 22 = 1 := by kernel_rfl
  rw [hC] at hlen
  match cs, hlen with
  | [y0, y1, y2, y3], _ =>
    have h0 : DataW.trod enc Tryz.prog W 0 (fun _ => true) true n 3 ([y0, y1, y2, y3].take (Tryz.prog.cellsOf 3)) = xs[0]? := hf 0 _ rfl
    rw [k0] at h0
    have h1 : DataW.trod enc Tryz.prog W 0 (fun _ => true) true n 25 ([y1, y2, y3].take (Tryz.prog.cellsOf 25)) = xs[1]? := hf 1 _ rfl
    rw [k1] at h1
    have h2 : DataW.trod enc Tryz.prog W 0 (fun _ => true) true n 25 ([y2, y3].take (Tryz.prog.cellsOf 25)) = xs[2]? := hf 2 _ rfl
    rw [k2] at h2
    have h3 : DataW.trod enc Tryz.prog W 0 (fun _ => true) true n 22 ([y3].take (Tryz.prog.cellsOf 22)) = xs[3]? := hf 3 _ rfl
    rw [k3] at h3
    simp only [List.take_succ_cons, List.take_zero] at h0 h1 h2 h3
    match xs, hxl with
    | [x0, x1, x2, x3], _ =>
      simp only [List.getElem?_cons_zero, List.getElem?_cons_succ] at h0 h1 h2 h3
      obtain ⟨z0, e0, -, w0⟩ := DataW.trod_int Tryz.underlying3 h0
      have b0 := bounds_i64 w0
      obtain ⟨z1, e1, -, w1⟩ := DataW.trod_int Tryz.underlying25 h1
      have b1 := bounds_u64 w1
      obtain ⟨z2, e2, -, w2⟩ := DataW.trod_int Tryz.underlying25 h2
      have b2 := bounds_u64 w2
      obtain ⟨A3, z3, c3, e3, p3, n3, q3⟩ := vals_open h3
      cases e0
      cases e1
      cases e2
      subst e3
      refine ⟨z0, z1, z2, A3, z3, c3, rfl, ⟨by omega, by omega⟩, ⟨by omega, by omega⟩, ⟨by omega, by omega⟩, p3, n3, fun R hR => ?_⟩
      rw [hx] at hR
      have hR' : (DataW.weightsEach Tryz.prog [3, 25, 25, 22] [x0.1, x1.1, x2.1, x3.1]).all (· ≤ R) = true := by
        have := hR
        simp only [DataW.weights, Tryz.underlying27, List.map_cons, List.map_nil] at this
        exact this
      simp only [DataW.weightsEach, List.all_append, Bool.and_eq_true] at hR'
      exact q3 R hR'.2.2.2.1
set_option maxRecDepth 100000 in
theorem cmd_of_struct {H : Type} {enc : TypeId × Value → H} {W : World} {fuel : Nat} {cs : List Value} {x : DataW H × List MemPlace}
    (h : DataW.trod enc Tryz.prog W 0 (fun _ => true) true fuel 29 cs = some x) : ∃ (x0_0 : Int) (x0_1 : Int) (A0_2 : Option Addr) (x0_2 : List MV) (c0_2 : Nat) (x1_0 : Int) (x1_1 : Int) (x1_2 : Int) (A1_3 : Option Addr) (x1_3 : List MV) (c1_3 : Nat) (x2 : ByteArray), cs = [.int .i64 x0_0, .int .i64 x0_1, .slice A0_2 x0_2.length c0_2, .int .i64 x1_0, .int .u64 x1_1, .int .u64 x1_2, .slice A1_3 x1_3.length c1_3, .string x2] ∧ (-9223372036854775808 ≤ x0_0 ∧ x0_0 ≤ 9223372036854775807) ∧ (-9223372036854775808 ≤ x0_1 ∧ x0_1 ≤ 9223372036854775807) ∧ ValsAt W A0_2 (rowV x0_2) ∧ (A0_2 = none → x0_2.length = 0 ∧ c0_2 = 0) ∧ (-9223372036854775808 ≤ x1_0 ∧ x1_0 ≤ 9223372036854775807) ∧ (0 ≤ x1_1 ∧ x1_1 < 18446744073709551616) ∧ (0 ≤ x1_2 ∧ x1_2 < 18446744073709551616) ∧ ValsAt W A1_3 (rowV x1_3) ∧ (A1_3 = none → x1_3.length = 0 ∧ c1_3 = 0) ∧ ∀ R : Nat, (x.1.weights Tryz.prog 29).all (· ≤ R) = true → (x0_2.length * 24 ≤ R ∧ ∀ u ∈ x0_2, (0 ≤ u.n ∧ u.n < 18446744073709551616) ∧ u.s.size ≤ R) ∧ (x1_3.length * 24 ≤ R ∧ ∀ u ∈ x1_3, (0 ≤ u.n ∧ u.n < 18446744073709551616) ∧ u.s.size ≤ R) ∧ x2.size ≤ R := by
  obtain ⟨xs, n, -, hx, hlen, hxl, hf⟩ := DataW.trod_struct Tryz.underlying29 h
  have hC : Tryz.prog.cellsOf 29 = 8 := by kernel_rfl
  have k0 : Tryz.prog.cellsOf 24 = 3 := by kernel_rfl
  have k1 : Tryz.prog.cellsOf 27 = 4 := by kernel_rfl
  have k2 : Tryz.prog.cellsOf 9 = 1 := by kernel_rfl
  rw [hC] at hlen
  match cs, hlen with
  | [y0, y1, y2, y3, y4, y5, y6, y7], _ =>
    have h0 : DataW.trod enc Tryz.prog W 0 (fun _ => true) true n 24 ([y0, y1, y2, y3, y4, y5, y6, y7].take (Tryz.prog.cellsOf 24)) = xs[0]? := hf 0 _ rfl
    rw [k0] at h0
    have h1 : DataW.trod enc Tryz.prog W 0 (fun _ => true) true n 27 ([y3, y4, y5, y6, y7].take (Tryz.prog.cellsOf 27)) = xs[1]? := hf 1 _ rfl
    rw [k1] at h1
    have h2 : DataW.trod enc Tryz.prog W 0 (fun _ => true) true n 9 ([y7].take (Tryz.prog.cellsOf 9)) = xs[2]? := hf 2 _ rfl
    rw [k2] at h2
    simp only [List.take_succ_cons, List.take_zero] at h0 h1 h2
    match xs, hxl with
    | [x0, x1, x2], _ =>
      simp only [List.getElem?_cons_zero, List.getElem?_cons_succ] at h0 h1 h2
      obtain ⟨s0_0, s0_1, s0_2, s0_3, s0_4, e0, g0_0, g0_1, g0_2, g0_3, q0⟩ := method_of_struct h0
      obtain ⟨s1_0, s1_1, s1_2, s1_3, s1_4, s1_5, e1, g1_0, g1_1, g1_2, g1_3, g1_4, q1⟩ := head_of_struct h1
      obtain ⟨z2, e2, hd2, -⟩ := DataW.trod_string Tryz.underlying9 h2
      cases e0
      cases e1
      cases e2
      refine ⟨s0_0, s0_1, s0_2, s0_3, s0_4, s1_0, s1_1, s1_2, s1_3, s1_4, s1_5, z2, rfl, g0_0, g0_1, g0_2, g0_3, g1_0, g1_1, g1_2, g1_3, g1_4, fun R hR => ?_⟩
      rw [hx] at hR
      have hR' : (DataW.weightsEach Tryz.prog [24, 27, 9] [x0.1, x1.1, x2.1]).all (· ≤ R) = true := by
        have := hR
        simp only [DataW.weights, Tryz.underlying29, List.map_cons, List.map_nil] at this
        exact this
      simp only [DataW.weightsEach, List.all_append, Bool.and_eq_true] at hR'
      have r0 := q0 R hR'.1
      have r1 := q1 R hR'.2.1
      have r2 : z2.size ≤ R := by
        have h2 := hR'.2.2.1
        rw [hd2] at h2
        simpa [DataW.weights] using h2
      exact ⟨r0, r1, r2⟩
set_option maxRecDepth 100000 in
theorem cmd_open {H : Type} {enc : TypeId × Value → H} {W : World} {r : Reach} {b0 : Nat} {v : Value} {d : DataW H} {p : List MemPlace}
    (hv : Value.okWide Tryz.prog W r b0 29 v) (h : DataW.Trod enc Tryz.prog W 0 (fun _ => true) true 29 v d p) : ∃ (x0_0 : Int) (x0_1 : Int) (A0_2 : Option Addr) (x0_2 : List MV) (c0_2 : Nat) (x1_0 : Int) (x1_1 : Int) (x1_2 : Int) (A1_3 : Option Addr) (x1_3 : List MV) (c1_3 : Nat) (x2 : ByteArray), v = .agg #[.int .i64 x0_0, .int .i64 x0_1, .slice A0_2 x0_2.length c0_2, .int .i64 x1_0, .int .u64 x1_1, .int .u64 x1_2, .slice A1_3 x1_3.length c1_3, .string x2] ∧ (-9223372036854775808 ≤ x0_0 ∧ x0_0 ≤ 9223372036854775807) ∧ (-9223372036854775808 ≤ x0_1 ∧ x0_1 ≤ 9223372036854775807) ∧ ValsAt W A0_2 (rowV x0_2) ∧ (A0_2 = none → x0_2.length = 0 ∧ c0_2 = 0) ∧ (-9223372036854775808 ≤ x1_0 ∧ x1_0 ≤ 9223372036854775807) ∧ (0 ≤ x1_1 ∧ x1_1 < 18446744073709551616) ∧ (0 ≤ x1_2 ∧ x1_2 < 18446744073709551616) ∧ ValsAt W A1_3 (rowV x1_3) ∧ (A1_3 = none → x1_3.length = 0 ∧ c1_3 = 0) ∧ ∀ R : Nat, (d.weights Tryz.prog 29).all (· ≤ R) = true → (x0_2.length * 24 ≤ R ∧ ∀ u ∈ x0_2, (0 ≤ u.n ∧ u.n < 18446744073709551616) ∧ u.s.size ≤ R) ∧ (x1_3.length * 24 ≤ R ∧ ∀ u ∈ x1_3, (0 ≤ u.n ∧ u.n < 18446744073709551616) ∧ u.s.size ≤ R) ∧ x2.size ≤ R := by
  obtain ⟨cs, rfl, hsz⟩ := okWide_struct Tryz.underlying29 hv
  obtain ⟨fuel, hf0⟩ := h
  obtain ⟨cl⟩ := cs
  obtain ⟨s0, s1, s2, s3, s4, s5, s6, s7, s8, s9, s10, s11, e, g0, g1, g2, g3, g4, g5, g6, g7, g8, q⟩ := cmd_of_struct (cs := cl) (x := (d, p)) hf0
  subst e
  exact ⟨s0, s1, s2, s3, s4, s5, s6, s7, s8, s9, s10, s11, rfl, g0, g1, g2, g3, g4, g5, g6, g7, g8, q⟩
end Go.Proofs.YtllgkohgcicbhaaGreatDoor
