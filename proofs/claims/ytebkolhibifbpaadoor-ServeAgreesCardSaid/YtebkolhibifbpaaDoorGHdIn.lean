/-
  Structs that came in, taken apart: their cells, and what their leaves are within the reach of the reading. No condition.
-/
import Derived.Lib.SmallJoins
import Derived.Test.YtebkolhibifbpaaDoorGHd
namespace Go.Proofs.YtebkolhibifbpaaDoor
open Go.RowKit Go.ChangeShapes Go.WideShapes Go.Deep Go.Joins

set_option maxRecDepth 100000 in
theorem serveAgreesIn_of_struct {H : Type} {enc : TypeId × Value → H} {W : World} {fuel : Nat} {cs : List Value} {x : DataW H × List MemPlace}
    (h : DataW.trod enc Tryd.prog W 0 (fun _ => true) true fuel 27 cs = some x) : ∃ (x0_0 : Int) (x0_1_0 : Int) (x0_1_1 : Int) (x0_1_2 : Int) (x0_2 : ByteArray) (x0_3 : ByteArray) (x0_4 : ByteArray) (x1 : Int) (x2 : Int) (x3 : Int), cs = [.int .i64 x0_0, .int .i64 x0_1_0, .int .i64 x0_1_1, .int .i64 x0_1_2, .string x0_2, .string x0_3, .string x0_4, .int .i64 x1, .int .i64 x2, .int .i64 x3] ∧ (-9223372036854775808 ≤ x0_0 ∧ x0_0 ≤ 9223372036854775807) ∧ (-9223372036854775808 ≤ x0_1_0 ∧ x0_1_0 ≤ 9223372036854775807) ∧ (-9223372036854775808 ≤ x0_1_1 ∧ x0_1_1 ≤ 9223372036854775807) ∧ (-9223372036854775808 ≤ x0_1_2 ∧ x0_1_2 ≤ 9223372036854775807) ∧ (-9223372036854775808 ≤ x1 ∧ x1 ≤ 9223372036854775807) ∧ (-9223372036854775808 ≤ x2 ∧ x2 ≤ 9223372036854775807) ∧ (-9223372036854775808 ≤ x3 ∧ x3 ≤ 9223372036854775807) ∧ ∀ R : Nat, (x.1.weights Tryd.prog 27).all (· ≤ R) = true → x0_2.size ≤ R ∧ x0_3.size ≤ R ∧ x0_4.size ≤ R := by
  obtain ⟨xs, n, -, hx, hlen, hxl, hf⟩ := DataW.trod_struct Tryd.underlying27 h
  have hC : Tryd.prog.cellsOf 27 = 10 := by kernel_rfl
  have k0 : Tryd.prog.cellsOf 25 = 7 := by kernel_rfl
  have k1 : Tryd.prog.cellsOf 3 = 1 := by kernel_rfl
  have k2 : Tryd.prog.cellsOf 3 = 1 := by kernel_rfl
  have k3 : Tryd.prog.cellsOf 3 = 1 := by kernel_rfl
  rw [hC] at hlen
  match cs, hlen with
  | [y0, y1, y2, y3, y4, y5, y6, y7, y8, y9], _ =>
    have h0 : DataW.trod enc Tryd.prog W 0 (fun _ => true) true n 25 ([y0, y1, y2, y3, y4, y5, y6, y7, y8, y9].take (Tryd.prog.cellsOf 25)) = xs[0]? := hf 0 _ rfl
    rw [k0] at h0
    have h1 : DataW.trod enc Tryd.prog W 0 (fun _ => true) true n 3 ([y7, y8, y9].take (Tryd.prog.cellsOf 3)) = xs[1]? := hf 1 _ rfl
    rw [k1] at h1
    have h2 : DataW.trod enc Tryd.prog W 0 (fun _ => true) true n 3 ([y8, y9].take (Tryd.prog.cellsOf 3)) = xs[2]? := hf 2 _ rfl
    rw [k2] at h2
    have h3 : DataW.trod enc Tryd.prog W 0 (fun _ => true) true n 3 ([y9].take (Tryd.prog.cellsOf 3)) = xs[3]? := hf 3 _ rfl
    rw [k3] at h3
    simp only [List.take_succ_cons, List.take_zero] at h0 h1 h2 h3
    match xs, hxl with
    | [x0, x1, x2, x3], _ =>
      simp only [List.getElem?_cons_zero, List.getElem?_cons_succ] at h0 h1 h2 h3
      obtain ⟨s0_0, s0_1, s0_2, s0_3, s0_4, s0_5, s0_6, e0, g0_0, g0_1, g0_2, g0_3, q0⟩ := hand_of_struct h0
      obtain ⟨z1, e1, -, w1⟩ := DataW.trod_int Tryd.underlying3 h1
      have b1 := bounds_i64 w1
      obtain ⟨z2, e2, -, w2⟩ := DataW.trod_int Tryd.underlying3 h2
      have b2 := bounds_i64 w2
      obtain ⟨z3, e3, -, w3⟩ := DataW.trod_int Tryd.underlying3 h3
      have b3 := bounds_i64 w3
      cases e0
      cases e1
      cases e2
      cases e3
      refine ⟨s0_0, s0_1, s0_2, s0_3, s0_4, s0_5, s0_6, z1, z2, z3, rfl, g0_0, g0_1, g0_2, g0_3, ⟨by omega, by omega⟩, ⟨by omega, by omega⟩, ⟨by omega, by omega⟩, fun R hR => ?_⟩
      rw [hx] at hR
      have hR' : (DataW.weightsEach Tryd.prog [25, 3, 3, 3] [x0.1, x1.1, x2.1, x3.1]).all (· ≤ R) = true := by
        have := hR
        simp only [DataW.weights, Tryd.underlying27, List.map_cons, List.map_nil] at this
        exact this
      simp only [DataW.weightsEach, List.all_append, Bool.and_eq_true] at hR'
      have r0 := q0 R hR'.1
      exact ⟨r0.1, r0.2.1, r0.2.2⟩
set_option maxRecDepth 100000 in
theorem serveAgreesIn_open {H : Type} {enc : TypeId × Value → H} {W : World} {r : Reach} {b0 : Nat} {v : Value} {d : DataW H} {p : List MemPlace}
    (hv : Value.okWide Tryd.prog W r b0 27 v) (h : DataW.Trod enc Tryd.prog W 0 (fun _ => true) true 27 v d p) : ∃ (x0_0 : Int) (x0_1_0 : Int) (x0_1_1 : Int) (x0_1_2 : Int) (x0_2 : ByteArray) (x0_3 : ByteArray) (x0_4 : ByteArray) (x1 : Int) (x2 : Int) (x3 : Int), v = .agg #[.int .i64 x0_0, .int .i64 x0_1_0, .int .i64 x0_1_1, .int .i64 x0_1_2, .string x0_2, .string x0_3, .string x0_4, .int .i64 x1, .int .i64 x2, .int .i64 x3] ∧ (-9223372036854775808 ≤ x0_0 ∧ x0_0 ≤ 9223372036854775807) ∧ (-9223372036854775808 ≤ x0_1_0 ∧ x0_1_0 ≤ 9223372036854775807) ∧ (-9223372036854775808 ≤ x0_1_1 ∧ x0_1_1 ≤ 9223372036854775807) ∧ (-9223372036854775808 ≤ x0_1_2 ∧ x0_1_2 ≤ 9223372036854775807) ∧ (-9223372036854775808 ≤ x1 ∧ x1 ≤ 9223372036854775807) ∧ (-9223372036854775808 ≤ x2 ∧ x2 ≤ 9223372036854775807) ∧ (-9223372036854775808 ≤ x3 ∧ x3 ≤ 9223372036854775807) ∧ ∀ R : Nat, (d.weights Tryd.prog 27).all (· ≤ R) = true → x0_2.size ≤ R ∧ x0_3.size ≤ R ∧ x0_4.size ≤ R := by
  obtain ⟨cs, rfl, hsz⟩ := okWide_struct Tryd.underlying27 hv
  obtain ⟨fuel, hf0⟩ := h
  obtain ⟨cl⟩ := cs
  obtain ⟨s0, s1, s2, s3, s4, s5, s6, s7, s8, s9, e, g0, g1, g2, g3, g4, g5, g6, q⟩ := serveAgreesIn_of_struct (cs := cl) (x := (d, p)) hf0
  subst e
  exact ⟨s0, s1, s2, s3, s4, s5, s6, s7, s8, s9, rfl, g0, g1, g2, g3, g4, g5, g6, q⟩
end Go.Proofs.YtebkolhibifbpaaDoor
