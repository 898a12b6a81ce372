/-
  Several texts joined in one file: each says at its own head, below, what it proves, and its conditions.
-/
import Derived.Deep.Slices
import Derived.Deep.Fields
import Derived.ChangeSame
import Derived.Test.YtllgkohgcicbhaaGreatDoorGLaw
import Derived.Test.YtllgkohgcicbhaaGreatDoorZE
import Derived.Lib.SmallJoins
/-
  A slice of values that came in reads as a list of values, each within the reach of its reading. No condition.
-/
namespace Go.Proofs.YtllgkohgcicbhaaGreatDoor
open Go.RowKit Go.ChangeShapes Go.WideShapes Go.Deep

set_option maxRecDepth 100000 in
theorem val_of_struct {H : Type} {enc : TypeId × Value → H} {w : World} {base : Nat} {sp : Nat → Bool} {held : Bool} {fuel : Nat} {cs : List Value} {x : DataW H × List MemPlace}
    (h : DataW.trod enc Tryz.prog w base sp held fuel 58 cs = some x) : ∃ v : MV, cs = [.int .u64 v.n, .string v.s] ∧ (0 ≤ v.n ∧ v.n < 18446744073709551616) ∧ ∀ R : Nat, (x.1.weights Tryz.prog 58).all (· ≤ R) = true → v.s.size ≤ R := by
  obtain ⟨xs, n, -, hx, hlen, hxl, hf⟩ := DataW.trod_struct Tryz.underlying58 h
  have hC : Tryz.prog.cellsOf 58 = 2 := by kernel_rfl
  have hi1 : Tryz.prog.cellsOf 25 = 1 := by kernel_rfl
  have hs1 : Tryz.prog.cellsOf 9 = 1 := by kernel_rfl
  rw [hC] at hlen
  match cs, hlen with
  | [a, b], _ =>
    have h0 : DataW.trod enc Tryz.prog w base sp held n 25 ([a, b].take (Tryz.prog.cellsOf 25)) = xs[0]? := hf 0 _ rfl
    have h1 : DataW.trod enc Tryz.prog w base sp held n 9 ([b].take (Tryz.prog.cellsOf 9)) = xs[1]? := hf 1 _ rfl
    rw [hi1] at h0
    rw [hs1] at h1
    simp only [List.take_succ_cons, List.take_zero] at h0 h1
    match xs, hxl with
    | [x0, x1], _ =>
      simp only [List.getElem?_cons_zero, List.getElem?_cons_succ] at h0 h1
      obtain ⟨t, e0, hy0, w0⟩ := DataW.trod_int Tryz.underlying25 h0
      obtain ⟨d, e1, hd, -⟩ := DataW.trod_string Tryz.underlying9 h1
      have b0 := bounds_u64 w0
      cases e0
      cases e1
      refine ⟨⟨t, d⟩, rfl, ⟨by dsimp only; omega, by dsimp only; omega⟩, fun R hR => ?_⟩
      rw [hx] at hR
      have hR' : (DataW.weightsEach Tryz.prog [25, 9] [x0.1, x1.1]).all (· ≤ R) = true := by
        have := hR
        simp only [DataW.weights, Tryz.underlying58, List.map_cons, List.map_nil] at this
        exact this
      rw [hd] at hR'
      simp only [DataW.weightsEach, List.all_append, Bool.and_eq_true, DataW.weights] at hR'
      have h2 := hR'.2.1
      simpa using h2
theorem weightsAll_mem {H : Type} {P : Program} {e : TypeId} {R : Nat} : ∀ {l : List (DataW H)}, (DataW.weightsAll P e l).all (· ≤ R) = true → ∀ d ∈ l, (d.weights P e).all (· ≤ R) = true
  | [], _, d, hd => by cases hd
  | a :: l, h, d, hd => by
    rw [DataW.weightsAll, List.all_append, Bool.and_eq_true] at h
    rcases List.mem_cons.1 hd with rfl | hd
    · exact h.1
    · exact weightsAll_mem h.2 d hd
theorem vals_open {H : Type} {enc : TypeId × Value → H} {W : World} {fuel : Nat} {v : Value} {y : DataW H × List MemPlace}
    (h : DataW.trod enc Tryz.prog W 0 (fun _ => true) true fuel 22 [v] = some y) :
    ∃ (A : Option Addr) (l : List MV) (cap : Nat), v = .slice A l.length cap ∧ ValsAt W A (rowV l) ∧ (A = none → l.length = 0 ∧ cap = 0) ∧ (∀ R : Nat, (y.1.weights Tryz.prog 22).all (· ≤ R) = true → l.length * 24 ≤ R ∧ ∀ u ∈ l, (0 ≤ u.n ∧ u.n < 18446744073709551616) ∧ u.s.size ≤ R) := by
  have hC : Tryz.prog.cellsOf 58 = 2 := by kernel_rfl
  have hBy : Tryz.prog.bytesOf 58 = 24 := by kernel_rfl
  rcases open_slice Tryz.underlying22 h with ⟨hv, rfl⟩ | ⟨a, len, cap, m, n, D, Pl, hcs, hb, hl, hm, hmm, hx, hi⟩
  · obtain rfl : v = .slice none 0 0 := by simpa using hv
    exact ⟨none, [], 0, rfl, fun h => absurd h (by simp [rowV]), fun _ => ⟨rfl, rfl⟩, fun R _ => ⟨by simp, fun u hu => by cases hu⟩⟩
  · obtain rfl : v = .slice (some a) len cap := by simpa using hcs
    have hlm : len ≤ m := by rw [hmm]; simp; exact hl
    have H1 : ∀ i, ∃ f : MV, i < len → (W.cell? (a.add (i * 2)) = some (.int .u64 f.n) ∧ W.cell? (a.add (i * 2 + 1)) = some (.string f.s)) ∧ (0 ≤ f.n ∧ f.n < 18446744073709551616) ∧ ∀ R : Nat, ((D i).weights Tryz.prog 58).all (· ≤ R) = true → f.s.size ≤ R := by
      intro i
      by_cases h : i < len
      · obtain ⟨cs', hc, ht'⟩ := hi i (by omega)
        rw [hC] at hc
        obtain ⟨f, rfl, hbk, hwt⟩ := val_of_struct ht'
        obtain ⟨-, hcl, hat⟩ := World.cells?_some hc
        refine ⟨f, fun _ => ⟨⟨?_, ?_⟩, hbk, hwt⟩⟩
        · have := hat 0 (by decide); rw [Go.Deep.add_add] at this; simpa using this
        · have := hat 1 (by decide); rw [Go.Deep.add_add] at this; simpa using this
      · exact ⟨noV, fun h' => absurd h' h⟩
    obtain ⟨F, hF⟩ : ∃ F : Nat → MV, ∀ i, i < len → (W.cell? (a.add (i * 2)) = some (.int .u64 (F i).n) ∧ W.cell? (a.add (i * 2 + 1)) = some (.string (F i).s)) ∧ (0 ≤ (F i).n ∧ (F i).n < 18446744073709551616) ∧ ∀ R : Nat, ((D i).weights Tryz.prog 58).all (· ≤ R) = true → (F i).s.size ≤ R :=
      ⟨fun i => Classical.choose (H1 i), fun i => Classical.choose_spec (H1 i)⟩
    refine ⟨some a, (List.range len).map F, cap, by simp, fun h0 => ?_, (fun e => by cases e), fun R hR => ?_⟩
    · rw [rowV_length, List.length_map, List.length_range] at h0
      obtain ⟨b, off, spot⟩ := a
      have h00 := (hF 0 (by omega)).1.1
      have hspot : spot = none := by simpa [Addr.add] using World.cell?_spot h00
      subst hspot
      refine ⟨b, off, rfl, ?_, fun i hi' => ?_⟩
      · rcases Nat.lt_or_ge b W.heap.size with k | k
        · exact k
        · simp [World.cell?, Addr.add, Array.getElem?_eq_none k] at h00
      · have hi2 : i < len * 2 := by rw [rowV_length, List.length_map, List.length_range] at hi'; exact hi'
        have hk : i / 2 < len := by omega
        obtain ⟨⟨c0, c1⟩, -⟩ := hF (i / 2) hk
        obtain ⟨r0, r1⟩ := v_cells ((List.range len).map F) (i / 2) (by simp; exact hk)
        simp only [List.getElem_map, List.getElem_range] at r0 r1
        have hr : i % 2 = 0 ∨ i % 2 = 1 := by omega
        have hv := List.getElem?_eq_getElem hi'
        rcases hr with hr | hr
        · have e : i = i / 2 * 2 := by omega
          rw [← e] at c0 r0
          rw [Go.WideShapes.add_plain] at c0
          rw [c0, ← r0, hv]
        · have e : i = i / 2 * 2 + 1 := by omega
          rw [← e] at c1 r1
          rw [Go.WideShapes.add_plain] at c1
          rw [c1, ← r1, hv]
    · rw [hx] at hR
      simp only [DataW.weights, Tryz.underlying22, hBy, List.all_cons, List.all_append, Bool.and_eq_true, decide_eq_true_eq, List.length_map, List.length_range] at hR
      refine ⟨?_, fun u hu => ?_⟩
      · rw [List.length_map, List.length_range]
        refine Nat.le_trans (Nat.mul_le_mul_right _ ?_) hR.1
        omega
      · obtain ⟨i, hi', rfl⟩ := List.mem_map.1 hu
        have hil := List.mem_range.1 hi'
        obtain ⟨-, g1, g2⟩ := hF i hil
        exact ⟨g1, g2 R (weightsAll_mem hR.2.1 (D i) (List.mem_map.2 ⟨i, hi', rfl⟩))⟩
end Go.Proofs.YtllgkohgcicbhaaGreatDoor

/-
  Structs that came in, taken apart: their cells, and what their leaves are within the reach of the reading. No condition.
-/
namespace Go.Proofs.YtllgkohgcicbhaaGreatDoor
open Go.RowKit Go.ChangeShapes Go.WideShapes Go.Deep Go.Joins

set_option maxRecDepth 100000 in
theorem method_of_struct {H : Type} {enc : TypeId × Value → H} {W : World} {fuel : Nat} {cs : List Value} {x : DataW H × List MemPlace}
    (h : DataW.trod enc Tryz.prog W 0 (fun _ => true) true fuel 24 cs = some x) : ∃ (x0 : Int) (x1 : Int) (A2 : Option Addr) (x2 : List MV) (c2 : Nat), cs = [.int .i64 x0, .int .i64 x1, .slice A2 x2.length c2] ∧ (-9223372036854775808 ≤ x0 ∧ x0 ≤ 9223372036854775807) ∧ (-9223372036854775808 ≤ x1 ∧ x1 ≤ 9223372036854775807) ∧ ValsAt W A2 (rowV x2) ∧ (A2 = none → x2.length = 0 ∧ c2 = 0) ∧ ∀ R : Nat, (x.1.weights Tryz.prog 24).all (· ≤ R) = true → (x2.length * 24 ≤ R ∧ ∀ u ∈ x2, (0 ≤ u.n ∧ u.n < 18446744073709551616) ∧ u.s.size ≤ R) := by
  obtain ⟨xs, n, -, hx, hlen, hxl, hf⟩ := DataW.trod_struct Tryz.underlying24 h
  have hC : Tryz.prog.cellsOf 24 = 3 := by kernel_rfl
  have k0 : Tryz.prog.cellsOf 3 = 1 := by kernel_rfl
  have k1 : Tryz.prog.cellsOf 3 = 1 := by kernel_rfl
  have k2 : Tryz.prog.cellsOf 22 = 1 := by kernel_rfl
  rw [hC] at hlen
  match cs, hlen with
  | [y0, y1, y2], _ =>
    have h0 : DataW.trod enc Tryz.prog W 0 (fun _ => true) true n 3 ([y0, y1, y2].take (Tryz.prog.cellsOf 3)) = xs[0]? := hf 0 _ rfl
    rw [k0] at h0
    have h1 : DataW.trod enc Tryz.prog W 0 (fun _ => true) true n 3 ([y1, y2].take (Tryz.prog.cellsOf 3)) = xs[1]? := hf 1 _ rfl
    rw [k1] at h1
    have h2 : DataW.trod enc Tryz.prog W 0 (fun _ => true) true n 22 ([y2].take (Tryz.prog.cellsOf 22)) = xs[2]? := hf 2 _ rfl
    rw [k2] at h2
    simp only [List.take_succ_cons, List.take_zero] at h0 h1 h2
    match xs, hxl with
    | [x0, x1, x2], _ =>
      simp only [List.getElem?_cons_zero, List.getElem?_cons_succ] at h0 h1 h2
      obtain ⟨z0, e0, -, w0⟩ := DataW.trod_int Tryz.underlying3 h0
      have b0 := bounds_i64 w0
      obtain ⟨z1, e1, -, w1⟩ := DataW.trod_int Tryz.underlying3 h1
      have b1 := bounds_i64 w1
      obtain ⟨A2, z2, c2, e2, p2, n2, q2⟩ := vals_open h2
      cases e0
      cases e1
      subst e2
      refine ⟨z0, z1, A2, z2, c2, rfl, ⟨by omega, by omega⟩, ⟨by omega, by omega⟩, p2, n2, fun R hR => ?_⟩
      rw [hx] at hR
      have hR' : (DataW.weightsEach Tryz.prog [3, 3, 22] [x0.1, x1.1, x2.1]).all (· ≤ R) = true := by
        have := hR
        simp only [DataW.weights, Tryz.underlying24, List.map_cons, List.map_nil] at this
        exact this
      simp only [DataW.weightsEach, List.all_append, Bool.and_eq_true] at hR'
      exact q2 R hR'.2.2.1
set_option maxRecDepth 100000 in
theorem head_of_struct {H : Type} {enc : TypeId × Value → H} {W : World} {fuel : Nat} {cs : List Value} {x : DataW H × List MemPlace}
    (h : DataW.trod enc Tryz.prog W 0 (fun _ => true) true fuel 27 cs = some x) : ∃ (x0 : Int) (x1 : Int) (x2 : Int) (A3 : Option Addr) (x3 : List MV) (c3 : Nat), cs = [.int .i64 x0, .int .u64 x1, .int .u64 x2, .slice A3 x3.length c3] ∧ (-9223372036854775808 ≤ x0 ∧ x0 ≤ 9223372036854775807) ∧ (0 ≤ x1 ∧ x1 < 18446744073709551616) ∧ (0 ≤ x2 ∧ x2 < 18446744073709551616) ∧ ValsAt W A3 (rowV x3) ∧ (A3 = none → x3.length = 0 ∧ c3 = 0) ∧ ∀ R : Nat, (x.1.weights Tryz.prog 27).all (· ≤ R) = true → (x3.length * 24 ≤ R ∧ ∀ u ∈ x3, (0 ≤ u.n ∧ u.n < 18446744073709551616) ∧ u.s.size ≤ R) := by
  obtain ⟨xs, n, -, hx, hlen, hxl, hf⟩ := DataW.trod_struct Tryz.underlying27 h
  have hC : Tryz.prog.cellsOf 27 = 4 := by kernel_rfl
  have k0 : Tryz.prog.cellsOf 3 = 1 := by kernel_rfl
  have k1 : Tryz.prog.cellsOf 25 = 1 := by kernel_rfl
  have k2 : Tryz.prog.cellsOf 25 = 1 := by kernel_rfl
  have k3 : Tryz.prog.cellsOf 22 = 1 := by kernel_rfl
  rw [hC] at hlen
  match cs, hlen with
  | [y0, y1, y2, y3], _ =>
    have h0 : DataW.trod enc Tryz.prog W 0 (fun _ => true) true n 3 ([y0, y1, y2, y3].take (Tryz.prog.cellsOf 3)) = xs[0]? := hf 0 _ rfl
    rw [k0] at h0
    have h1 : DataW.trod enc Tryz.prog W 0 (fun _ => true) true n 25 ([y1, y2, y3].take (Tryz.prog.cellsOf 25)) = xs[1]? := hf 1 _ rfl
    rw [k1] at h1
    have h2 : DataW.trod enc Tryz.prog W 0 (fun _ => true) true n 25 ([y2, y3].take (Tryz.prog.cellsOf 25)) = xs[2]? := hf 2 _ rfl
    rw [k2] at h2
    have h3 : DataW.trod enc Tryz.prog W 0 (fun _ => true) true n 22 ([y3].take (Tryz.prog.cellsOf 22)) = xs[3]? := hf 3 _ rfl
    rw [k3] at h3
    simp only [List.take_succ_cons, List.take_zero] at h0 h1 h2 h3
    match xs, hxl with
    | [x0, x1, x2, x3], _ =>
      simp only [List.getElem?_cons_zero, List.getElem?_cons_succ] at h0 h1 h2 h3
      obtain ⟨z0, e0, -, w0⟩ := DataW.trod_int Tryz.underlying3 h0
      have b0 := bounds_i64 w0
      obtain ⟨z1, e1, -, w1⟩ := DataW.trod_int Tryz.underlying25 h1
      have b1 := bounds_u64 w1
      obtain ⟨z2, e2, -, w2⟩ := DataW.trod_int Tryz.underlying25 h2
      have b2 := bounds_u64 w2
      obtain ⟨A3, z3, c3, e3, p3, n3, q3⟩ := vals_open h3
      cases e0
      cases e1
      cases e2
      subst e3
      refine ⟨z0, z1, z2, A3, z3, c3, rfl, ⟨by omega, by omega⟩, ⟨by omega, by omega⟩, ⟨by omega, by omega⟩, p3, n3, fun R hR => ?_⟩
      rw [hx] at hR
      have hR' : (DataW.weightsEach Tryz.prog [3, 25, 25, 22] [x0.1, x1.1, x2.1, x3.1]).all (· ≤ R) = true := by
        have := hR
        simp only [DataW.weights, Tryz.underlying27, List.map_cons, List.map_nil] at this
        exact this
      simp only [DataW.weightsEach, List.all_append, Bool.and_eq_true] at hR'
      exact q3 R hR'.2.2.2.1
set_option maxRecDepth 100000 in
theorem cmd_of_struct {H : Type} {enc : TypeId × Value → H} {W : World} {fuel : Nat} {cs : List Value} {x : DataW H × List MemPlace}
    (h : DataW.trod enc Tryz.prog W 0 (fun _ => true) true fuel 29 cs = some x) : ∃ (x0_0 : Int) (x0_1 : Int) (A0_2 : Option Addr) (x0_2 : List MV) (c0_2 : Nat) (x1_0 : Int) (x1_1 : Int) (x1_2 : Int) (A1_3 : Option Addr) (x1_3 : List MV) (c1_3 : Nat) (x2 : ByteArray), cs = [.int .i64 x0_0, .int .i64 x0_1, .slice A0_2 x0_2.length c0_2, .int .i64 x1_0, .int .u64 x1_1, .int .u64 x1_2, .slice A1_3 x1_3.length c1_3, .string x2] ∧ (-9223372036854775808 ≤ x0_0 ∧ x0_0 ≤ 9223372036854775807) ∧ (-9223372036854775808 ≤ x0_1 ∧ x0_1 ≤ 9223372036854775807) ∧ ValsAt W A0_2 (rowV x0_2) ∧ (A0_2 = none → x0_2.length = 0 ∧ c0_2 = 0) ∧ (-9223372036854775808 ≤ x1_0 ∧ x1_0 ≤ 9223372036854775807) ∧ (0 ≤ x1_1 ∧ x1_1 < 18446744073709551616) ∧ (0 ≤ x1_2 ∧ x1_2 < 18446744073709551616) ∧ ValsAt W A1_3 (rowV x1_3) ∧ (A1_3 = none → x1_3.length = 0 ∧ c1_3 = 0) ∧ ∀ R : Nat, (x.1.weights Tryz.prog 29).all (· ≤ R) = true → (x0_2.length * 24 ≤ R ∧ ∀ u ∈ x0_2, (0 ≤ u.n ∧ u.n < 18446744073709551616) ∧ u.s.size ≤ R) ∧ (x1_3.length * 24 ≤ R ∧ ∀ u ∈ x1_3, (0 ≤ u.n ∧ u.n < 18446744073709551616) ∧ u.s.size ≤ R) ∧ x2.size ≤ R := by
  obtain ⟨xs, n, -, hx, hlen, hxl, hf⟩ := DataW.trod_struct Tryz.underlying29 h
  have hC : Tryz.prog.cellsOf 29 = 8 := by kernel_rfl
  have k0 : Tryz.prog.cellsOf 24 = 3 := by kernel_rfl
  have k1 : Tryz.prog.cellsOf 27 = 4 := by kernel_rfl
  have k2 : Tryz.prog.cellsOf 9 = 1 := by kernel_rfl
  rw [hC] at hlen
  match cs, hlen with
  | [y0, y1, y2, y3, y4, y5, y6, y7], _ =>
    have h0 : DataW.trod enc Tryz.prog W 0 (fun _ => true) true n 24 ([y0, y1, y2, y3, y4, y5, y6, y7].take (Tryz.prog.cellsOf 24)) = xs[0]? := hf 0 _ rfl
    rw [k0] at h0
    have h1 : DataW.trod enc Tryz.prog W 0 (fun _ => true) true n 27 ([y3, y4, y5, y6, y7].take (Tryz.prog.cellsOf 27)) = xs[1]? := hf 1 _ rfl
    rw [k1] at h1
    have h2 : DataW.trod enc Tryz.prog W 0 (fun _ => true) true n 9 ([y7].take (Tryz.prog.cellsOf 9)) = xs[2]? := hf 2 _ rfl
    rw [k2] at h2
    simp only [List.take_succ_cons, List.take_zero] at h0 h1 h2
    match xs, hxl with
    | [x0, x1, x2], _ =>
      simp only [List.getElem?_cons_zero, List.getElem?_cons_succ] at h0 h1 h2
      obtain ⟨s0_0, s0_1, s0_2, s0_3, s0_4, e0, g0_0, g0_1, g0_2, g0_3, q0⟩ := method_of_struct h0
      obtain ⟨s1_0, s1_1, s1_2, s1_3, s1_4, s1_5, e1, g1_0, g1_1, g1_2, g1_3, g1_4, q1⟩ := head_of_struct h1
      obtain ⟨z2, e2, hd2, -⟩ := DataW.trod_string Tryz.underlying9 h2
      cases e0
      cases e1
      cases e2
      refine ⟨s0_0, s0_1, s0_2, s0_3, s0_4, s1_0, s1_1, s1_2, s1_3, s1_4, s1_5, z2, rfl, g0_0, g0_1, g0_2, g0_3, g1_0, g1_1, g1_2, g1_3, g1_4, fun R hR => ?_⟩
      rw [hx] at hR
      have hR' : (DataW.weightsEach Tryz.prog [24, 27, 9] [x0.1, x1.1, x2.1]).all (· ≤ R) = true := by
        have := hR
        simp only [DataW.weights, Tryz.underlying29, List.map_cons, List.map_nil] at this
        exact this
      simp only [DataW.weightsEach, List.all_append, Bool.and_eq_true] at hR'
      have r0 := q0 R hR'.1
      have r1 := q1 R hR'.2.1
      have r2 : z2.size ≤ R := by
        have h2 := hR'.2.2.1
        rw [hd2] at h2
        simpa [DataW.weights] using h2
      exact ⟨r0, r1, r2⟩
set_option maxRecDepth 100000 in
theorem cmd_open {H : Type} {enc : TypeId × Value → H} {W : World} {r : Reach} {b0 : Nat} {v : Value} {d : DataW H} {p : List MemPlace}
    (hv : Value.okWide Tryz.prog W r b0 29 v) (h : DataW.Trod enc Tryz.prog W 0 (fun _ => true) true 29 v d p) : ∃ (x0_0 : Int) (x0_1 : Int) (A0_2 : Option Addr) (x0_2 : List MV) (c0_2 : Nat) (x1_0 : Int) (x1_1 : Int) (x1_2 : Int) (A1_3 : Option Addr) (x1_3 : List MV) (c1_3 : Nat) (x2 : ByteArray), v = .agg #[.int .i64 x0_0, .int .i64 x0_1, .slice A0_2 x0_2.length c0_2, .int .i64 x1_0, .int .u64 x1_1, .int .u64 x1_2, .slice A1_3 x1_3.length c1_3, .string x2] ∧ (-9223372036854775808 ≤ x0_0 ∧ x0_0 ≤ 9223372036854775807) ∧ (-9223372036854775808 ≤ x0_1 ∧ x0_1 ≤ 9223372036854775807) ∧ ValsAt W A0_2 (rowV x0_2) ∧ (A0_2 = none → x0_2.length = 0 ∧ c0_2 = 0) ∧ (-9223372036854775808 ≤ x1_0 ∧ x1_0 ≤ 9223372036854775807) ∧ (0 ≤ x1_1 ∧ x1_1 < 18446744073709551616) ∧ (0 ≤ x1_2 ∧ x1_2 < 18446744073709551616) ∧ ValsAt W A1_3 (rowV x1_3) ∧ (A1_3 = none → x1_3.length = 0 ∧ c1_3 = 0) ∧ ∀ R : Nat, (d.weights Tryz.prog 29).all (· ≤ R) = true → (x0_2.length * 24 ≤ R ∧ ∀ u ∈ x0_2, (0 ≤ u.n ∧ u.n < 18446744073709551616) ∧ u.s.size ≤ R) ∧ (x1_3.length * 24 ≤ R ∧ ∀ u ∈ x1_3, (0 ≤ u.n ∧ u.n < 18446744073709551616) ∧ u.s.size ≤ R) ∧ x2.size ≤ R := by
  obtain ⟨cs, rfl, hsz⟩ := okWide_struct Tryz.underlying29 hv
  obtain ⟨fuel, hf0⟩ := h
  obtain ⟨cl⟩ := cs
  obtain ⟨s0, s1, s2, s3, s4, s5, s6, s7, s8, s9, s10, s11, e, g0, g1, g2, g3, g4, g5, g6, g7, g8, q⟩ := cmd_of_struct (cs := cl) (x := (d, p)) hf0
  subst e
  exact ⟨s0, s1, s2, s3, s4, s5, s6, s7, s8, s9, s10, s11, rfl, g0, g1, g2, g3, g4, g5, g6, g7, g8, q⟩
end Go.Proofs.YtllgkohgcicbhaaGreatDoor

/-
  Structs that came in, taken apart: their cells, and what their leaves are within the reach of the reading. No condition.
-/
namespace Go.Proofs.YtllgkohgcicbhaaGreatDoor
open Go.RowKit Go.ChangeShapes Go.WideShapes Go.Deep Go.Joins

set_option maxRecDepth 100000 in
theorem frame_of_struct {H : Type} {enc : TypeId × Value → H} {W : World} {fuel : Nat} {cs : List Value} {x : DataW H × List MemPlace}
    (h : DataW.trod enc Tryz.prog W 0 (fun _ => true) true fuel 33 cs = some x) : ∃ (x0 : Int) (x1 : Int) (x2 : ByteArray), cs = [.int .i64 x0, .int .i64 x1, .string x2] ∧ (-9223372036854775808 ≤ x0 ∧ x0 ≤ 9223372036854775807) ∧ (-9223372036854775808 ≤ x1 ∧ x1 ≤ 9223372036854775807) ∧ ∀ R : Nat, (x.1.weights Tryz.prog 33).all (· ≤ R) = true → x2.size ≤ R := by
  obtain ⟨xs, n, -, hx, hlen, hxl, hf⟩ := DataW.trod_struct Tryz.underlying33 h
  have hC : Tryz.prog.cellsOf 33 = 3 := by kernel_rfl
  have k0 : Tryz.prog.cellsOf 3 = 1 := by kernel_rfl
  have k1 : Tryz.prog.cellsOf 3 = 1 := by kernel_rfl
  have k2 : Tryz.prog.cellsOf 9 = 1 := by kernel_rfl
  rw [hC] at hlen
  match cs, hlen with
  | [y0, y1, y2], _ =>
    have h0 : DataW.trod enc Tryz.prog W 0 (fun _ => true) true n 3 ([y0, y1, y2].take (Tryz.prog.cellsOf 3)) = xs[0]? := hf 0 _ rfl
    rw [k0] at h0
    have h1 : DataW.trod enc Tryz.prog W 0 (fun _ => true) true n 3 ([y1, y2].take (Tryz.prog.cellsOf 3)) = xs[1]? := hf 1 _ rfl
    rw [k1] at h1
    have h2 : DataW.trod enc Tryz.prog W 0 (fun _ => true) true n 9 ([y2].take (Tryz.prog.cellsOf 9)) = xs[2]? := hf 2 _ rfl
    rw [k2] at h2
    simp only [List.take_succ_cons, List.take_zero] at h0 h1 h2
    match xs, hxl with
    | [x0, x1, x2], _ =>
      simp only [List.getElem?_cons_zero, List.getElem?_cons_succ] at h0 h1 h2
      obtain ⟨z0, e0, -, w0⟩ := DataW.trod_int Tryz.underlying3 h0
      have b0 := bounds_i64 w0
      obtain ⟨z1, e1, -, w1⟩ := DataW.trod_int Tryz.underlying3 h1
      have b1 := bounds_i64 w1
      obtain ⟨z2, e2, hd2, -⟩ := DataW.trod_string Tryz.underlying9 h2
      cases e0
      cases e1
      cases e2
      refine ⟨z0, z1, z2, rfl, ⟨by omega, by omega⟩, ⟨by omega, by omega⟩, fun R hR => ?_⟩
      rw [hx] at hR
      have hR' : (DataW.weightsEach Tryz.prog [3, 3, 9] [x0.1, x1.1, x2.1]).all (· ≤ R) = true := by
        have := hR
        simp only [DataW.weights, Tryz.underlying33, List.map_cons, List.map_nil] at this
        exact this
      simp only [DataW.weightsEach, List.all_append, Bool.and_eq_true] at hR'
      have r2 : z2.size ≤ R := by
        have h2 := hR'.2.2.1
        rw [hd2] at h2
        simpa [DataW.weights] using h2
      exact r2
set_option maxRecDepth 100000 in
theorem frame_open {H : Type} {enc : TypeId × Value → H} {W : World} {r : Reach} {b0 : Nat} {v : Value} {d : DataW H} {p : List MemPlace}
    (hv : Value.okWide Tryz.prog W r b0 33 v) (h : DataW.Trod enc Tryz.prog W 0 (fun _ => true) true 33 v d p) : ∃ (x0 : Int) (x1 : Int) (x2 : ByteArray), v = .agg #[.int .i64 x0, .int .i64 x1, .string x2] ∧ (-9223372036854775808 ≤ x0 ∧ x0 ≤ 9223372036854775807) ∧ (-9223372036854775808 ≤ x1 ∧ x1 ≤ 9223372036854775807) ∧ ∀ R : Nat, (d.weights Tryz.prog 33).all (· ≤ R) = true → x2.size ≤ R := by
  obtain ⟨cs, rfl, hsz⟩ := okWide_struct Tryz.underlying33 hv
  obtain ⟨fuel, hf0⟩ := h
  obtain ⟨cl⟩ := cs
  obtain ⟨s0, s1, s2, e, g0, g1, q⟩ := frame_of_struct (cs := cl) (x := (d, p)) hf0
  subst e
  exact ⟨s0, s1, s2, rfl, g0, g1, q⟩
set_option maxRecDepth 100000 in
theorem asm_of_struct {H : Type} {enc : TypeId × Value → H} {W : World} {fuel : Nat} {cs : List Value} {x : DataW H × List MemPlace}
    (h : DataW.trod enc Tryz.prog W 0 (fun _ => true) true fuel 31 cs = some x) : ∃ (x0 : Int) (x1_0_0 : Int) (x1_0_1 : Int) (A1_0_2 : Option Addr) (x1_0_2 : List MV) (c1_0_2 : Nat) (x1_1_0 : Int) (x1_1_1 : Int) (x1_1_2 : Int) (A1_1_3 : Option Addr) (x1_1_3 : List MV) (c1_1_3 : Nat) (x1_2 : ByteArray), cs = [.int .i64 x0, .int .i64 x1_0_0, .int .i64 x1_0_1, .slice A1_0_2 x1_0_2.length c1_0_2, .int .i64 x1_1_0, .int .u64 x1_1_1, .int .u64 x1_1_2, .slice A1_1_3 x1_1_3.length c1_1_3, .string x1_2] ∧ (-9223372036854775808 ≤ x0 ∧ x0 ≤ 9223372036854775807) ∧ (-9223372036854775808 ≤ x1_0_0 ∧ x1_0_0 ≤ 9223372036854775807) ∧ (-9223372036854775808 ≤ x1_0_1 ∧ x1_0_1 ≤ 9223372036854775807) ∧ ValsAt W A1_0_2 (rowV x1_0_2) ∧ (A1_0_2 = none → x1_0_2.length = 0 ∧ c1_0_2 = 0) ∧ (-9223372036854775808 ≤ x1_1_0 ∧ x1_1_0 ≤ 9223372036854775807) ∧ (0 ≤ x1_1_1 ∧ x1_1_1 < 18446744073709551616) ∧ (0 ≤ x1_1_2 ∧ x1_1_2 < 18446744073709551616) ∧ ValsAt W A1_1_3 (rowV x1_1_3) ∧ (A1_1_3 = none → x1_1_3.length = 0 ∧ c1_1_3 = 0) ∧ ∀ R : Nat, (x.1.weights Tryz.prog 31).all (· ≤ R) = true → (x1_0_2.length * 24 ≤ R ∧ ∀ u ∈ x1_0_2, (0 ≤ u.n ∧ u.n < 18446744073709551616) ∧ u.s.size ≤ R) ∧ (x1_1_3.length * 24 ≤ R ∧ ∀ u ∈ x1_1_3, (0 ≤ u.n ∧ u.n < 18446744073709551616) ∧ u.s.size ≤ R) ∧ x1_2.size ≤ R := by
  obtain ⟨xs, n, -, hx, hlen, hxl, hf⟩ := DataW.trod_struct Tryz.underlying31 h
  have hC : Tryz.prog.cellsOf 31 = 9 := by kernel_rfl
  have k0 : Tryz.prog.cellsOf 3 = 1 := by kernel_rfl
  have k1 : Tryz.prog.cellsOf 29 = 8 := by kernel_rfl
  rw [hC] at hlen
  match cs, hlen with
  | [y0, y1, y2, y3, y4, y5, y6, y7, y8], _ =>
    have h0 : DataW.trod enc Tryz.prog W 0 (fun _ => true) true n 3 ([y0, y1, y2, y3, y4, y5, y6, y7, y8].take (Tryz.prog.cellsOf 3)) = xs[0]? := hf 0 _ rfl
    rw [k0] at h0
    have h1 : DataW.trod enc Tryz.prog W 0 (fun _ => true) true n 29 ([y1, y2, y3, y4, y5, y6, y7, y8].take (Tryz.prog.cellsOf 29)) = xs[1]? := hf 1 _ rfl
    rw [k1] at h1
    simp only [List.take_succ_cons, List.take_zero] at h0 h1
    match xs, hxl with
    | [x0, x1], _ =>
      simp only [List.getElem?_cons_zero, List.getElem?_cons_succ] at h0 h1
      obtain ⟨z0, e0, -, w0⟩ := DataW.trod_int Tryz.underlying3 h0
      have b0 := bounds_i64 w0
      obtain ⟨s1_0, s1_1, s1_2, s1_3, s1_4, s1_5, s1_6, s1_7, s1_8, s1_9, s1_10, s1_11, e1, g1_0, g1_1, g1_2, g1_3, g1_4, g1_5, g1_6, g1_7, g1_8, q1⟩ := cmd_of_struct h1
      cases e0
      cases e1
      refine ⟨z0, s1_0, s1_1, s1_2, s1_3, s1_4, s1_5, s1_6, s1_7, s1_8, s1_9, s1_10, s1_11, rfl, ⟨by omega, by omega⟩, g1_0, g1_1, g1_2, g1_3, g1_4, g1_5, g1_6, g1_7, g1_8, fun R hR => ?_⟩
      rw [hx] at hR
      have hR' : (DataW.weightsEach Tryz.prog [3, 29] [x0.1, x1.1]).all (· ≤ R) = true := by
        have := hR
        simp only [DataW.weights, Tryz.underlying31, List.map_cons, List.map_nil] at this
        exact this
      simp only [DataW.weightsEach, List.all_append, Bool.and_eq_true] at hR'
      have r1 := q1 R hR'.2.1
      exact ⟨r1.1, r1.2.1, r1.2.2⟩
set_option maxRecDepth 100000 in
theorem asm_open {H : Type} {enc : TypeId × Value → H} {W : World} {r : Reach} {b0 : Nat} {v : Value} {d : DataW H} {p : List MemPlace}
    (hv : Value.okWide Tryz.prog W r b0 31 v) (h : DataW.Trod enc Tryz.prog W 0 (fun _ => true) true 31 v d p) : ∃ (x0 : Int) (x1_0_0 : Int) (x1_0_1 : Int) (A1_0_2 : Option Addr) (x1_0_2 : List MV) (c1_0_2 : Nat) (x1_1_0 : Int) (x1_1_1 : Int) (x1_1_2 : Int) (A1_1_3 : Option Addr) (x1_1_3 : List MV) (c1_1_3 : Nat) (x1_2 : ByteArray), v = .agg #[.int .i64 x0, .int .i64 x1_0_0, .int .i64 x1_0_1, .slice A1_0_2 x1_0_2.length c1_0_2, .int .i64 x1_1_0, .int .u64 x1_1_1, .int .u64 x1_1_2, .slice A1_1_3 x1_1_3.length c1_1_3, .string x1_2] ∧ (-9223372036854775808 ≤ x0 ∧ x0 ≤ 9223372036854775807) ∧ (-9223372036854775808 ≤ x1_0_0 ∧ x1_0_0 ≤ 9223372036854775807) ∧ (-9223372036854775808 ≤ x1_0_1 ∧ x1_0_1 ≤ 9223372036854775807) ∧ ValsAt W A1_0_2 (rowV x1_0_2) ∧ (A1_0_2 = none → x1_0_2.length = 0 ∧ c1_0_2 = 0) ∧ (-9223372036854775808 ≤ x1_1_0 ∧ x1_1_0 ≤ 9223372036854775807) ∧ (0 ≤ x1_1_1 ∧ x1_1_1 < 18446744073709551616) ∧ (0 ≤ x1_1_2 ∧ x1_1_2 < 18446744073709551616) ∧ ValsAt W A1_1_3 (rowV x1_1_3) ∧ (A1_1_3 = none → x1_1_3.length = 0 ∧ c1_1_3 = 0) ∧ ∀ R : Nat, (d.weights Tryz.prog 31).all (· ≤ R) = true → (x1_0_2.length * 24 ≤ R ∧ ∀ u ∈ x1_0_2, (0 ≤ u.n ∧ u.n < 18446744073709551616) ∧ u.s.size ≤ R) ∧ (x1_1_3.length * 24 ≤ R ∧ ∀ u ∈ x1_1_3, (0 ≤ u.n ∧ u.n < 18446744073709551616) ∧ u.s.size ≤ R) ∧ x1_2.size ≤ R := by
  obtain ⟨cs, rfl, hsz⟩ := okWide_struct Tryz.underlying31 hv
  obtain ⟨fuel, hf0⟩ := h
  obtain ⟨cl⟩ := cs
  obtain ⟨s0, s1, s2, s3, s4, s5, s6, s7, s8, s9, s10, s11, s12, e, g0, g1, g2, g3, g4, g5, g6, g7, g8, g9, q⟩ := asm_of_struct (cs := cl) (x := (d, p)) hf0
  subst e
  exact ⟨s0, s1, s2, s3, s4, s5, s6, s7, s8, s9, s10, s11, s12, rfl, g0, g1, g2, g3, g4, g5, g6, g7, g8, g9, q⟩
set_option maxRecDepth 100000 in
theorem contentFeedsIn_of_struct {H : Type} {enc : TypeId × Value → H} {W : World} {fuel : Nat} {cs : List Value} {x : DataW H × List MemPlace}
    (h : DataW.trod enc Tryz.prog W 0 (fun _ => true) true fuel 35 cs = some x) : ∃ (x0_0 : Int) (x0_1_0_0 : Int) (x0_1_0_1 : Int) (A0_1_0_2 : Option Addr) (x0_1_0_2 : List MV) (c0_1_0_2 : Nat) (x0_1_1_0 : Int) (x0_1_1_1 : Int) (x0_1_1_2 : Int) (A0_1_1_3 : Option Addr) (x0_1_1_3 : List MV) (c0_1_1_3 : Nat) (x0_1_2 : ByteArray) (x1_0 : Int) (x1_1 : Int) (x1_2 : ByteArray) (x2_0_0 : Int) (x2_0_1 : Int) (A2_0_2 : Option Addr) (x2_0_2 : List MV) (c2_0_2 : Nat) (x2_1_0 : Int) (x2_1_1 : Int) (x2_1_2 : Int) (A2_1_3 : Option Addr) (x2_1_3 : List MV) (c2_1_3 : Nat) (x2_2 : ByteArray) (x3 : Int) (x4 : Int) (x5_0_0 : Int) (x5_0_1 : Int) (A5_0_2 : Option Addr) (x5_0_2 : List MV) (c5_0_2 : Nat) (x5_1_0 : Int) (x5_1_1 : Int) (x5_1_2 : Int) (A5_1_3 : Option Addr) (x5_1_3 : List MV) (c5_1_3 : Nat) (x5_2 : ByteArray), cs = [.int .i64 x0_0, .int .i64 x0_1_0_0, .int .i64 x0_1_0_1, .slice A0_1_0_2 x0_1_0_2.length c0_1_0_2, .int .i64 x0_1_1_0, .int .u64 x0_1_1_1, .int .u64 x0_1_1_2, .slice A0_1_1_3 x0_1_1_3.length c0_1_1_3, .string x0_1_2, .int .i64 x1_0, .int .i64 x1_1, .string x1_2, .int .i64 x2_0_0, .int .i64 x2_0_1, .slice A2_0_2 x2_0_2.length c2_0_2, .int .i64 x2_1_0, .int .u64 x2_1_1, .int .u64 x2_1_2, .slice A2_1_3 x2_1_3.length c2_1_3, .string x2_2, .int .i64 x3, .int .i64 x4, .int .i64 x5_0_0, .int .i64 x5_0_1, .slice A5_0_2 x5_0_2.length c5_0_2, .int .i64 x5_1_0, .int .u64 x5_1_1, .int .u64 x5_1_2, .slice A5_1_3 x5_1_3.length c5_1_3, .string x5_2] ∧ (-9223372036854775808 ≤ x0_0 ∧ x0_0 ≤ 9223372036854775807) ∧ (-9223372036854775808 ≤ x0_1_0_0 ∧ x0_1_0_0 ≤ 9223372036854775807) ∧ (-9223372036854775808 ≤ x0_1_0_1 ∧ x0_1_0_1 ≤ 9223372036854775807) ∧ ValsAt W A0_1_0_2 (rowV x0_1_0_2) ∧ (A0_1_0_2 = none → x0_1_0_2.length = 0 ∧ c0_1_0_2 = 0) ∧ (-9223372036854775808 ≤ x0_1_1_0 ∧ x0_1_1_0 ≤ 9223372036854775807) ∧ (0 ≤ x0_1_1_1 ∧ x0_1_1_1 < 18446744073709551616) ∧ (0 ≤ x0_1_1_2 ∧ x0_1_1_2 < 18446744073709551616) ∧ ValsAt W A0_1_1_3 (rowV x0_1_1_3) ∧ (A0_1_1_3 = none → x0_1_1_3.length = 0 ∧ c0_1_1_3 = 0) ∧ (-9223372036854775808 ≤ x1_0 ∧ x1_0 ≤ 9223372036854775807) ∧ (-9223372036854775808 ≤ x1_1 ∧ x1_1 ≤ 9223372036854775807) ∧ (-9223372036854775808 ≤ x2_0_0 ∧ x2_0_0 ≤ 9223372036854775807) ∧ (-9223372036854775808 ≤ x2_0_1 ∧ x2_0_1 ≤ 9223372036854775807) ∧ ValsAt W A2_0_2 (rowV x2_0_2) ∧ (A2_0_2 = none → x2_0_2.length = 0 ∧ c2_0_2 = 0) ∧ (-9223372036854775808 ≤ x2_1_0 ∧ x2_1_0 ≤ 9223372036854775807) ∧ (0 ≤ x2_1_1 ∧ x2_1_1 < 18446744073709551616) ∧ (0 ≤ x2_1_2 ∧ x2_1_2 < 18446744073709551616) ∧ ValsAt W A2_1_3 (rowV x2_1_3) ∧ (A2_1_3 = none → x2_1_3.length = 0 ∧ c2_1_3 = 0) ∧ (-9223372036854775808 ≤ x3 ∧ x3 ≤ 9223372036854775807) ∧ (-9223372036854775808 ≤ x4 ∧ x4 ≤ 9223372036854775807) ∧ (-9223372036854775808 ≤ x5_0_0 ∧ x5_0_0 ≤ 9223372036854775807) ∧ (-9223372036854775808 ≤ x5_0_1 ∧ x5_0_1 ≤ 9223372036854775807) ∧ ValsAt W A5_0_2 (rowV x5_0_2) ∧ (A5_0_2 = none → x5_0_2.length = 0 ∧ c5_0_2 = 0) ∧ (-9223372036854775808 ≤ x5_1_0 ∧ x5_1_0 ≤ 9223372036854775807) ∧ (0 ≤ x5_1_1 ∧ x5_1_1 < 18446744073709551616) ∧ (0 ≤ x5_1_2 ∧ x5_1_2 < 18446744073709551616) ∧ ValsAt W A5_1_3 (rowV x5_1_3) ∧ (A5_1_3 = none → x5_1_3.length = 0 ∧ c5_1_3 = 0) ∧ ∀ R : Nat, (x.1.weights Tryz.prog 35).all (· ≤ R) = true → (x0_1_0_2.length * 24 ≤ R ∧ ∀ u ∈ x0_1_0_2, (0 ≤ u.n ∧ u.n < 18446744073709551616) ∧ u.s.size ≤ R) ∧ (x0_1_1_3.length * 24 ≤ R ∧ ∀ u ∈ x0_1_1_3, (0 ≤ u.n ∧ u.n < 18446744073709551616) ∧ u.s.size ≤ R) ∧ x0_1_2.size ≤ R ∧ x1_2.size ≤ R ∧ (x2_0_2.length * 24 ≤ R ∧ ∀ u ∈ x2_0_2, (0 ≤ u.n ∧ u.n < 18446744073709551616) ∧ u.s.size ≤ R) ∧ (x2_1_3.length * 24 ≤ R ∧ ∀ u ∈ x2_1_3, (0 ≤ u.n ∧ u.n < 18446744073709551616) ∧ u.s.size ≤ R) ∧ x2_2.size ≤ R ∧ (x5_0_2.length * 24 ≤ R ∧ ∀ u ∈ x5_0_2, (0 ≤ u.n ∧ u.n < 18446744073709551616) ∧ u.s.size ≤ R) ∧ (x5_1_3.length * 24 ≤ R ∧ ∀ u ∈ x5_1_3, (0 ≤ u.n ∧ u.n < 18446744073709551616) ∧ u.s.size ≤ R) ∧ x5_2.size ≤ R := by
  obtain ⟨xs, n, -, hx, hlen, hxl, hf⟩ := DataW.trod_struct Tryz.underlying35 h
  have hC : Tryz.prog.cellsOf 35 = 30 := by kernel_rfl
  have k0 : Tryz.prog.cellsOf 31 = 9 := by kernel_rfl
  have k1 : Tryz.prog.cellsOf 33 = 3 := by kernel_rfl
  have k2 : Tryz.prog.cellsOf 29 = 8 := by kernel_rfl
  have k3 : Tryz.prog.cellsOf 3 = 1 := by kernel_rfl
  have k4 : Tryz.prog.cellsOf 3 = 1 := by kernel_rfl
  have k5 : Tryz.prog.cellsOf 29 = 8 := by kernel_rfl
  rw [hC] at hlen
  match cs, hlen with
  | [y0, y1, y2, y3, y4, y5, y6, y7, y8, y9, y10, y11, y12, y13, y14, y15, y16, y17, y18, y19, y20, y21, y22, y23, y24, y25, y26, y27, y28, y29], _ =>
    have h0 : DataW.trod enc Tryz.prog W 0 (fun _ => true) true n 31 ([y0, y1, y2, y3, y4, y5, y6, y7, y8, y9, y10, y11, y12, y13, y14, y15, y16, y17, y18, y19, y20, y21, y22, y23, y24, y25, y26, y27, y28, y29].take (Tryz.prog.cellsOf 31)) = xs[0]? := hf 0 _ rfl
    rw [k0] at h0
    have h1 : DataW.trod enc Tryz.prog W 0 (fun _ => true) true n 33 ([y9, y10, y11, y12, y13, y14, y15, y16, y17, y18, y19, y20, y21, y22, y23, y24, y25, y26, y27, y28, y29].take (Tryz.prog.cellsOf 33)) = xs[1]? := hf 1 _ rfl
    rw [k1] at h1
    have h2 : DataW.trod enc Tryz.prog W 0 (fun _ => true) true n 29 ([y12, y13, y14, y15, y16, y17, y18, y19, y20, y21, y22, y23, y24, y25, y26, y27, y28, y29].take (Tryz.prog.cellsOf 29)) = xs[2]? := hf 2 _ rfl
    rw [k2] at h2
    have h3 : DataW.trod enc Tryz.prog W 0 (fun _ => true) true n 3 ([y20, y21, y22, y23, y24, y25, y26, y27, y28, y29].take (Tryz.prog.cellsOf 3)) = xs[3]? := hf 3 _ rfl
    rw [k3] at h3
    have h4 : DataW.trod enc Tryz.prog W 0 (fun _ => true) true n 3 ([y21, y22, y23, y24, y25, y26, y27, y28, y29].take (Tryz.prog.cellsOf 3)) = xs[4]? := hf 4 _ rfl
    rw [k4] at h4
    have h5 : DataW.trod enc Tryz.prog W 0 (fun _ => true) true n 29 ([y22, y23, y24, y25, y26, y27, y28, y29].take (Tryz.prog.cellsOf 29)) = xs[5]? := hf 5 _ rfl
    rw [k5] at h5
    simp only [List.take_succ_cons, List.take_zero] at h0 h1 h2 h3 h4 h5
    match xs, hxl with
    | [x0, x1, x2, x3, x4, x5], _ =>
      simp only [List.getElem?_cons_zero, List.getElem?_cons_succ] at h0 h1 h2 h3 h4 h5
      obtain ⟨s0_0, s0_1, s0_2, s0_3, s0_4, s0_5, s0_6, s0_7, s0_8, s0_9, s0_10, s0_11, s0_12, e0, g0_0, g0_1, g0_2, g0_3, g0_4, g0_5, g0_6, g0_7, g0_8, g0_9, q0⟩ := asm_of_struct h0
      obtain ⟨s1_0, s1_1, s1_2, e1, g1_0, g1_1, q1⟩ := frame_of_struct h1
      obtain ⟨s2_0, s2_1, s2_2, s2_3, s2_4, s2_5, s2_6, s2_7, s2_8, s2_9, s2_10, s2_11, e2, g2_0, g2_1, g2_2, g2_3, g2_4, g2_5, g2_6, g2_7, g2_8, q2⟩ := cmd_of_struct h2
      obtain ⟨z3, e3, -, w3⟩ := DataW.trod_int Tryz.underlying3 h3
      have b3 := bounds_i64 w3
      obtain ⟨z4, e4, -, w4⟩ := DataW.trod_int Tryz.underlying3 h4
      have b4 := bounds_i64 w4
      obtain ⟨s5_0, s5_1, s5_2, s5_3, s5_4, s5_5, s5_6, s5_7, s5_8, s5_9, s5_10, s5_11, e5, g5_0, g5_1, g5_2, g5_3, g5_4, g5_5, g5_6, g5_7, g5_8, q5⟩ := cmd_of_struct h5
      cases e0
      cases e1
      cases e2
      cases e3
      cases e4
      cases e5
      refine ⟨s0_0, s0_1, s0_2, s0_3, s0_4, s0_5, s0_6, s0_7, s0_8, s0_9, s0_10, s0_11, s0_12, s1_0, s1_1, s1_2, s2_0, s2_1, s2_2, s2_3, s2_4, s2_5, s2_6, s2_7, s2_8, s2_9, s2_10, s2_11, z3, z4, s5_0, s5_1, s5_2, s5_3, s5_4, s5_5, s5_6, s5_7, s5_8, s5_9, s5_10, s5_11, rfl, g0_0, g0_1, g0_2, g0_3, g0_4, g0_5, g0_6, g0_7, g0_8, g0_9, g1_0, g1_1, g2_0, g2_1, g2_2, g2_3, g2_4, g2_5, g2_6, g2_7, g2_8, ⟨by omega, by omega⟩, ⟨by omega, by omega⟩, g5_0, g5_1, g5_2, g5_3, g5_4, g5_5, g5_6, g5_7, g5_8, fun R hR => ?_⟩
      rw [hx] at hR
      have hR' : (DataW.weightsEach Tryz.prog [31, 33, 29, 3, 3, 29] [x0.1, x1.1, x2.1, x3.1, x4.1, x5.1]).all (· ≤ R) = true := by
        have := hR
        simp only [DataW.weights, Tryz.underlying35, List.map_cons, List.map_nil] at this
        exact this
      simp only [DataW.weightsEach, List.all_append, Bool.and_eq_true] at hR'
      have r0 := q0 R hR'.1
      have r1 := q1 R hR'.2.1
      have r2 := q2 R hR'.2.2.1
      have r5 := q5 R hR'.2.2.2.2.2.1
      exact ⟨r0.1, r0.2.1, r0.2.2, r1, r2.1, r2.2.1, r2.2.2, r5.1, r5.2.1, r5.2.2⟩
set_option maxRecDepth 100000 in
theorem contentFeedsIn_open {H : Type} {enc : TypeId × Value → H} {W : World} {r : Reach} {b0 : Nat} {v : Value} {d : DataW H} {p : List MemPlace}
    (hv : Value.okWide Tryz.prog W r b0 35 v) (h : DataW.Trod enc Tryz.prog W 0 (fun _ => true) true 35 v d p) : ∃ (x0_0 : Int) (x0_1_0_0 : Int) (x0_1_0_1 : Int) (A0_1_0_2 : Option Addr) (x0_1_0_2 : List MV) (c0_1_0_2 : Nat) (x0_1_1_0 : Int) (x0_1_1_1 : Int) (x0_1_1_2 : Int) (A0_1_1_3 : Option Addr) (x0_1_1_3 : List MV) (c0_1_1_3 : Nat) (x0_1_2 : ByteArray) (x1_0 : Int) (x1_1 : Int) (x1_2 : ByteArray) (x2_0_0 : Int) (x2_0_1 : Int) (A2_0_2 : Option Addr) (x2_0_2 : List MV) (c2_0_2 : Nat) (x2_1_0 : Int) (x2_1_1 : Int) (x2_1_2 : Int) (A2_1_3 : Option Addr) (x2_1_3 : List MV) (c2_1_3 : Nat) (x2_2 : ByteArray) (x3 : Int) (x4 : Int) (x5_0_0 : Int) (x5_0_1 : Int) (A5_0_2 : Option Addr) (x5_0_2 : List MV) (c5_0_2 : Nat) (x5_1_0 : Int) (x5_1_1 : Int) (x5_1_2 : Int) (A5_1_3 : Option Addr) (x5_1_3 : List MV) (c5_1_3 : Nat) (x5_2 : ByteArray), v = .agg #[.int .i64 x0_0, .int .i64 x0_1_0_0, .int .i64 x0_1_0_1, .slice A0_1_0_2 x0_1_0_2.length c0_1_0_2, .int .i64 x0_1_1_0, .int .u64 x0_1_1_1, .int .u64 x0_1_1_2, .slice A0_1_1_3 x0_1_1_3.length c0_1_1_3, .string x0_1_2, .int .i64 x1_0, .int .i64 x1_1, .string x1_2, .int .i64 x2_0_0, .int .i64 x2_0_1, .slice A2_0_2 x2_0_2.length c2_0_2, .int .i64 x2_1_0, .int .u64 x2_1_1, .int .u64 x2_1_2, .slice A2_1_3 x2_1_3.length c2_1_3, .string x2_2, .int .i64 x3, .int .i64 x4, .int .i64 x5_0_0, .int .i64 x5_0_1, .slice A5_0_2 x5_0_2.length c5_0_2, .int .i64 x5_1_0, .int .u64 x5_1_1, .int .u64 x5_1_2, .slice A5_1_3 x5_1_3.length c5_1_3, .string x5_2] ∧ (-9223372036854775808 ≤ x0_0 ∧ x0_0 ≤ 9223372036854775807) ∧ (-9223372036854775808 ≤ x0_1_0_0 ∧ x0_1_0_0 ≤ 9223372036854775807) ∧ (-9223372036854775808 ≤ x0_1_0_1 ∧ x0_1_0_1 ≤ 9223372036854775807) ∧ ValsAt W A0_1_0_2 (rowV x0_1_0_2) ∧ (A0_1_0_2 = none → x0_1_0_2.length = 0 ∧ c0_1_0_2 = 0) ∧ (-9223372036854775808 ≤ x0_1_1_0 ∧ x0_1_1_0 ≤ 9223372036854775807) ∧ (0 ≤ x0_1_1_1 ∧ x0_1_1_1 < 18446744073709551616) ∧ (0 ≤ x0_1_1_2 ∧ x0_1_1_2 < 18446744073709551616) ∧ ValsAt W A0_1_1_3 (rowV x0_1_1_3) ∧ (A0_1_1_3 = none → x0_1_1_3.length = 0 ∧ c0_1_1_3 = 0) ∧ (-9223372036854775808 ≤ x1_0 ∧ x1_0 ≤ 9223372036854775807) ∧ (-9223372036854775808 ≤ x1_1 ∧ x1_1 ≤ 9223372036854775807) ∧ (-9223372036854775808 ≤ x2_0_0 ∧ x2_0_0 ≤ 9223372036854775807) ∧ (-9223372036854775808 ≤ x2_0_1 ∧ x2_0_1 ≤ 9223372036854775807) ∧ ValsAt W A2_0_2 (rowV x2_0_2) ∧ (A2_0_2 = none → x2_0_2.length = 0 ∧ c2_0_2 = 0) ∧ (-9223372036854775808 ≤ x2_1_0 ∧ x2_1_0 ≤ 9223372036854775807) ∧ (0 ≤ x2_1_1 ∧ x2_1_1 < 18446744073709551616) ∧ (0 ≤ x2_1_2 ∧ x2_1_2 < 18446744073709551616) ∧ ValsAt W A2_1_3 (rowV x2_1_3) ∧ (A2_1_3 = none → x2_1_3.length = 0 ∧ c2_1_3 = 0) ∧ (-9223372036854775808 ≤ x3 ∧ x3 ≤ 9223372036854775807) ∧ (-9223372036854775808 ≤ x4 ∧ x4 ≤ 9223372036854775807) ∧ (-9223372036854775808 ≤ x5_0_0 ∧ x5_0_0 ≤ 9223372036854775807) ∧ (-9223372036854775808 ≤ x5_0_1 ∧ x5_0_1 ≤ 9223372036854775807) ∧ ValsAt W A5_0_2 (rowV x5_0_2) ∧ (A5_0_2 = none → x5_0_2.length = 0 ∧ c5_0_2 = 0) ∧ (-9223372036854775808 ≤ x5_1_0 ∧ x5_1_0 ≤ 9223372036854775807) ∧ (0 ≤ x5_1_1 ∧ x5_1_1 < 18446744073709551616) ∧ (0 ≤ x5_1_2 ∧ x5_1_2 < 18446744073709551616) ∧ ValsAt W A5_1_3 (rowV x5_1_3) ∧ (A5_1_3 = none → x5_1_3.length = 0 ∧ c5_1_3 = 0) ∧ ∀ R : Nat, (d.weights Tryz.prog 35).all (· ≤ R) = true → (x0_1_0_2.length * 24 ≤ R ∧ ∀ u ∈ x0_1_0_2, (0 ≤ u.n ∧ u.n < 18446744073709551616) ∧ u.s.size ≤ R) ∧ (x0_1_1_3.length * 24 ≤ R ∧ ∀ u ∈ x0_1_1_3, (0 ≤ u.n ∧ u.n < 18446744073709551616) ∧ u.s.size ≤ R) ∧ x0_1_2.size ≤ R ∧ x1_2.size ≤ R ∧ (x2_0_2.length * 24 ≤ R ∧ ∀ u ∈ x2_0_2, (0 ≤ u.n ∧ u.n < 18446744073709551616) ∧ u.s.size ≤ R) ∧ (x2_1_3.length * 24 ≤ R ∧ ∀ u ∈ x2_1_3, (0 ≤ u.n ∧ u.n < 18446744073709551616) ∧ u.s.size ≤ R) ∧ x2_2.size ≤ R ∧ (x5_0_2.length * 24 ≤ R ∧ ∀ u ∈ x5_0_2, (0 ≤ u.n ∧ u.n < 18446744073709551616) ∧ u.s.size ≤ R) ∧ (x5_1_3.length * 24 ≤ R ∧ ∀ u ∈ x5_1_3, (0 ≤ u.n ∧ u.n < 18446744073709551616) ∧ u.s.size ≤ R) ∧ x5_2.size ≤ R := by
  obtain ⟨cs, rfl, hsz⟩ := okWide_struct Tryz.underlying35 hv
  obtain ⟨fuel, hf0⟩ := h
  obtain ⟨cl⟩ := cs
  obtain ⟨s0, s1, s2, s3, s4, s5, s6, s7, s8, s9, s10, s11, s12, s13, s14, s15, s16, s17, s18, s19, s20, s21, s22, s23, s24, s25, s26, s27, s28, s29, s30, s31, s32, s33, s34, s35, s36, s37, s38, s39, s40, s41, e, g0, g1, g2, g3, g4, g5, g6, g7, g8, g9, g10, g11, g12, g13, g14, g15, g16, g17, g18, g19, g20, g21, g22, g23, g24, g25, g26, g27, g28, g29, g30, g31, q⟩ := contentFeedsIn_of_struct (cs := cl) (x := (d, p)) hf0
  subst e
  exact ⟨s0, s1, s2, s3, s4, s5, s6, s7, s8, s9, s10, s11, s12, s13, s14, s15, s16, s17, s18, s19, s20, s21, s22, s23, s24, s25, s26, s27, s28, s29, s30, s31, s32, s33, s34, s35, s36, s37, s38, s39, s40, s41, rfl, g0, g1, g2, g3, g4, g5, g6, g7, g8, g9, g10, g11, g12, g13, g14, g15, g16, g17, g18, g19, g20, g21, g22, g23, g24, g25, g26, g27, g28, g29, g30, g31, q⟩
end Go.Proofs.YtllgkohgcicbhaaGreatDoor
