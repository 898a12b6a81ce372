/-
  slices.Clone of values, and method.With: a method with another value, in memory of its own; nothing that was there is changed. Conditions: the values lie in old memory, of at most 2^47 bytes.
-/
import Derived.Laws.OwnMore
import Derived.Test.YtmpfkommeakgbaaDoorJMem
import Derived.Test.YtmpfkommeakgbaaDoorWMTm
import Derived.Test.YtmpfkommeakgbaaDoorWMArg
namespace Go.Proofs.YtmpfkommeakgbaaDoor
open Go.RowKit

def withV (l : List MV) (i : Int) (v : MV) : List MV := if 0 ≤ i then l.set i.toNat v else l
theorem withV_length (l : List MV) (i : Int) (v : MV) : (withV l i v).length = l.length := by
  unfold withV
  split
  · rw [List.length_set]
  · rfl
theorem withV_low (l : List MV) {i : Int} (v : MV) (h : i < 0) : withV l i v = l := by rw [withV, if_neg (by omega)]
theorem withV_high (l : List MV) (k : Nat) (v : MV) (h : l.length ≤ k) : withV l (k : Int) v = l := by
  rw [withV, if_pos (by omega), Int.toNat_natCast, List.set_eq_of_length_le h]
theorem withV_at (l : List MV) (k : Nat) (v : MV) : withV l (k : Int) v = l.set k v := by
  rw [withV, if_pos (by omega), Int.toNat_natCast]
theorem rowV_set : ∀ (l : List MV) (k : Nat) (v : MV), k < l.length → ((rowV l).set (k * 2) (.int .u64 v.n)).set (k * 2 + 1) (.string v.s) = rowV (l.set k v)
  | [], _, _, h => by cases h
  | a :: l, 0, v, _ => by simp [rowV, cellsV]
  | a :: l, k + 1, v, h => by
    have e : ∀ l', rowV (a :: l') = .int .u64 a.n :: .string a.s :: rowV l' := fun l' => by simp [rowV, cellsV]
    have ih := rowV_set l k v (by simpa using h)
    have a1 : (k + 1) * 2 = k * 2 + 1 + 1 := by omega
    have a2 : (k + 1) * 2 + 1 = (k * 2 + 1) + 1 + 1 := by omega
    rw [List.set_cons_succ, e, e, a2, a1, List.set_cons_succ, List.set_cons_succ, List.set_cons_succ, List.set_cons_succ, ih]
theorem own_emptyV (w : World) (e : TypeId) (size : Nat) : (w.alloc (.cells #[] e)).ownsRow w.heap.size e size (.slice (some ⟨w.heap.size, 0, none⟩) 0 0) 0 [] :=
  ⟨by simp, .inr ⟨w.heap.size, 0, #[], rfl, Nat.le_refl _, World.alloc_heap_new w _, Nat.le_refl _, Nat.zero_le _, by simp, by simp⟩⟩

set_option maxRecDepth 100000 in
set_option maxHeartbeats 1000000 in
theorem clone_any (A : Option Addr) (cap : Nat) (l : List MV) (w : World) (hA : ValsAt w A (rowV l)) (h0 : A = none → l.length = 0 ∧ cap = 0) (hl : l.length * 24 ≤ 140737488355328) :
    Calls Tryd.prog 20 #[.slice A l.length cap] w fun e w' => ∃ v, e = .returned v ∧ w'.ownsRow w.heap.size 27 2 v l.length (rowV l) ∧ Below w.heap.size w w' := by
  obtain ⟨i0, hi, hz0, hz1, hz2⟩ := info_partsV infoVal
  cases A with
  | none =>
    obtain ⟨e1, rfl⟩ := h0 rfl
    obtain rfl : l = [] := List.eq_nil_of_length_eq_zero e1
    clear h0 hA hl e1
    dsimp only [List.length_nil]
    have hq : ∀ w, (binOp BinOp.eql 22 (.slice none 0 0) (.slice none 0 0)).run Tryd.prog w = .ok (.bool true) w := fun _ => by kernel_rfl
    go_enter Tryd.func20, Tryd.ntmps20
    go_wp2
    go_ret
    exact ⟨_, rfl, World.ownsRow_nil _ _ _ _, Below.refl _ _⟩
  | some ad =>
    have hrl := Lib.hid (rowV_length l)
    have h1c := Lib.hid (rowV_one l)
    clear h0
    have HA : Hid (ValsAt (w.alloc (.cells #[] 27)) (some ad) (rowV l)) := Lib.hid (hA.below ((Below.refl _ w).alloc (Nat.le_refl _) _))
    generalize rowV l = row at hrl h1c HA ⊢
    generalize l.length = n at hrl hl ⊢
    clear hA
    have hq : ∀ w, (binOp BinOp.eql 22 (.slice (some ad) n cap) (.slice none 0 0)).run Tryd.prog w = .ok (.bool false) w := fun _ => by kernel_rfl
    go_enter Tryd.func20, Tryd.ntmps20
    go_wp2_with (at_builtin; refine wpList_append_row rfl _ _ 22 rfl w.heap.size 27 i0 (.agg #[.int .u64 0, .string ⟨#[]⟩]) 2 24 Tryd.underlying22 hi hz0 hz1 hz2 rfl (by decide) (.slice (some ⟨w.heap.size, 0, none⟩) 0 0) 0 [] rfl (own_emptyV w 27 2) (some ad) n cap row rfl hrl.out HA.out (fun e => by cases e) h1c.out ?s4 ?s5 ?s6 ?s7)
    case s4 => unfold maxLen; omega
    case s5 => omega
    case s6 => simp
    case s7 =>
      intro v1 w1 hown hgrow
      have hB := ((Below.refl w.heap.size w).alloc (Nat.le_refl _) (.cells #[] 27)).grown hgrow (by simp) (fun q hq => ((own_emptyV w 27 2).lt q hq).1)
      have Hown : Hid (w1.ownsRow w.heap.size 27 2 v1 n row) := Lib.hid (by simpa using hown)
      clear hown hgrow HA
      go_wp2
      go_ret
      exact ⟨_, rfl, Hown.out, hB⟩

/-- what With answers -/
def MeAt (m : Me) (w : World) (e : Ending) (w' : World) : Prop :=
  ∃ A cap, e = .returned (encM m A cap) ∧ ValsAt w' A (rowV m.l) ∧ (A = none → m.l.length = 0 ∧ cap = 0) ∧ Below w.heap.size w w'

set_option maxRecDepth 100000 in
set_option maxHeartbeats 2000000 in
theorem with_any (m : Me) (A : Option Addr) (cap : Nat) (i : Int) (v : MV) (w : World) (hA : ValsAt w A (rowV m.l)) (h0 : A = none → m.l.length = 0 ∧ cap = 0) (hl : m.l.length * 24 ≤ 140737488355328) :
    Calls Tryd.prog 12 #[encM m A cap, .int .i64 i, encV v] w (MeAt ⟨m.c, m.i, withV m.l i v⟩ w) := by
  obtain ⟨c, j, l⟩ := m
  obtain ⟨nn, ss⟩ := v
  unfold encM encV
  dsimp only at *
  obtain ⟨l', hl'⟩ : ∃ l', l' = withV l i ⟨nn, ss⟩ := ⟨_, rfl⟩
  rw [← hl']
  have HW := Lib.hid hl'
  clear hl'
  obtain ⟨W0, hW0⟩ : ∃ W0, W0 = ((w.alloc (.cells #[.int .i64 c, .int .i64 j, .slice A l.length cap] 24)).alloc (.cells #[.int .u64 nn, .string ss] 27)).alloc (.cells #[.int .i64 0, .int .i64 0, .slice none 0 0] 24) := ⟨_, rfl⟩
  have hb0 : Below w.heap.size w W0 := by rw [hW0]; exact (((Below.refl _ w).alloc (Nat.le_refl _) _).alloc (by simp) _).alloc (by simp; omega) _
  have hx : Bx W0 w.heap.size 24 [.int .i64 c, .int .i64 j, .slice A l.length cap] := by rw [hW0]; exact ((Bx.new w 24 [.int .i64 c, .int .i64 j, .slice A l.length cap]).alloc _).alloc _
  have hv : Bx W0 (w.heap.size + 1) 27 [.int .u64 nn, .string ss] := by
    have h := Bx.new (w.alloc (.cells #[.int .i64 c, .int .i64 j, .slice A l.length cap] 24)) 27 [.int .u64 nn, .string ss]
    rw [World.size_alloc] at h
    rw [hW0]
    exact h.alloc _
  have hr : Bx W0 (w.heap.size + 1 + 1) 24 [.int .i64 0, .int .i64 0, .slice none 0 0] := by
    have h := Bx.new ((w.alloc (.cells #[.int .i64 c, .int .i64 j, .slice A l.length cap] 24)).alloc (.cells #[.int .u64 nn, .string ss] 27)) 24 [.int .i64 0, .int .i64 0, .slice none 0 0]
    rw [World.size_alloc, World.size_alloc] at h
    rw [hW0]
    exact h
  have hC := clone_any A cap l W0 (hA.below hb0) h0 hl
  have x0 := hx.cell 0 (by simp)
  have x1 := hx.cell 1 (by simp)
  have x2 := hx.cell 2 (by simp)
  dsimp only [List.getElem_cons_zero, List.getElem_cons_succ] at x0 x1 x2
  clear hA h0
  go_enter Tryd.func12, Tryd.ntmps12
  go_wp2_with fail
  rw [← hW0]
  clear hW0
  go_wp2_with fail
  refine hC.mono ?_
  rintro e w1 ⟨v1, rfl, hown, hb1⟩
  obtain ⟨A1, cap1, rfl, hV1, hn1⟩ := row_form hown
  have hx1 := hx.kept hb1
  have hv1 := hv.kept hb1
  have hr1 := hr.kept hb1
  have hB1 := hb0.trans (hb1.mono hb0.size)
  have f2 := hx1.frozen 2
  have y2 := hx1.cell 2 (by simp)
  dsimp only [List.getElem_cons_zero, List.getElem_cons_succ] at y2
  have hx2 := hx1.set 2 (.slice A1 l.length cap1)
  dsimp only [List.set_cons_zero, List.set_cons_succ] at hx2
  have hv2 := hv1.other (B' := w.heap.size) (by omega) 2 (.slice A1 l.length cap1)
  have hr2 := hr1.other (B' := w.heap.size) (by omega) 2 (.slice A1 l.length cap1)
  have hB2 := hB1.setCell (p := ⟨w.heap.size, 2, none⟩) (Nat.le_refl _) (.slice A1 l.length cap1)
  have hown2 := Keeps.row (p := fun t => t != 24) (Keeps.setCell (show w1.heap[w.heap.size]? = _ from hx1) (by decide) 2 (.slice A1 l.length cap1)) hown (by decide)
  have hbase : w.heap.size + 1 + 1 < W0.heap.size := hr.lt
  have hH := has_any ⟨c, j, l⟩ A1 cap1 i (w1.setCell ⟨w.heap.size, 2, none⟩ (.slice A1 l.length cap1))
  unfold encM at hH
  dsimp only at hH
  have z0 := hx2.cell 0 (by simp)
  have z1 := hx2.cell 1 (by simp)
  have z2 := hx2.cell 2 (by simp)
  dsimp only [List.getElem_cons_zero, List.getElem_cons_succ] at z0 z1 z2
  clear hC hx hv hr hb0 hb1 hx1 hv1 hr1 hB1 hown hV1 x0 x1 x2
  go_wp2_with fail
  refine hH.mono ?_
  rintro e w3 ⟨rfl, hb3⟩
  have hx3 := hx2.kept hb3
  have hv3 := hv2.kept hb3
  have hr3 := hr2.kept hb3
  have hB3 := hB2.trans (hb3.mono hB2.size)
  have hown3 := rowKept hown2 hb3
  have q0 := hx3.cell 0 (by simp)
  have q1 := hx3.cell 1 (by simp)
  have q2 := hx3.cell 2 (by simp)
  dsimp only [List.getElem_cons_zero, List.getElem_cons_succ] at q0 q1 q2
  clear hH hx2 hv2 hr2 hB2 hown2 hb3 z0 z1 z2 f2 y2
  have HB : Hid (w.heap.size + 1 + 1 < W0.heap.size) := Lib.hid hbase
  clear hbase
  by_cases hin : ∃ k : Nat, i = k ∧ k < l.length
  · obtain ⟨k, rfl, hk⟩ := hin
    have tb : (decide (0 ≤ (k : Int)) && decide ((k : Int) < (l.length : Int))) = true := by simp; omega
    rw [tb]
    have HE : Hid (l.set k ⟨nn, ss⟩ = l') := Lib.hid (by rw [HW.out, withV_at])
    clear tb hn1 HW
    obtain ⟨g, cap2, e2, hg, hglt⟩ := hown3.form (by omega)
    obtain ⟨rfl, rfl⟩ : A1 = some ⟨g, 0, none⟩ ∧ cap1 = cap2 := by simpa using e2
    clear e2
    have hgB : w.heap.size + 1 + 1 < g := by have := HB.out; omega
    have c0 := hown3.cellAt (k * 2) (by omega)
    have c1 := hown3.cellAt (k * 2 + 1) (by omega)
    obtain ⟨r0, r1⟩ := v_cells l k hk
    rw [r0] at c0
    rw [r1] at c1
    have g0 := hown3.frozenAt (k * 2)
    obtain ⟨own4, -⟩ := hown3.stored (k * 2) (.int .u64 nn)
    have g1 := own4.frozenAt (k * 2 + 1)
    have c1' : (w3.setCell ⟨g, k * 2, none⟩ (.int .u64 nn)).cell? ⟨g, k * 2 + 1, none⟩ = some (.string l[k].s) := by
      rw [own4.cellAt (k * 2 + 1) (by omega), List.getElem?_set_ne (by omega)]
      exact r1
    obtain ⟨own5, -⟩ := own4.stored (k * 2 + 1) (.string ss)
    have hrs := rowV_set l k ⟨nn, ss⟩ hk
    dsimp only at hrs
    rw [hrs] at own5
    have hx4 := (hx3.other (B' := g) (by omega) (k * 2) (.int .u64 nn)).other (B' := g) (by omega) (k * 2 + 1) (.string ss)
    have hr4 := (hr3.other (B' := g) (by omega) (k * 2) (.int .u64 nn)).other (B' := g) (by omega) (k * 2 + 1) (.string ss)
    have hB4 := (hB3.setCell (p := ⟨g, k * 2, none⟩) (by simp; omega) (.int .u64 nn)).setCell (p := ⟨g, k * 2 + 1, none⟩) (by simp; omega) (.string ss)
    have s0 := hv3.cell 0 (by simp)
    have s1 := hv3.cell 1 (by simp)
    have u0 := hx4.cell 0 (by simp)
    have u1 := hx4.cell 1 (by simp)
    have u2 := hx4.cell 2 (by simp)
    dsimp only [List.getElem_cons_zero, List.getElem_cons_succ] at s0 s1 u0 u1 u2
    obtain ⟨a0, f0, a1, f1, a2, f2, bR⟩ := hr4.store3 (.int .i64 c) (.int .i64 j) (.slice (some ⟨g, 0, none⟩) l.length cap1)
    have hB5 := below_store3 hB4 (B := w.heap.size + 1 + 1) (by omega) (.int .i64 c) (.int .i64 j) (.slice (some ⟨g, 0, none⟩) l.length cap1)
    have HV : Hid (ValsAt ((((((w3.setCell ⟨g, k * 2, none⟩ (.int .u64 nn)).setCell ⟨g, k * 2 + 1, none⟩ (.string ss)).setCell ⟨w.heap.size + 1 + 1, 0, none⟩ (.int .i64 c)).setCell ⟨w.heap.size + 1 + 1, 1, none⟩ (.int .i64 j)).setCell ⟨w.heap.size + 1 + 1, 2, none⟩ (.slice (some ⟨g, 0, none⟩) l.length cap1))) (some ⟨g, 0, none⟩) (rowV (l.set k ⟨nn, ss⟩))) := Lib.hid (by
      have k1 := Keeps.setCell (p := fun t => t != 24) (show _ = _ from hr4) (by decide) 0 (.int .i64 c)
      have k2 := Keeps.setCell (p := fun t => t != 24) (show _ = _ from hr4.set 0 (.int .i64 c)) (by decide) 1 (.int .i64 j)
      have k3 := Keeps.setCell (p := fun t => t != 24) (show _ = _ from (hr4.set 0 (.int .i64 c)).set 1 (.int .i64 j)) (by decide) 2 (.slice (some ⟨g, 0, none⟩) l.length cap1)
      obtain ⟨A', c', e', hV', -⟩ := row_form (((k1.trans k2).trans k3).row own5 (by decide))
      cases e'
      exact hV')
    have HL : Hid ((l.set k ⟨nn, ss⟩).length = l.length) := Lib.hid (by rw [List.length_set])
    rw [HE.out] at HV HL
    clear HE
    clear hx3 hv3 hr3 hB3 hown3 own4 own5 hrs hx4 hr4 hB4 r0 r1 hl
    generalize l[k] = lk at c0 c1 c1'
    go_wp2
    have y0 := bR.cell 0 (by simp)
    have y1 := bR.cell 1 (by simp)
    have y2 := bR.cell 2 (by simp)
    dsimp only [List.getElem_cons_zero, List.getElem_cons_succ] at y0 y1 y2
    refine bodyPost_ret (v := encM ⟨c, j, l'⟩ (some ⟨g, 0, none⟩) cap1) ?_ rfl ⟨some ⟨g, 0, none⟩, cap1, rfl, HV.out, (fun e => by cases e), hB5⟩
    rw [results_cell rfl]
    simp only [encM, HL.out]
    simp [asAddr, Result.andThen, go_sem, y0, y1, y2]
  · have tb : (decide (0 ≤ i) && decide (i < (l.length : Int))) = false := by
      rcases int_cases i l.length with h | h | ⟨k, rfl, h⟩
      · simp; omega
      · exact absurd h hin
      · simp; omega
    have hw : withV l i ⟨nn, ss⟩ = l := by
      rcases int_cases i l.length with h | h | ⟨k, rfl, h⟩
      · exact withV_low l _ h
      · exact absurd h hin
      · exact withV_high l k _ h
    rw [tb]
    obtain rfl : l = l' := by rw [HW.out]; exact hw.symm
    obtain ⟨a0, f0, a1, f1, a2, f2, bR⟩ := hr3.store3 (.int .i64 c) (.int .i64 j) (.slice A1 l.length cap1)
    have hB5 := below_store3 hB3 (B := w.heap.size + 1 + 1) (by omega) (.int .i64 c) (.int .i64 j) (.slice A1 l.length cap1)
    have HV : Hid (ValsAt (((w3.setCell ⟨w.heap.size + 1 + 1, 0, none⟩ (.int .i64 c)).setCell ⟨w.heap.size + 1 + 1, 1, none⟩ (.int .i64 j)).setCell ⟨w.heap.size + 1 + 1, 2, none⟩ (.slice A1 l.length cap1)) A1 (rowV l)) := Lib.hid (by
      have k1 := Keeps.setCell (p := fun t => t != 24) (show _ = _ from hr3) (by decide) 0 (.int .i64 c)
      have k2 := Keeps.setCell (p := fun t => t != 24) (show _ = _ from hr3.set 0 (.int .i64 c)) (by decide) 1 (.int .i64 j)
      have k3 := Keeps.setCell (p := fun t => t != 24) (show _ = _ from (hr3.set 0 (.int .i64 c)).set 1 (.int .i64 j)) (by decide) 2 (.slice A1 l.length cap1)
      obtain ⟨A', c', e', hV', -⟩ := row_form (((k1.trans k2).trans k3).row hown3 (by decide))
      cases e'
      exact hV')
    have HN := Lib.hid hn1
    clear tb hw hin HW hx3 hv3 hr3 hB3 hown3 hn1 hl
    go_wp2
    have y0 := bR.cell 0 (by simp)
    have y1 := bR.cell 1 (by simp)
    have y2 := bR.cell 2 (by simp)
    dsimp only [List.getElem_cons_zero, List.getElem_cons_succ] at y0 y1 y2
    refine bodyPost_ret (v := encM ⟨c, j, l⟩ A1 cap1) ?_ rfl ⟨A1, cap1, rfl, HV.out, HN.out, hB5⟩
    rw [results_cell rfl]
    simp [asAddr, Result.andThen, go_sem, y0, y1, y2, encM]
end Go.Proofs.YtmpfkommeakgbaaDoor
