/-
  The document's own Arg and With of chapter 6 answer as the program's; nothing that was there is changed. Conditions: the values lie in old memory, of at most 2^47 bytes.
-/
import Derived.Test.YtmpfkommeakgbaaDoorRMSame
namespace Go.Proofs.YtmpfkommeakgbaaDoor
open Go.RowKit

set_option maxHeartbeats 1000000 in
theorem rarg_any (m : Me) (A : Option Addr) (cap : Nat) (i : Int) (w : World) (hA : ValsAt w A (rowV m.l)) :
    Calls Tryd.prog 15 #[encM m A cap, .int .i64 i] w fun e w' => e = .returned (encV (argV m.l i)) ∧ Below w.heap.size w w' := by
  have hb0 : Below w.heap.size w ((w.alloc (.cells #[.int .i64 m.c, .int .i64 m.i, .slice A m.l.length cap] 24)).alloc (.cells #[.int .u64 0, .string ⟨#[]⟩] 27)) := ((Below.refl _ w).alloc (Nat.le_refl _) _).alloc (by simp) _
  have hx := (Bx.new w 24 [.int .i64 m.c, .int .i64 m.i, .slice A m.l.length cap]).alloc (.cells #[.int .u64 0, .string ⟨#[]⟩] 27)
  have hy := Bx.new (w.alloc (.cells #[.int .i64 m.c, .int .i64 m.i, .slice A m.l.length cap] 24)) 27 [.int .u64 0, .string ⟨#[]⟩]
  rw [World.size_alloc] at hy
  obtain ⟨c, j, l⟩ := m
  unfold encM
  dsimp only at *
  have x2 := hx.cell 2 (by simp)
  dsimp only [List.getElem_cons_zero, List.getElem_cons_succ] at x2
  clear hy hx hb0
  rcases int_cases i l.length with hi | ⟨k, rfl, hk⟩ | ⟨k, rfl, hk⟩
  · have hd : decide (i < 0) = true := by simpa using hi
    rw [argV_low l hi]
    clear hi hA
    go_enter Tryd.func15, Tryd.ntmps15
    go_wp2
    refine bodyPost_ret (v := encV noV) ?_ rfl ⟨rfl, (((Below.refl _ w).alloc (Nat.le_refl _) _).alloc (by simp) _)⟩
    rw [results_cell rfl]
    simp [asAddr, Result.andThen, go_sem, encV, noV]
  · have hd : decide ((l.length : Int) ≤ (k : Int)) = false := by simp; omega
    rw [argV_at l k hk]
    obtain ⟨b0, off, rfl, hbl, hc⟩ := vals_v hA (by omega)
    obtain ⟨x0, x1⟩ := hc k hk
    generalize l[k] = v at x0 x1 ⊢
    obtain ⟨nn, ss⟩ := v
    dsimp only at x0 x1
    have hB : Below w.heap.size w ((w.alloc (.cells #[.int .i64 c, .int .i64 j, .slice (some ⟨b0, off, none⟩) l.length cap] 24)).alloc (.cells #[.int .u64 0, .string ⟨#[]⟩] 27)) := ((Below.refl _ w).alloc (Nat.le_refl _) _).alloc (by simp) _
    have z0 := (hB.cell (p := ⟨b0, off + k * 2, none⟩) hbl).trans x0
    have z1 := (hB.cell (p := ⟨b0, off + k * 2 + 1, none⟩) hbl).trans x1
    clear hc hA hB x0 x1
    go_enter Tryd.func15, Tryd.ntmps15
    go_wp2
    refine bodyPost_ret (v := encV ⟨nn, ss⟩) ?_ rfl ⟨rfl, (((Below.refl _ w).alloc (Nat.le_refl _) _).alloc (by simp) _)⟩
    rw [results_cell rfl]
    simp [asAddr, Result.andThen, go_sem, encV]
  · have hd : decide ((l.length : Int) ≤ (k : Int)) = true := by simp; omega
    rw [argV_high l k hk]
    clear hA
    go_enter Tryd.func15, Tryd.ntmps15
    go_wp2
    refine bodyPost_ret (v := encV noV) ?_ rfl ⟨rfl, (((Below.refl _ w).alloc (Nat.le_refl _) _).alloc (by simp) _)⟩
    rw [results_cell rfl]
    simp [asAddr, Result.andThen, go_sem, encV, noV]

theorem take_rowV {l : List MV} {k : Nat} (h : k < l.length) : rowV (l.take (k + 1)) = rowV (l.take k) ++ cellsV l[k] := by
  rw [List.take_add_one, List.getElem?_eq_getElem h]
  exact rowV_snoc _ _

structure RwI (w : World) (N : Nat) (c j : Int) (A : Option Addr) (n cap : Nat) (v : MV) (l' : List MV) (k : Nat) (wr : World) (vv : Value) : Prop where
  hm : Bx wr w.heap.size 24 [.int .i64 c, .int .i64 j, .slice A n cap]
  hv : Bx wr (w.heap.size + 1) 27 [.int .u64 v.n, .string v.s]
  hr : Bx wr (w.heap.size + 1 + 1) 24 [.int .i64 0, .int .i64 0, .slice none 0 0]
  ho : Bx wr (w.heap.size + 1 + 1 + 1) 24 [.int .i64 c, .int .i64 j, vv]
  row : wr.ownsRow N 27 2 vv k (rowV (l'.take k))
  bel : Below w.heap.size w wr
  sz : N ≤ wr.heap.size
  nn : w.heap.size + 1 + 1 + 1 < N
theorem bx_row {W W' : World} {N B : Nat} {t e : TypeId} {xs ys : List Value} {vv : Value} {k : Nat} (h : Bx W B t xs) (hB : B < N) (hrow : W.ownsRow N e 2 vv k ys) (hg : W.grownBy W' vv.ownBlock) : Bx W' B t xs :=
  (hg.block B h.lt (fun e => by have := (hrow.lt B e.symm).1; omega)).trans h
/-- behind an append to the row, and the store of it -/
theorem RwI.step {w : World} {N : Nat} {c j : Int} {A : Option Addr} {n cap : Nat} {v : MV} {l' : List MV} {k : Nat} {wr : World} {vv : Value} (h : RwI w N c j A n cap v l' k wr vv) (u : MV) (hk : k < l'.length) (hu : l'[k] = u) {tmp : Obj} {w4 : World} {o' : Value}
    (hown : w4.ownsRow N 27 2 o' (k + 1) (rowV (l'.take k) ++ [.int .u64 u.n, .string u.s])) (hg : (wr.alloc tmp).grownBy w4 vv.ownBlock) :
    Bx w4 (w.heap.size + 1 + 1 + 1) 24 [.int .i64 c, .int .i64 j, vv] ∧ RwI w N c j A n cap v l' (k + 1) (w4.setCell ⟨w.heap.size + 1 + 1 + 1, 2, none⟩ o') o' := by
  have hN := h.nn
  have hrow := h.row.alloc tmp
  have ho := bx_row (h.ho.alloc tmp) hN hrow hg
  refine ⟨ho, ⟨?_, ?_, ?_, ?_, ?_, ?_, ?_, hN⟩⟩
  · exact (bx_row (h.hm.alloc tmp) (by omega) hrow hg).other (by omega) 2 o'
  · exact (bx_row (h.hv.alloc tmp) (by omega) hrow hg).other (by omega) 2 o'
  · exact (bx_row (h.hr.alloc tmp) (by omega) hrow hg).other (by omega) 2 o'
  · exact ho.set 2 o'
  · rw [take_rowV hk, hu]
    exact Keeps.row (p := fun t => t != 24) (Keeps.setCell (show w4.heap[w.heap.size + 1 + 1 + 1]? = _ from ho) (by decide) 2 o') hown (by decide)
  · exact (((h.bel.alloc h.bel.size tmp).grown hg (by have := h.bel.size; simp; omega) (fun q hq => by have := (h.row.lt q hq).1; omega))).setCell (p := ⟨w.heap.size + 1 + 1 + 1, 2, none⟩) (by simp; omega) o'
  · have h1 := h.sz
    have h2 := hg.size
    rw [World.size_alloc] at h2
    simp only [World.size_setCell]
    omega
set_option maxRecDepth 100000 in
set_option maxHeartbeats 4000000 in
theorem rwith_any (m : Me) (A : Option Addr) (cap : Nat) (i : Int) (v : MV) (w : World) (hA : ValsAt w A (rowV m.l)) (hl : m.l.length * 24 ≤ 140737488355328) :
    Calls Tryd.prog 13 #[encM m A cap, .int .i64 i, encV v] w (MeAt ⟨m.c, m.i, withV m.l i v⟩ w) := by
  obtain ⟨i0, hi, hz0, hz1, hz2⟩ := info_partsV infoVal
  obtain ⟨c, j, l⟩ := m
  obtain ⟨nn, ss⟩ := v
  unfold encM encV
  dsimp only at *
  obtain ⟨l', hl'⟩ : ∃ l', l' = withV l i ⟨nn, ss⟩ := ⟨_, rfl⟩
  rw [← hl']
  have hll : l'.length = l.length := by rw [hl', withV_length]
  have HW : Hid (∀ k (h : k < l'.length), ((k : Int) = i → l'[k] = ⟨nn, ss⟩) ∧ (¬ (k : Int) = i → ∀ h2 : k < l.length, l'[k] = l[k])) := Lib.hid (fun k h => by
    subst hl'
    constructor
    · rintro rfl
      simp [withV]
    · intro hne h2
      unfold withV
      by_cases h0 : 0 ≤ i
      · simp only [if_pos h0]
        rw [List.getElem_set_ne (by omega)]
      · simp only [if_neg h0])
  clear hl'
  obtain ⟨n, hn⟩ : ∃ n, l.length = n := ⟨_, rfl⟩
  have HN := Lib.hid hn
  have HN' : Hid (l'.length = n) := Lib.hid (hll.trans hn)
  rw [hn] at hl ⊢
  clear hll hn
  obtain ⟨W0, hW0⟩ : ∃ W0, W0 = (((w.alloc (.cells #[.int .i64 c, .int .i64 j, .slice A n cap] 24)).alloc (.cells #[.int .u64 nn, .string ss] 27)).alloc (.cells #[.int .i64 0, .int .i64 0, .slice none 0 0] 24)).alloc (.cells #[.int .i64 c, .int .i64 j, .slice none 0 0] 24) := ⟨_, rfl⟩
  have hb0 : Below w.heap.size w W0 := by rw [hW0]; exact ((((Below.refl _ w).alloc (Nat.le_refl _) _).alloc (by simp) _).alloc (by simp; omega) _).alloc (by simp; omega) _
  have hx : Bx W0 w.heap.size 24 [.int .i64 c, .int .i64 j, .slice A n cap] := by rw [hW0]; exact (((Bx.new w 24 [.int .i64 c, .int .i64 j, .slice A n cap]).alloc _).alloc _).alloc _
  have hv : Bx W0 (w.heap.size + 1) 27 [.int .u64 nn, .string ss] := by
    have h := Bx.new (w.alloc (.cells #[.int .i64 c, .int .i64 j, .slice A n cap] 24)) 27 [.int .u64 nn, .string ss]
    rw [World.size_alloc] at h
    rw [hW0]
    exact (h.alloc _).alloc _
  have hr : Bx W0 (w.heap.size + 1 + 1) 24 [.int .i64 0, .int .i64 0, .slice none 0 0] := by
    have h := Bx.new ((w.alloc (.cells #[.int .i64 c, .int .i64 j, .slice A n cap] 24)).alloc (.cells #[.int .u64 nn, .string ss] 27)) 24 [.int .i64 0, .int .i64 0, .slice none 0 0]
    rw [World.size_alloc, World.size_alloc] at h
    rw [hW0]
    exact h.alloc _
  have ho : Bx W0 (w.heap.size + 1 + 1 + 1) 24 [.int .i64 c, .int .i64 j, .slice none 0 0] := by
    have h := Bx.new (((w.alloc (.cells #[.int .i64 c, .int .i64 j, .slice A n cap] 24)).alloc (.cells #[.int .u64 nn, .string ss] 27)).alloc (.cells #[.int .i64 0, .int .i64 0, .slice none 0 0] 24)) 24 [.int .i64 c, .int .i64 j, .slice none 0 0]
    rw [World.size_alloc, World.size_alloc, World.size_alloc] at h
    rw [hW0]
    exact h
  go_enter Tryd.func13, Tryd.ntmps13
  go_wp2_with fail
  rw [← hW0]
  clear hW0
  have hI : RwI w W0.heap.size c j A n cap ⟨nn, ss⟩ l' 0 W0 (.slice none 0 0) := ⟨hx, hv, hr, ho, World.ownsRow_nil _ _ _ _, hb0, Nat.le_refl _, ho.lt⟩
  generalize W0.heap.size = N at hI
  clear hx hv hr ho hb0
  go_loopw [8] (fun x wr => ∃ k : Nat, k ≤ n ∧ x = .int .i64 k ∧ ∃ vv, RwI w N c j A n cap ⟨nn, ss⟩ l' k wr vv) (fun x _ => n - (intOf x).toNat)
  case atStart => exact ⟨0, Nat.zero_le _, rfl, _, hI⟩
  case round =>
    obtain ⟨k, hk, rfl, vv, HI⟩ := hrel
    clear hI
    have x2 := HI.hm.cell 2 (by simp)
    have o2 := HI.ho.cell 2 (by simp)
    dsimp only [List.getElem_cons_zero, List.getElem_cons_succ] at x2 o2
    by_cases hlt : k < n
    · have hkl : k < l.length := by rw [HN.out]; exact hlt
      have hkl' : k < l'.length := by rw [HN'.out]; exact hlt
      obtain ⟨hw1, hw2⟩ := HW.out k hkl'
      have e1 : IntKind.i64.wrap ((k : Int) + 1) = ((k + 1 : Nat) : Int) := by simp only [IntKind.wrap_i64]; omega
      by_cases hki : (k : Int) = i
      · have HS := Lib.hid (fun tmp w4 o' => HI.step ⟨nn, ss⟩ hkl' (hw1 hki) (tmp := tmp) (w4 := w4) (o' := o'))
        have tk : ((k : Int) == i) = true := by simpa using hki
        have v0 := HI.hv.cell 0 (by simp)
        have v1 := HI.hv.cell 1 (by simp)
        dsimp only [List.getElem_cons_zero, List.getElem_cons_succ] at v0 v1
        have hrow := HI.row
        have hsz := HI.sz
        generalize rowV (l'.take k) = xs at hrow HS
        clear hw1 hw2 hki HI hA
        go_wp2_with (first
          | (at_builtin; refine wpList_append_own _ rfl _ _ 22 rfl N 27 i0 (.agg #[.int .u64 0, .string ⟨#[]⟩]) 2 24 Tryd.underlying22 hi hz0 hz1 hz2 rfl (by decide) _ _ _ rfl (hrow.alloc _) ⟨wr.heap.size, 0, none⟩ 1 1 [.int .u64 nn, .string ss] rfl rfl (cell_pair_new _ _ _ _) (by simp [Value.oneCell']) (by unfold maxLen; omega) (by omega) (by simp; omega) ?_))
        intro o' w4 hown' hgrow _
        obtain ⟨g1, g2⟩ := HS.out _ _ _ hown' hgrow
        have b2 := g1.cell 2 (by simp)
        have f2 := g1.frozen 2
        dsimp only [List.getElem_cons_zero, List.getElem_cons_succ] at b2
        obtain ⟨ao, n', cap', rfl⟩ : ∃ ao n' cap', o' = .slice ao n' cap' := by
          rcases hown'.2 with ⟨hv, _⟩ | ⟨g, cap, cur, hv, _⟩
          · exact ⟨_, _, _, hv⟩
          · exact ⟨_, _, _, hv⟩
        clear HS hown' hgrow g1 hrow
        go_wp2
        go_roundw
        case rel => exact ⟨k + 1, hlt, rfl, _, g2⟩
        case measure => simp only [intOf]; omega
      · have HS := Lib.hid (fun tmp w4 o' => HI.step l[k] hkl' (hw2 hki hkl) (tmp := tmp) (w4 := w4) (o' := o'))
        have tk : ((k : Int) == i) = false := by simpa using hki
        obtain ⟨b0, off, rfl, hbl, hc⟩ := vals_v hA (by omega)
        obtain ⟨y0, y1⟩ := hc k hkl
        have y0 := (HI.bel.cell (p := ⟨b0, off + k * 2, none⟩) hbl).trans y0
        have y1 := (HI.bel.cell (p := ⟨b0, off + k * 2 + 1, none⟩) hbl).trans y1
        generalize l[k] = lk at y0 y1 HS
        obtain ⟨ln, ls⟩ := lk
        dsimp only at y0 y1 HS
        have hrow := HI.row
        have hsz := HI.sz
        have o3 := (HI.ho.alloc (.cells #[.int .u64 ln, .string ls] 27)).cell 2 (by simp)
        dsimp only [List.getElem_cons_zero, List.getElem_cons_succ] at o3
        generalize rowV (l'.take k) = xs at hrow HS
        clear hw1 hw2 hki HI hA hc
        go_wp2
        have hsz' : N ≤ (wr.drew.alloc (.cells #[.int .u64 ln, .string ls] 27)).heap.size := by rw [World.size_alloc]; exact Nat.le_succ_of_le hsz
        go_region_law (refine step_append_lies _ rfl (.tmp 31) (.tmp 37) 22 rfl N 27 i0 (.agg #[.int .u64 0, .string ⟨#[]⟩]) 2 24 Tryd.underlying22 hi hz0 hz1 hz2 rfl (by decide) vv _ _ rfl (hrow.alloc _) ⟨wr.heap.size, 0, none⟩ 1 1 [.int .u64 ln, .string ls] rfl rfl (cell_pair_new wr.drew _ _ _) (by simp [Value.oneCell']) (by decide) (by unfold maxLen; omega) (by omega) hsz' _ rfl ?_; intro g3 cap3 w3 hown3 hgrow3 hat3 hlt3; obtain ⟨g1, g2⟩ := HS.out (.cells #[.int .u64 ln, .string ls] 27) w3 _ hown3 ⟨hgrow3.os, hgrow3.tape, hgrow3.output, hgrow3.size, hgrow3.block⟩; have b2 := g1.cell 2 (by simp); have f2 := g1.frozen 2; dsimp only [List.getElem_cons_zero, List.getElem_cons_succ] at b2)
        all_goals (clear HS hown3 hgrow3 g1 hrow hat3; go_wp2; go_roundw)
        all_goals first
          | exact ⟨k + 1, hlt, rfl, _, g2⟩
          | (simp only [intOf]; omega)
    · obtain rfl : k = n := by omega
      have o0 := HI.ho.cell 0 (by simp)
      have o1 := HI.ho.cell 1 (by simp)
      dsimp only [List.getElem_cons_zero, List.getElem_cons_succ] at o0 o1
      obtain ⟨A1, cap1, rfl, hV1, hn1⟩ := row_form HI.row
      obtain ⟨a0, f0, a1, f1, a2, f2, bR⟩ := HI.hr.store3 (.int .i64 c) (.int .i64 j) (.slice A1 k cap1)
      have hB5 := below_store3 HI.bel (B := w.heap.size + 1 + 1) (by omega) (.int .i64 c) (.int .i64 j) (.slice A1 k cap1)
      have HV : Hid (ValsAt (((wr.setCell ⟨w.heap.size + 1 + 1, 0, none⟩ (.int .i64 c)).setCell ⟨w.heap.size + 1 + 1, 1, none⟩ (.int .i64 j)).setCell ⟨w.heap.size + 1 + 1, 2, none⟩ (.slice A1 k cap1)) A1 (rowV l')) := Lib.hid (by
        have k1 := Keeps.setCell (p := fun t => t != 24) (show _ = _ from HI.hr) (by decide) 0 (.int .i64 c)
        have k2 := Keeps.setCell (p := fun t => t != 24) (show _ = _ from HI.hr.set 0 (.int .i64 c)) (by decide) 1 (.int .i64 j)
        have k3 := Keeps.setCell (p := fun t => t != 24) (show _ = _ from (HI.hr.set 0 (.int .i64 c)).set 1 (.int .i64 j)) (by decide) 2 (.slice A1 k cap1)
        obtain ⟨A', c', e', hV', -⟩ := row_form (((k1.trans k2).trans k3).row HI.row (by decide))
        cases e'
        rw [List.take_of_length_le (by rw [HN'.out]; exact Nat.le_refl _)] at hV'
        exact hV')
      have HM : Hid (A1 = none → l'.length = 0 ∧ cap1 = 0) := Lib.hid (by rw [HN'.out]; exact hn1)
      clear HI hA HW hn1 hV1
      go_wp2
      have y0 := bR.cell 0 (by simp)
      have y1 := bR.cell 1 (by simp)
      have y2 := bR.cell 2 (by simp)
      dsimp only [List.getElem_cons_zero, List.getElem_cons_succ] at y0 y1 y2
      refine bodyPost_ret (v := encM ⟨c, j, l'⟩ A1 cap1) ?_ rfl ⟨A1, cap1, rfl, HV.out, HM.out, hB5⟩
      rw [results_cell rfl]
      simp only [encM, HN'.out]
      simp [asAddr, Result.andThen, go_sem, y0, y1, y2]
end Go.Proofs.YtmpfkommeakgbaaDoor
