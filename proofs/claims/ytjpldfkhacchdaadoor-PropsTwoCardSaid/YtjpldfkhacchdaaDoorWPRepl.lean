/-
  slices.Replace of a row of one's own: one value put between two, or in one's place; nothing older is changed. Conditions: at most 14 values.
-/
import Derived.BigQuiet
import Derived.Deep.QuietTactic
import Derived.Test.YtjpldfkhacchdaaDoorWPIns
namespace Go.Proofs.YtjpldfkhacchdaaDoor
open Go.RowKit

def repV (l : List MV) (i : Nat) (u : MV) : List MV := l.take i ++ u :: l.drop (i + 1)
theorem rowV_rep (l : List MV) (i : Nat) (u : MV) : rowV (repV l i u) = rowV (l.take i) ++ (cellsV u ++ rowV (l.drop (i + 1))) := by
  rw [repV, rowV_append]; rfl
theorem repV_length (l : List MV) (i : Nat) (u : MV) (h : i < l.length) : (repV l i u).length = l.length := by
  simp [repV]; omega

theorem clear_none (ad : Addr) (c : Nat) (W : World) : (Builtin.clear_ #[23] 0 #[.slice (some ad) 0 c]).run Tryd.prog W = .ok (.tuple #[]) W := by
  simp [Builtin.clear_, run_underlying Tryd.underlying23]

set_option maxRecDepth 100000 in
set_option maxHeartbeats 2000000 in
theorem replace_last (l : List MV) (u : MV) (i g c N vb : Nat) (w : World) (hN : N ≤ w.heap.size) (hrow : w.ownsRow N 40 2 (.slice (some ⟨g, 0, none⟩) l.length c) l.length (rowV l)) (hi : i + 1 = l.length) (hl : l.length ≤ 14) (hv : Bx w vb 40 (cellsV u)) :
    Calls Tryd.prog 42 #[.slice (some ⟨g, 0, none⟩) l.length c, .int .i64 i, .int .i64 ((i + 1 : Nat) : Int), .slice (some ⟨vb, 0, none⟩) 1 1] w fun e w' => ∃ v', e = .returned v' ∧ w'.ownsRow N 40 2 v' l.length (rowV (repV l i u)) ∧ Below N w w' := by
  obtain ⟨i0, hi0, hz0, hz1, hz2⟩ := info_partsV infoVal
  have hrow' : w.ownsRow N 40 2 (.slice (some ⟨g, 0, none⟩) i c) i (rowV (l.take i)) := by
    rcases hrow.2 with ⟨h, -⟩ | ⟨g', c', cur, e, h1, h2, h3, h4, h5, h6⟩
    · cases h
    · cases e
      refine ⟨by rw [rowV_length, List.length_take]; omega, .inr ⟨g, c, cur, rfl, h1, h2, by omega, h4, h5, ?_⟩⟩
      rw [← rowV_take, ← h6, List.take_take, Nat.min_eq_left (by omega)]
  have hnc : l.length ≤ c := by
    rcases hrow.2 with ⟨h, -⟩ | ⟨g', c', cur, e, h1, h2, h3, h4, h5, h6⟩
    · cases h
    · cases e; exact h3
  have hnew := bx_cells hv
  have hu1 := cellsV_one u
  have hcu : (cellsV u).length = 1 * 2 := rfl
  have HB : Hid (∀ w1, w.grownBy w1 (Value.slice (some ⟨g, 0, none⟩) i c).ownBlock → Below N w w1) := Lib.hid (fun w1 hg => (Below.refl N w).grown hg (by omega) (fun q hq => (hrow'.lt q hq).1))
  have HE : Hid (rowV (repV l i u) = rowV (l.take i) ++ cellsV u) := Lib.hid (by rw [rowV_rep, hi, List.drop_length]; simp [rowV])
  obtain ⟨n, hn⟩ : ∃ n, l.length = n := ⟨_, rfl⟩
  rw [hn] at hi hnc hl ⊢
  generalize cellsV u = cu at *
  generalize rowV (repV l i u) = rr at *
  generalize rowV (l.take i) = row at *
  clear hv hrow hn
  have hz : ¬ ((i : Int) = (i : Int) + 1) := by omega
  have h1 : (i : Int) + 1 ≤ (c : Int) := by omega
  have h2 : (i : Int) ≤ (i : Int) + 1 := by omega
  have h3 : (i : Int) ≤ (c : Int) := by omega
  have hci : ¬ (c = i) := by omega
  have e1 : ((i : Int) + 1).toNat = i + 1 := by omega
  subst hi
  go_enter Tryd.func42, Tryd.ntmps42
  go_wp2_with (at_builtin; refine wpList_append_own _ rfl _ _ 23 rfl N 40 i0 (.agg #[.int .u64 0, .string ⟨#[]⟩]) 2 24 Tryd.underlying23 hi0 hz0 hz1 hz2 rfl (by decide) _ _ _ rfl hrow' ⟨vb, 0, none⟩ 1 1 cu rfl hcu hnew hu1 (by unfold maxLen; omega) (by omega) hN ?_)
  intro o' w1 hown' hgrow _
  have HB1 := Lib.hid (HB.out _ hgrow)
  have HO := Lib.hid hown'
  obtain ⟨ao, cap', rfl⟩ : ∃ ao cap', o' = .slice ao (i + 1) cap' := by
    rcases hown'.2 with ⟨hv, h0⟩ | ⟨g, cap, cur, hv, _⟩
    · omega
    · exact ⟨_, _, hv⟩
  clear hown' hgrow hrow' HB
  go_wp2
  go_ret
  exact ⟨_, rfl, by rw [HE.out]; exact HO.out, HB1.out⟩

set_option maxRecDepth 100000 in
set_option maxHeartbeats 2000000 in
theorem replace_mid (l : List MV) (u : MV) (i g c vb : Nat) (cur : List Value) (w : World) (hi : i + 1 < l.length) (hnc : l.length ≤ c) (hl : l.length ≤ 14)
    (hg : w.heap[g]? = some (.cells cur.toArray 40 (0, 0))) (hcl : cur.length = c * 2) (hcur : cur.take (l.length * 2) = rowV l) (hv : Bx w vb 40 (cellsV u)) :
    Calls Tryd.prog 42 #[.slice (some ⟨g, 0, none⟩) l.length c, .int .i64 i, .int .i64 ((i + 1 : Nat) : Int), .slice (some ⟨vb, 0, none⟩) 1 1] w fun e w' => e = .returned (.slice (some ⟨g, 0, none⟩) l.length c) ∧ ∃ L : List Value, w'.heap[g]? = some (.cells L.toArray 40 (0, 0)) ∧ L.length = c * 2 ∧ L.take (l.length * 2) = rowV (repV l i u) ∧ Below g w w' := by
  obtain ⟨n, hn⟩ : ∃ n, l.length = n := ⟨_, rfl⟩
  rw [hn] at hi hnc hl ⊢
  have hz : ¬ ((i : Int) = (i : Int) + 1) := by omega
  have hz2 : ¬ ((i : Int) + 1 = (n : Int)) := by omega
  have h1 : (i : Int) + 1 ≤ (c : Int) := by omega
  have h2 : (i : Int) ≤ (i : Int) + 1 := by omega
  have h3 : (i : Int) ≤ (c : Int) := by omega
  have h4 : (i : Int) + 1 ≤ (n : Int) := by omega
  have h5 : (i : Int) ≤ (n : Int) := by omega
  have hci : ¬ (c = i) := by omega
  have hci1 : ¬ (c = i + 1) := by omega
  have e1 : ((i : Int) + 1).toNat = i + 1 := by omega
  have hw1 : IntKind.i64.wrap ((i : Int) + 1) = (i : Int) + 1 := by rw [IntKind.wrap_i64]; omega
  have hw2 : IntKind.i64.wrap ((i : Int) + 1 + ((n - (i + 1) : Nat) : Int)) = (n : Int) := by rw [IntKind.wrap_i64]; omega
  have h6 : (0 : Int) ≤ (i : Int) + 1 := by omega
  obtain ⟨c1, hc1⟩ : ∃ c1, c1 = rowV (l.drop (i + 1)) := ⟨_, rfl⟩
  have hcl1 : c1.length = (n - (i + 1)) * 2 := by rw [hc1, rowV_length, List.length_drop, hn]
  have hcu : (cellsV u).length = 2 := rfl
  have hf1 : i * 2 + (cellsV u).length ≤ cur.length := by omega
  have hl1 : (splice cur (i * 2) (cellsV u)).length = c * 2 := by rw [length_splice _ _ _ hf1, hcl]
  have hk : cur.take (i * 2) = rowV (l.take i) := by
    rw [← rowV_take, ← hcur, List.take_take, hn, Nat.min_eq_left (by omega)]
  have hi1 : (rowV (l.take i)).length = i * 2 := by rw [rowV_length, List.length_take]; omega
  have hsr1 : c1 = ((splice cur (i * 2) (cellsV u)).drop ((i + 1) * 2)).take c1.length := by
    have e : cur = rowV (l.take i) ++ cur.drop (i * 2) := spl_split _ _ _ hk
    have e2 : splice cur (i * 2) (cellsV u) = rowV (l.take i) ++ (cellsV u ++ (cur.drop (i * 2)).drop (cellsV u).length) := by
      conv => lhs; rw [e, ← hi1]
      rw [spl_at, hi1]
    have e3 : (i + 1) * 2 = (rowV (l.take i) ++ cellsV u).length := by rw [List.length_append, hi1, hcu]; omega
    rw [e2, ← List.append_assoc, e3, List.drop_left, List.drop_drop, hcu, hcl1, hc1, ← rowV_drop, ← hcur, hn, List.drop_take]
    have k1 : n * 2 - (i + 1) * 2 = (n - (i + 1)) * 2 := by omega
    have k2 : (i + 1) * 2 = i * 2 + 2 := by omega
    rw [k1, k2]
  have hf2 : (i + 1) * 2 + c1.length ≤ (splice cur (i * 2) (cellsV u)).length := by omega
  have ho1 : ∀ v ∈ c1, v.oneCell' = true := by rw [hc1]; exact rowV_one _
  have hn1 : (cellsV u).length = Nat.min 1 (n - i) * 2 := by
    have : Nat.min 1 (n - i) = 1 := by simp only [Nat.min_def]; split <;> omega
    rw [this]; rfl
  have hn2 : c1.length = Nat.min (n - (i + 1)) (n - (i + 1)) * 2 := by rw [hcl1]; exact congrArg (· * 2) (Nat.min_self _).symm
  have HL : Hid ((splice (splice cur (i * 2) (cellsV u)) ((i + 1) * 2) c1).take (n * 2) = rowV (repV l i u) ∧ (splice (splice cur (i * 2) (cellsV u)) ((i + 1) * 2) c1).length = c * 2) := Lib.hid (by
    refine ⟨?_, by rw [length_splice _ _ _ hf2, hl1]⟩
    have h := spA (Z := cur) (X1 := rowV (l.take i)) (Y := cellsV u) (X2 := c1) hk hi1
    have k1 : i * 2 + (cellsV u).length = (i + 1) * 2 := by omega
    have k2 : (i + 1) * 2 + c1.length = n * 2 := by omega
    rw [k1, k2] at h
    rw [h, rowV_rep, hc1])
  have hu1 := cellsV_one u
  clear hc1 hcl1 hcur hn hk hi1 hcu
  generalize cellsV u = cu at *
  go_enter Tryd.func42, Tryd.ntmps42
  go_wp2
  go_quiet (fail)
  have hgq : (w.drewN nq).heap[g]? = some (.cells cur.toArray 40 (0, 0)) := hg
  have hvq := bx_cells (show Bx (w.drewN nq) vb 40 cu from hv)
  have hcp := copy_row2 (P := Tryd.prog) (w.drewN nq) 23 23 3 40 g (i * 2) (n - i) (c - i) ⟨vb, 0, none⟩ 1 1 cur 40 cu Tryd.underlying23 sizeVal hgq hn1 hvq hf1 hu1
  have S2 := Spl.of hgq (splice cur (i * 2) cu)
  generalize (w.drewN nq).setRow g (splice cur (i * 2) cu).toArray = W2 at hcp S2
  have hg2 : W2.drew.heap[g]? = some (.cells (splice cur (i * 2) cu).toArray 40 (0, 0)) := S2.row
  have hs2 := row_cells hg2 ((i + 1) * 2) c1 hsr1
  have HB2 : Hid (Below g w W2) := Lib.hid (S2.below (below_drewN (Below.refl g w) nq) (Nat.le_refl _))
  clear S2 hgq hvq hn1 hf1 hsr1 hg hv
  generalize splice cur (i * 2) cu = Z2 at *
  go_wp2
  go_region_law (refine step_copy2 rfl (.tmp 103) (.tmp 106) 23 23 rfl 40 Tryd.underlying23 sizeVal g ((i + 1) * 2) (n - (i + 1)) (c - (i + 1)) ⟨g, (i + 1) * 2, none⟩ (n - (i + 1)) (c - (i + 1)) (by simp [Act.eval, Act.put]) (by simp [Act.eval, Act.put]) Z2 40 hg2 c1 hn2 hs2 hf2 ho1 ?_; intro w3 S3)
  have HR := Lib.hid S3.row
  have HB : Hid (Below g w w3) := Lib.hid (S3.below HB2.out.drew (Nat.le_refl _))
  clear S3 HB2 hg2 hs2 hn2 hf2 ho1 hcp
  have hclr : ∀ (ad : Addr) (c' : Nat) (W : World), (Builtin.clear_ #[23] 0 #[.slice (some ad) 0 c']).run Tryd.prog W = .ok (.tuple #[]) W := fun ad c' W => clear_none ad c' W
  go_wp2
  all_goals
    go_ret
    refine ⟨?_, _, HR.out, HL.out.2, HL.out.1, HB.out⟩
    first
      | rfl
      | (have e : n = c := by omega
         rw [← e]
         rfl)

set_option maxRecDepth 100000 in
set_option maxHeartbeats 600000 in
theorem replace_any (l : List MV) (u : MV) (i j : Nat) (v : Value) (N vb : Nat) (w : World) (hN : N ≤ w.heap.size) (hrow : w.ownsRow N 40 2 v l.length (rowV l)) (hij : j = i ∨ j = i + 1) (hj : j ≤ l.length) (hl : l.length ≤ 14) (hv : Bx w vb 40 (cellsV u)) (hne : v.ownBlock ≠ some vb) :
    Calls Tryd.prog 42 #[v, .int .i64 i, .int .i64 j, .slice (some ⟨vb, 0, none⟩) 1 1] w fun e w' => ∃ v', e = .returned v' ∧ w'.ownsRow N 40 2 v' (l.take i ++ u :: l.drop j).length (rowV (l.take i ++ u :: l.drop j)) ∧ Below N w w' := by
  rcases hij with rfl | rfl
  · have e : l.take j ++ u :: l.drop j = insV l j u := rfl
    rw [e, insV_length]
    have hI := insert_any l u j v N vb w hN hrow hj hl hv hne
    have hA : ∃ A c, v = .slice A l.length c ∧ (l.length ≤ c) ∧ (A = none → c = 0) ∧ ∀ a, A = some a → ∃ g, a = ⟨g, 0, none⟩ := by
      rcases hrow.2 with ⟨rfl, h0⟩ | ⟨g, c, cur, rfl, -, -, h3, -⟩
      · exact ⟨none, 0, by rw [h0], by omega, fun _ => rfl, fun a h => by cases h⟩
      · exact ⟨_, c, rfl, h3, (fun h => by cases h), fun a h => by cases h; exact ⟨g, rfl⟩⟩
    obtain ⟨A, c, rfl, hc, hA0, hA1⟩ := hA
    clear hrow hne
    generalize rowV (insV l j u) = rr at hI ⊢
    generalize l.length = n at *
    have h1 : (j : Int) ≤ (c : Int) := by omega
    have h0 : (0 : Int) ≤ (j : Int) := by omega
    cases A with
    | none =>
      obtain rfl := hA0 rfl
      obtain rfl : j = 0 := by omega
      obtain rfl : n = 0 := by omega
      go_enter Tryd.func42, Tryd.ntmps42
      go_wp2_with fail
      refine hI.mono ?_
      rintro e w1 ⟨v', rfl, hr, hb⟩
      have HR := Lib.hid hr
      clear hI hr
      go_wp2
      go_ret
      exact ⟨_, rfl, HR.out, hb⟩
    | some ad =>
      obtain ⟨g, rfl⟩ := hA1 ad rfl
      clear hA0 hA1
      by_cases hcj : c = j
      · subst hcj
        obtain rfl : n = c := by omega
        go_enter Tryd.func42, Tryd.ntmps42
        go_wp2_with fail
        refine hI.mono ?_
        rintro e w1 ⟨v', rfl, hr, hb⟩
        have HR := Lib.hid hr
        clear hI hr
        go_wp2
        go_ret
        exact ⟨_, rfl, HR.out, hb⟩
      · go_enter Tryd.func42, Tryd.ntmps42
        go_wp2_with fail
        refine hI.mono ?_
        rintro e w1 ⟨v', rfl, hr, hb⟩
        have HR := Lib.hid hr
        clear hI hr
        go_wp2
        go_ret
        exact ⟨_, rfl, HR.out, hb⟩
  · have e : l.take i ++ u :: l.drop (i + 1) = repV l i u := rfl
    rw [e, repV_length l i u (by omega)]
    rcases hrow.2 with ⟨rfl, h0⟩ | ⟨g, c, cur, rfl, hNg, hg, hnc, hcm, hsz, hcur⟩
    · omega
    · by_cases hlast : i + 1 = l.length
      · exact replace_last l u i g c N vb w hN hrow hlast hl hv
      · refine (replace_mid l u i g c vb cur.toList w (by omega) hnc hl (by rw [Array.toArray_toList]; exact hg) (by rw [Array.length_toList]; exact hsz) hcur hv).mono ?_
        rintro e w' ⟨rfl, L, h1, h2, h3, hb⟩
        exact ⟨_, rfl, ⟨by rw [rowV_length, repV_length l i u (by omega)], .inr ⟨g, c, L.toArray, rfl, hNg, h1, hnc, hcm, by rw [List.size_toArray]; exact h2, h3⟩⟩, hb.mono hNg⟩
end Go.Proofs.YtjpldfkhacchdaaDoor
