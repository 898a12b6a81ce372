/-
  Several texts joined in one file: each says at its own head, below, what it proves, and its conditions.
-/
import Derived.BigQuiet
import Derived.Deep.QuietTactic
import Derived.Test.YtjpldfkhacchdaaDoorJIns
import Derived.Test.YtjpldfkhacchdaaDoorWPShape
/-
  slices.Replace of a row of one's own: one value put between two, or in one's place; nothing older is changed. Conditions: at most 14 values.
-/
namespace Go.Proofs.YtjpldfkhacchdaaDoor
open Go.RowKit

def repV (l : List MV) (i : Nat) (u : MV) : List MV := l.take i ++ u :: l.drop (i + 1)
theorem rowV_rep (l : List MV) (i : Nat) (u : MV) : rowV (repV l i u) = rowV (l.take i) ++ (cellsV u ++ rowV (l.drop (i + 1))) := by
  rw [repV, rowV_append]; rfl
theorem repV_length (l : List MV) (i : Nat) (u : MV) (h : i < l.length) : (repV l i u).length = l.length := by
  simp [repV]; omega

theorem clear_none (ad : Addr) (c : Nat) (W : World) : (Builtin.clear_ #[23] 0 #[.slice (some ad) 0 c]).run Tryd.prog W = .ok (.tuple #[]) W := by
  simp [Builtin.clear_, run_underlying Tryd.underlying23]

set_option maxRecDepth 100000 in
set_option maxHeartbeats 2000000 in
theorem replace_last (l : List MV) (u : MV) (i g c N vb : Nat) (w : World) (hN : N ≤ w.heap.size) (hrow : w.ownsRow N 40 2 (.slice (some ⟨g, 0, none⟩) l.length c) l.length (rowV l)) (hi : i + 1 = l.length) (hl : l.length ≤ 14) (hv : Bx w vb 40 (cellsV u)) :
    Calls Tryd.prog 42 #[.slice (some ⟨g, 0, none⟩) l.length c, .int .i64 i, .int .i64 ((i + 1 : Nat) : Int), .slice (some ⟨vb, 0, none⟩) 1 1] w fun e w' => ∃ v', e = .returned v' ∧ w'.ownsRow N 40 2 v' l.length (rowV (repV l i u)) ∧ Below N w w' := by
  obtain ⟨i0, hi0, hz0, hz1, hz2⟩ := info_partsV infoVal
  have hrow' : w.ownsRow N 40 2 (.slice (some ⟨g, 0, none⟩) i c) i (rowV (l.take i)) := by
    rcases hrow.2 with ⟨h, -⟩ | ⟨g', c', cur, e, h1, h2, h3, h4, h5, h6⟩
    · cases h
    · cases e
      refine ⟨by rw [rowV_length, List.length_take]; omega, .inr ⟨g, c, cur, rfl, h1, h2, by omega, h4, h5, ?_⟩⟩
      rw [← rowV_take, ← h6, List.take_take, Nat.min_eq_left (by omega)]
  have hnc : l.length ≤ c := by
    rcases hrow.2 with ⟨h, -⟩ | ⟨g', c', cur, e, h1, h2, h3, h4, h5, h6⟩
    · cases h
    · cases e; exact h3
  have hnew := bx_cells hv
  have hu1 := cellsV_one u
  have hcu : (cellsV u).length = 1 * 2 := rfl
  have HB : Hid (∀ w1, w.grownBy w1 (Value.slice (some ⟨g, 0, none⟩) i c).ownBlock → Below N w w1) := Lib.hid (fun w1 hg => (Below.refl N w).grown hg (by omega) (fun q hq => (hrow'.lt q hq).1))
  have HE : Hid (rowV (repV l i u) = rowV (l.take i) ++ cellsV u) := Lib.hid (by rw [rowV_rep, hi, List.drop_length]; simp [rowV])
  obtain ⟨n, hn⟩ : ∃ n, l.length = n := ⟨_, rfl⟩
  rw [hn] at hi hnc hl ⊢
  generalize cellsV u = cu at *
  generalize rowV (repV l i u) = rr at *
  generalize rowV (l.take i) = row at *
  clear hv hrow hn
  have hz : ¬ ((i : Int) = (i : Int) + 1) := by omega
  have h1 : (i : Int) + 1 ≤ (c : Int) := by omega
  have h2 : (i : Int) ≤ (i : Int) + 1 := by omega
  have h3 : (i : Int) ≤ (c : Int) := by omega
  have hci : ¬ (c = i) := by omega
  have e1 : ((i : Int) + 1).toNat = i + 1 := by omega
  subst hi
  go_enter Tryd.func42, Tryd.ntmps42
  go_wp2_with (at_builtin; refine wpList_append_own _ rfl _ _ 23 rfl N 40 i0 (.agg #[.int .u64 0, .string ⟨#[]⟩]) 2 24 Tryd.underlying23 hi0 hz0 hz1 hz2 rfl (by decide) _ _ _ rfl hrow' ⟨vb, 0, none⟩ 1 1 cu rfl hcu hnew hu1 (by unfold maxLen; omega) (by omega) hN ?_)
  intro o' w1 hown' hgrow _
  have HB1 := Lib.hid (HB.out _ hgrow)
  have HO := Lib.hid hown'
  obtain ⟨ao, cap', rfl⟩ : ∃ ao cap', o' = .slice ao (i + 1) cap' := by
    rcases hown'.2 with ⟨hv, h0⟩ | ⟨g, cap, cur, hv, _⟩
    · omega
    · exact ⟨_, _, hv⟩
  clear hown' hgrow hrow' HB
  go_wp2
  go_ret
  exact ⟨_, rfl, by rw [HE.out]; exact HO.out, HB1.out⟩

set_option maxRecDepth 100000 in
set_option maxHeartbeats 2000000 in
theorem replace_mid (l : List MV) (u : MV) (i g c vb : Nat) (cur : List Value) (w : World) (hi : i + 1 < l.length) (hnc : l.length ≤ c) (hl : l.length ≤ 14)
    (hg : w.heap[g]? = some (.cells cur.toArray 40 (0, 0))) (hcl : cur.length = c * 2) (hcur : cur.take (l.length * 2) = rowV l) (hv : Bx w vb 40 (cellsV u)) :
    Calls Tryd.prog 42 #[.slice (some ⟨g, 0, none⟩) l.length c, .int .i64 i, .int .i64 ((i + 1 : Nat) : Int), .slice (some ⟨vb, 0, none⟩) 1 1] w fun e w' => e = .returned (.slice (some ⟨g, 0, none⟩) l.length c) ∧ ∃ L : List Value, w'.heap[g]? = some (.cells L.toArray 40 (0, 0)) ∧ L.length = c * 2 ∧ L.take (l.length * 2) = rowV (repV l i u) ∧ Below g w w' := by
  obtain ⟨n, hn⟩ : ∃ n, l.length = n := ⟨_, rfl⟩
  rw [hn] at hi hnc hl ⊢
  have hz : ¬ ((i : Int) = (i : Int) + 1) := by omega
  have hz2 : ¬ ((i : Int) + 1 = (n : Int)) := by omega
  have h1 : (i : Int) + 1 ≤ (c : Int) := by omega
  have h2 : (i : Int) ≤ (i : Int) + 1 := by omega
  have h3 : (i : Int) ≤ (c : Int) := by omega
  have h4 : (i : Int) + 1 ≤ (n : Int) := by omega
  have h5 : (i : Int) ≤ (n : Int) := by omega
  have hci : ¬ (c = i) := by omega
  have hci1 : ¬ (c = i + 1) := by omega
  have e1 : ((i : Int) + 1).toNat = i + 1 := by omega
  have hw1 : IntKind.i64.wrap ((i : Int) + 1) = (i : Int) + 1 := by rw [IntKind.wrap_i64]; omega
  have hw2 : IntKind.i64.wrap ((i : Int) + 1 + ((n - (i + 1) : Nat) : Int)) = (n : Int) := by rw [IntKind.wrap_i64]; omega
  have h6 : (0 : Int) ≤ (i : Int) + 1 := by omega
  obtain ⟨c1, hc1⟩ : ∃ c1, c1 = rowV (l.drop (i + 1)) := ⟨_, rfl⟩
  have hcl1 : c1.length = (n - (i + 1)) * 2 := by rw [hc1, rowV_length, List.length_drop, hn]
  have hcu : (cellsV u).length = 2 := rfl
  have hf1 : i * 2 + (cellsV u).length ≤ cur.length := by omega
  have hl1 : (splice cur (i * 2) (cellsV u)).length = c * 2 := by rw [length_splice _ _ _ hf1, hcl]
  have hk : cur.take (i * 2) = rowV (l.take i) := by
    rw [← rowV_take, ← hcur, List.take_take, hn, Nat.min_eq_left (by omega)]
  have hi1 : (rowV (l.take i)).length = i * 2 := by rw [rowV_length, List.length_take]; omega
  have hsr1 : c1 = ((splice cur (i * 2) (cellsV u)).drop ((i + 1) * 2)).take c1.length := by
    have e : cur = rowV (l.take i) ++ cur.drop (i * 2) := spl_split _ _ _ hk
    have e2 : splice cur (i * 2) (cellsV u) = rowV (l.take i) ++ (cellsV u ++ (cur.drop (i * 2)).drop (cellsV u).length) := by
      conv => lhs; rw [e, ← hi1]
      rw [spl_at, hi1]
    have e3 : (i + 1) * 2 = (rowV (l.take i) ++ cellsV u).length := by rw [List.length_append, hi1, hcu]; omega
    rw [e2, ← List.append_assoc, e3, List.drop_left, List.drop_drop, hcu, hcl1, hc1, ← rowV_drop, ← hcur, hn, List.drop_take]
    have k1 : n * 2 - (i + 1) * 2 = (n - (i + 1)) * 2 := by omega
    have k2 : (i + 1) * 2 = i * 2 + 2 := by omega
    rw [k1, k2]
  have hf2 : (i + 1) * 2 + c1.length ≤ (splice cur (i * 2) (cellsV u)).length := by omega
  have ho1 : ∀ v ∈ c1, v.oneCell' = true := by rw [hc1]; exact rowV_one _
  have hn1 : (cellsV u).length = Nat.min 1 (n - i) * 2 := by
    have : Nat.min 1 (n - i) = 1 := by simp only [Nat.min_def]; split <;> omega
    rw [this]; rfl
  have hn2 : c1.length = Nat.min (n - (i + 1)) (n - (i + 1)) * 2 := by rw [hcl1]; exact congrArg (· * 2) (Nat.min_self _).symm
  have HL : Hid ((splice (splice cur (i * 2) (cellsV u)) ((i + 1) * 2) c1).take (n * 2) = rowV (repV l i u) ∧ (splice (splice cur (i * 2) (cellsV u)) ((i + 1) * 2) c1).length = c * 2) := Lib.hid (by
    refine ⟨?_, by rw [length_splice _ _ _ hf2, hl1]⟩
    have h := spA (Z := cur) (X1 := rowV (l.take i)) (Y := cellsV u) (X2 := c1) hk hi1
    have k1 : i * 2 + (cellsV u).length = (i + 1) * 2 := by omega
    have k2 : (i + 1) * 2 + c1.length = n * 2 := by omega
    rw [k1, k2] at h
    rw [h, rowV_rep, hc1])
  have hu1 := cellsV_one u
  clear hc1 hcl1 hcur hn hk hi1 hcu
  generalize cellsV u = cu at *
  go_enter Tryd.func42, Tryd.ntmps42
  go_wp2
  go_quiet (fail)
  have hgq : (w.drewN nq).heap[g]? = some (.cells cur.toArray 40 (0, 0)) := hg
  have hvq := bx_cells (show Bx (w.drewN nq) vb 40 cu from hv)
  have hcp := copy_row2 (P := Tryd.prog) (w.drewN nq) 23 23 3 40 g (i * 2) (n - i) (c - i) ⟨vb, 0, none⟩ 1 1 cur 40 cu Tryd.underlying23 sizeVal hgq hn1 hvq hf1 hu1
  have S2 := Spl.of hgq (splice cur (i * 2) cu)
  generalize (w.drewN nq).setRow g (splice cur (i * 2) cu).toArray = W2 at hcp S2
  have hg2 : W2.drew.heap[g]? = some (.cells (splice cur (i * 2) cu).toArray 40 (0, 0)) := S2.row
  have hs2 := row_cells hg2 ((i + 1) * 2) c1 hsr1
  have HB2 : Hid (Below g w W2) := Lib.hid (S2.below (below_drewN (Below.refl g w) nq) (Nat.le_refl _))
  clear S2 hgq hvq hn1 hf1 hsr1 hg hv
  generalize splice cur (i * 2) cu = Z2 at *
  go_wp2
  go_region_law (refine step_copy2 rfl (.tmp 103) (.tmp 106) 23 23 rfl 40 Tryd.underlying23 sizeVal g ((i + 1) * 2) (n - (i + 1)) (c - (i + 1)) ⟨g, (i + 1) * 2, none⟩ (n - (i + 1)) (c - (i + 1)) (by simp [Act.eval, Act.put]) (by simp [Act.eval, Act.put]) Z2 40 hg2 c1 hn2 hs2 hf2 ho1 ?_; intro w3 S3)
  have HR := Lib.hid S3.row
  have HB : Hid (Below g w w3) := Lib.hid (S3.below HB2.out.drew (Nat.le_refl _))
  clear S3 HB2 hg2 hs2 hn2 hf2 ho1 hcp
  have hclr : ∀ (ad : Addr) (c' : Nat) (W : World), (Builtin.clear_ #[23] 0 #[.slice (some ad) 0 c']).run Tryd.prog W = .ok (.tuple #[]) W := fun ad c' W => clear_none ad c' W
  go_wp2
  all_goals
    go_ret
    refine ⟨?_, _, HR.out, HL.out.2, HL.out.1, HB.out⟩
    first
      | rfl
      | (have e : n = c := by omega
         rw [← e]
         rfl)

set_option maxRecDepth 100000 in
set_option maxHeartbeats 600000 in
theorem replace_any (l : List MV) (u : MV) (i j : Nat) (v : Value) (N vb : Nat) (w : World) (hN : N ≤ w.heap.size) (hrow : w.ownsRow N 40 2 v l.length (rowV l)) (hij : j = i ∨ j = i + 1) (hj : j ≤ l.length) (hl : l.length ≤ 14) (hv : Bx w vb 40 (cellsV u)) (hne : v.ownBlock ≠ some vb) :
    Calls Tryd.prog 42 #[v, .int .i64 i, .int .i64 j, .slice (some ⟨vb, 0, none⟩) 1 1] w fun e w' => ∃ v', e = .returned v' ∧ w'.ownsRow N 40 2 v' (l.take i ++ u :: l.drop j).length (rowV (l.take i ++ u :: l.drop j)) ∧ Below N w w' := by
  rcases hij with rfl | rfl
  · have e : l.take j ++ u :: l.drop j = insV l j u := rfl
    rw [e, insV_length]
    have hI := insert_any l u j v N vb w hN hrow hj hl hv hne
    have hA : ∃ A c, v = .slice A l.length c ∧ (l.length ≤ c) ∧ (A = none → c = 0) ∧ ∀ a, A = some a → ∃ g, a = ⟨g, 0, none⟩ := by
      rcases hrow.2 with ⟨rfl, h0⟩ | ⟨g, c, cur, rfl, -, -, h3, -⟩
      · exact ⟨none, 0, by rw [h0], by omega, fun _ => rfl, fun a h => by cases h⟩
      · exact ⟨_, c, rfl, h3, (fun h => by cases h), fun a h => by cases h; exact ⟨g, rfl⟩⟩
    obtain ⟨A, c, rfl, hc, hA0, hA1⟩ := hA
    clear hrow hne
    generalize rowV (insV l j u) = rr at hI ⊢
    generalize l.length = n at *
    have h1 : (j : Int) ≤ (c : Int) := by omega
    have h0 : (0 : Int) ≤ (j : Int) := by omega
    cases A with
    | none =>
      obtain rfl := hA0 rfl
      obtain rfl : j = 0 := by omega
      obtain rfl : n = 0 := by omega
      go_enter Tryd.func42, Tryd.ntmps42
      go_wp2_with fail
      refine hI.mono ?_
      rintro e w1 ⟨v', rfl, hr, hb⟩
      have HR := Lib.hid hr
      clear hI hr
      go_wp2
      go_ret
      exact ⟨_, rfl, HR.out, hb⟩
    | some ad =>
      obtain ⟨g, rfl⟩ := hA1 ad rfl
      clear hA0 hA1
      by_cases hcj : c = j
      · subst hcj
        obtain rfl : n = c := by omega
        go_enter Tryd.func42, Tryd.ntmps42
        go_wp2_with fail
        refine hI.mono ?_
        rintro e w1 ⟨v', rfl, hr, hb⟩
        have HR := Lib.hid hr
        clear hI hr
        go_wp2
        go_ret
        exact ⟨_, rfl, HR.out, hb⟩
      · go_enter Tryd.func42, Tryd.ntmps42
        go_wp2_with fail
        refine hI.mono ?_
        rintro e w1 ⟨v', rfl, hr, hb⟩
        have HR := Lib.hid hr
        clear hI hr
        go_wp2
        go_ret
        exact ⟨_, rfl, HR.out, hb⟩
  · have e : l.take i ++ u :: l.drop (i + 1) = repV l i u := rfl
    rw [e, repV_length l i u (by omega)]
    rcases hrow.2 with ⟨rfl, h0⟩ | ⟨g, c, cur, rfl, hNg, hg, hnc, hcm, hsz, hcur⟩
    · omega
    · by_cases hlast : i + 1 = l.length
      · exact replace_last l u i g c N vb w hN hrow hlast hl hv
      · refine (replace_mid l u i g c vb cur.toList w (by omega) hnc hl (by rw [Array.toArray_toList]; exact hg) (by rw [Array.length_toList]; exact hsz) hcur hv).mono ?_
        rintro e w' ⟨rfl, L, h1, h2, h3, hb⟩
        exact ⟨_, rfl, ⟨by rw [rowV_length, repV_length l i u (by omega)], .inr ⟨g, c, L.toArray, rfl, hNg, h1, hnc, hcm, by rw [List.size_toArray]; exact h2, h3⟩⟩, hb.mono hNg⟩
end Go.Proofs.YtjpldfkhacchdaaDoor

/-
  props.isProperty and props.place: which places there are, and where a property's value stands among those that flags tell. Conditions: flags of 16 bits.
-/
namespace Go.Proofs.YtjpldfkhacchdaaDoor
open Go.RowKit

theorem popc_zero : popc 16 0 = 0 := by decide
theorem whK_popc {f : Int} (h1 : f < 65536) : ∀ k, k ≤ 14 → (whK f k).length = popc 16 (f.toNat / 2 ^ (16 - k))
  | 0, _ => by
    have e : f.toNat / 2 ^ (16 - 0) = 0 := Nat.div_eq_of_lt (by omega)
    rw [whK_zero, e, popc_zero]; rfl
  | k + 1, hk => by
    have ih := whK_popc h1 k (by omega)
    have e0 : 16 - (k + 1) = 15 - k := by omega
    have e1 : 16 - k = (15 - k) + 1 := by omega
    obtain ⟨y, hy⟩ : ∃ y, y = f.toNat / 2 ^ (15 - k) := ⟨_, rfl⟩
    have e2 : f.toNat / 2 ^ (16 - k) = y / 2 := by rw [e1, Nat.pow_succ, ← Nat.div_div_eq_div_mul, ← hy]
    have hylt : y < 65536 := by
      rw [hy]
      exact Nat.lt_of_le_of_lt (Nat.div_le_self _ _) (by omega)
    have hp := popc_twice (x := y / 2) (b := y % 2) (by omega) (by omega)
    have e3 : 2 * (y / 2) + y % 2 = y := by omega
    rw [e3] at hp
    have hb : bitP f ⟨k, by omega⟩ = (y % 2 == 1) := by rw [bitP, hy]
    rw [e0, ← hy, hp, ← e2, ← ih, whK_succ f k (by omega), hb]
    by_cases h : y % 2 = 1
    · rw [h]; simp
    · have h0 : y % 2 = 0 := by omega
      rw [h0]; simp

theorem isProperty_any (i : Int) (w : World) : Calls Tryd.prog 40 #[.int .i64 i] w fun e w' => e = .returned (.bool (decide (0 ≤ i ∧ i < 14))) ∧ w' = w := by
  by_cases h0 : 0 ≤ i
  · by_cases h1 : i < 14
    · rw [decide_eq_true (show 0 ≤ i ∧ i < 14 from ⟨h0, h1⟩)]
      go_enter Tryd.func40, Tryd.ntmps40
      go_wp2
      go_ret
      exact ⟨rfl, rfl⟩
    · rw [decide_eq_false (fun h : 0 ≤ i ∧ i < 14 => h1 h.2)]
      go_enter Tryd.func40, Tryd.ntmps40
      go_wp2
      go_ret
      exact ⟨rfl, rfl⟩
  · rw [decide_eq_false (fun h : 0 ≤ i ∧ i < 14 => h0 h.1)]
    go_enter Tryd.func40, Tryd.ntmps40
    go_wp2
    go_ret
    exact ⟨rfl, rfl⟩

theorem ones_int (x : Int) (n : Nat) (w : World) (h : x = (n : Int)) (h1 : n < 65536) : Calls Tryd.prog 45 #[.int .u64 x] w fun e w' => e = .returned (.int .i64 (popc 16 n : Nat)) ∧ w' = w := by
  rw [h]
  exact ones_any n w h1
set_option maxHeartbeats 2000000 in
theorem place_any (f : Nat) (i : Fin 14) (w : World) (hf : f < 65536) : Calls Tryd.prog 41 #[.int .u64 (f : Int), .int .i64 (i.1 : Int)] w fun e w' => e = .returned (.tuple #[.int .i64 ((whK (f : Int) i.1).length : Nat), .int .i64 ((whK (f : Int) (i.1 + 1)).length : Nat)]) ∧ w' = w := by
  have h1 := whK_popc (f := (f : Int)) (by omega) i.1 (by omega)
  have h2 := whK_popc (f := (f : Int)) (by omega) (i.1 + 1) (by omega)
  rw [Int.toNat_natCast] at h1 h2
  rw [h1, h2]
  clear h1 h2
  obtain ⟨i, hi⟩ := i
  have hc : i = 0 ∨ i = 1 ∨ i = 2 ∨ i = 3 ∨ i = 4 ∨ i = 5 ∨ i = 6 ∨ i = 7 ∨ i = 8 ∨ i = 9 ∨ i = 10 ∨ i = 11 ∨ i = 12 ∨ i = 13 := by omega
  rcases hc with rfl | rfl | rfl | rfl | rfl | rfl | rfl | rfl | rfl | rfl | rfl | rfl | rfl | rfl
  · have k1 : ((f : Int) / 32768 / 2) = ((f / 65536 : Nat) : Int) := by omega
    have k2 : ((f : Int) / 32768) = ((f / 32768 : Nat) : Int) := by omega
    have k3 : f / 65536 < 65536 := by omega
    have k4 : f / 32768 < 65536 := by omega
    have hO1 := fun W => ones_int _ _ W k1 k3
    have hO2 := fun W => ones_int _ _ W k2 k4
    show Calls Tryd.prog 41 #[.int .u64 (f : Int), .int .i64 (0 : Nat)] w fun e w' => e = .returned (.tuple #[.int .i64 (popc 16 (f / 65536) : Nat), .int .i64 (popc 16 (f / 32768) : Nat)]) ∧ w' = w
    generalize popc 16 (f / 65536) = p1 at hO1 ⊢
    generalize popc 16 (f / 32768) = p2 at hO2 ⊢
    clear k1 k2 k3 k4 hi hf
    go_enter Tryd.func41, Tryd.ntmps41
    go_wp2_with fail
    refine (hO1 w).mono ?_
    rintro e w1 ⟨rfl, rfl⟩
    go_wp2_with fail
    refine (hO2 _).mono ?_
    rintro e w1 ⟨rfl, rfl⟩
    go_wp2
    go_ret2
    exact ⟨rfl, rfl⟩
  · have k1 : ((f : Int) / 16384 / 2) = ((f / 32768 : Nat) : Int) := by omega
    have k2 : ((f : Int) / 16384) = ((f / 16384 : Nat) : Int) := by omega
    have k3 : f / 32768 < 65536 := by omega
    have k4 : f / 16384 < 65536 := by omega
    have hO1 := fun W => ones_int _ _ W k1 k3
    have hO2 := fun W => ones_int _ _ W k2 k4
    show Calls Tryd.prog 41 #[.int .u64 (f : Int), .int .i64 (1 : Nat)] w fun e w' => e = .returned (.tuple #[.int .i64 (popc 16 (f / 32768) : Nat), .int .i64 (popc 16 (f / 16384) : Nat)]) ∧ w' = w
    generalize popc 16 (f / 32768) = p1 at hO1 ⊢
    generalize popc 16 (f / 16384) = p2 at hO2 ⊢
    clear k1 k2 k3 k4 hi hf
    go_enter Tryd.func41, Tryd.ntmps41
    go_wp2_with fail
    refine (hO1 w).mono ?_
    rintro e w1 ⟨rfl, rfl⟩
    go_wp2_with fail
    refine (hO2 _).mono ?_
    rintro e w1 ⟨rfl, rfl⟩
    go_wp2
    go_ret2
    exact ⟨rfl, rfl⟩
  · have k1 : ((f : Int) / 8192 / 2) = ((f / 16384 : Nat) : Int) := by omega
    have k2 : ((f : Int) / 8192) = ((f / 8192 : Nat) : Int) := by omega
    have k3 : f / 16384 < 65536 := by omega
    have k4 : f / 8192 < 65536 := by omega
    have hO1 := fun W => ones_int _ _ W k1 k3
    have hO2 := fun W => ones_int _ _ W k2 k4
    show Calls Tryd.prog 41 #[.int .u64 (f : Int), .int .i64 (2 : Nat)] w fun e w' => e = .returned (.tuple #[.int .i64 (popc 16 (f / 16384) : Nat), .int .i64 (popc 16 (f / 8192) : Nat)]) ∧ w' = w
    generalize popc 16 (f / 16384) = p1 at hO1 ⊢
    generalize popc 16 (f / 8192) = p2 at hO2 ⊢
    clear k1 k2 k3 k4 hi hf
    go_enter Tryd.func41, Tryd.ntmps41
    go_wp2_with fail
    refine (hO1 w).mono ?_
    rintro e w1 ⟨rfl, rfl⟩
    go_wp2_with fail
    refine (hO2 _).mono ?_
    rintro e w1 ⟨rfl, rfl⟩
    go_wp2
    go_ret2
    exact ⟨rfl, rfl⟩
  · have k1 : ((f : Int) / 4096 / 2) = ((f / 8192 : Nat) : Int) := by omega
    have k2 : ((f : Int) / 4096) = ((f / 4096 : Nat) : Int) := by omega
    have k3 : f / 8192 < 65536 := by omega
    have k4 : f / 4096 < 65536 := by omega
    have hO1 := fun W => ones_int _ _ W k1 k3
    have hO2 := fun W => ones_int _ _ W k2 k4
    show Calls Tryd.prog 41 #[.int .u64 (f : Int), .int .i64 (3 : Nat)] w fun e w' => e = .returned (.tuple #[.int .i64 (popc 16 (f / 8192) : Nat), .int .i64 (popc 16 (f / 4096) : Nat)]) ∧ w' = w
    generalize popc 16 (f / 8192) = p1 at hO1 ⊢
    generalize popc 16 (f / 4096) = p2 at hO2 ⊢
    clear k1 k2 k3 k4 hi hf
    go_enter Tryd.func41, Tryd.ntmps41
    go_wp2_with fail
    refine (hO1 w).mono ?_
    rintro e w1 ⟨rfl, rfl⟩
    go_wp2_with fail
    refine (hO2 _).mono ?_
    rintro e w1 ⟨rfl, rfl⟩
    go_wp2
    go_ret2
    exact ⟨rfl, rfl⟩
  · have k1 : ((f : Int) / 2048 / 2) = ((f / 4096 : Nat) : Int) := by omega
    have k2 : ((f : Int) / 2048) = ((f / 2048 : Nat) : Int) := by omega
    have k3 : f / 4096 < 65536 := by omega
    have k4 : f / 2048 < 65536 := by omega
    have hO1 := fun W => ones_int _ _ W k1 k3
    have hO2 := fun W => ones_int _ _ W k2 k4
    show Calls Tryd.prog 41 #[.int .u64 (f : Int), .int .i64 (4 : Nat)] w fun e w' => e = .returned (.tuple #[.int .i64 (popc 16 (f / 4096) : Nat), .int .i64 (popc 16 (f / 2048) : Nat)]) ∧ w' = w
    generalize popc 16 (f / 4096) = p1 at hO1 ⊢
    generalize popc 16 (f / 2048) = p2 at hO2 ⊢
    clear k1 k2 k3 k4 hi hf
    go_enter Tryd.func41, Tryd.ntmps41
    go_wp2_with fail
    refine (hO1 w).mono ?_
    rintro e w1 ⟨rfl, rfl⟩
    go_wp2_with fail
    refine (hO2 _).mono ?_
    rintro e w1 ⟨rfl, rfl⟩
    go_wp2
    go_ret2
    exact ⟨rfl, rfl⟩
  · have k1 : ((f : Int) / 1024 / 2) = ((f / 2048 : Nat) : Int) := by omega
    have k2 : ((f : Int) / 1024) = ((f / 1024 : Nat) : Int) := by omega
    have k3 : f / 2048 < 65536 := by omega
    have k4 : f / 1024 < 65536 := by omega
    have hO1 := fun W => ones_int _ _ W k1 k3
    have hO2 := fun W => ones_int _ _ W k2 k4
    show Calls Tryd.prog 41 #[.int .u64 (f : Int), .int .i64 (5 : Nat)] w fun e w' => e = .returned (.tuple #[.int .i64 (popc 16 (f / 2048) : Nat), .int .i64 (popc 16 (f / 1024) : Nat)]) ∧ w' = w
    generalize popc 16 (f / 2048) = p1 at hO1 ⊢
    generalize popc 16 (f / 1024) = p2 at hO2 ⊢
    clear k1 k2 k3 k4 hi hf
    go_enter Tryd.func41, Tryd.ntmps41
    go_wp2_with fail
    refine (hO1 w).mono ?_
    rintro e w1 ⟨rfl, rfl⟩
    go_wp2_with fail
    refine (hO2 _).mono ?_
    rintro e w1 ⟨rfl, rfl⟩
    go_wp2
    go_ret2
    exact ⟨rfl, rfl⟩
  · have k1 : ((f : Int) / 512 / 2) = ((f / 1024 : Nat) : Int) := by omega
    have k2 : ((f : Int) / 512) = ((f / 512 : Nat) : Int) := by omega
    have k3 : f / 1024 < 65536 := by omega
    have k4 : f / 512 < 65536 := by omega
    have hO1 := fun W => ones_int _ _ W k1 k3
    have hO2 := fun W => ones_int _ _ W k2 k4
    show Calls Tryd.prog 41 #[.int .u64 (f : Int), .int .i64 (6 : Nat)] w fun e w' => e = .returned (.tuple #[.int .i64 (popc 16 (f / 1024) : Nat), .int .i64 (popc 16 (f / 512) : Nat)]) ∧ w' = w
    generalize popc 16 (f / 1024) = p1 at hO1 ⊢
    generalize popc 16 (f / 512) = p2 at hO2 ⊢
    clear k1 k2 k3 k4 hi hf
    go_enter Tryd.func41, Tryd.ntmps41
    go_wp2_with fail
    refine (hO1 w).mono ?_
    rintro e w1 ⟨rfl, rfl⟩
    go_wp2_with fail
    refine (hO2 _).mono ?_
    rintro e w1 ⟨rfl, rfl⟩
    go_wp2
    go_ret2
    exact ⟨rfl, rfl⟩
  · have k1 : ((f : Int) / 256 / 2) = ((f / 512 : Nat) : Int) := by omega
    have k2 : ((f : Int) / 256) = ((f / 256 : Nat) : Int) := by omega
    have k3 : f / 512 < 65536 := by omega
    have k4 : f / 256 < 65536 := by omega
    have hO1 := fun W => ones_int _ _ W k1 k3
    have hO2 := fun W => ones_int _ _ W k2 k4
    show Calls Tryd.prog 41 #[.int .u64 (f : Int), .int .i64 (7 : Nat)] w fun e w' => e = .returned (.tuple #[.int .i64 (popc 16 (f / 512) : Nat), .int .i64 (popc 16 (f / 256) : Nat)]) ∧ w' = w
    generalize popc 16 (f / 512) = p1 at hO1 ⊢
    generalize popc 16 (f / 256) = p2 at hO2 ⊢
    clear k1 k2 k3 k4 hi hf
    go_enter Tryd.func41, Tryd.ntmps41
    go_wp2_with fail
    refine (hO1 w).mono ?_
    rintro e w1 ⟨rfl, rfl⟩
    go_wp2_with fail
    refine (hO2 _).mono ?_
    rintro e w1 ⟨rfl, rfl⟩
    go_wp2
    go_ret2
    exact ⟨rfl, rfl⟩
  · have k1 : ((f : Int) / 128 / 2) = ((f / 256 : Nat) : Int) := by omega
    have k2 : ((f : Int) / 128) = ((f / 128 : Nat) : Int) := by omega
    have k3 : f / 256 < 65536 := by omega
    have k4 : f / 128 < 65536 := by omega
    have hO1 := fun W => ones_int _ _ W k1 k3
    have hO2 := fun W => ones_int _ _ W k2 k4
    show Calls Tryd.prog 41 #[.int .u64 (f : Int), .int .i64 (8 : Nat)] w fun e w' => e = .returned (.tuple #[.int .i64 (popc 16 (f / 256) : Nat), .int .i64 (popc 16 (f / 128) : Nat)]) ∧ w' = w
    generalize popc 16 (f / 256) = p1 at hO1 ⊢
    generalize popc 16 (f / 128) = p2 at hO2 ⊢
    clear k1 k2 k3 k4 hi hf
    go_enter Tryd.func41, Tryd.ntmps41
    go_wp2_with fail
    refine (hO1 w).mono ?_
    rintro e w1 ⟨rfl, rfl⟩
    go_wp2_with fail
    refine (hO2 _).mono ?_
    rintro e w1 ⟨rfl, rfl⟩
    go_wp2
    go_ret2
    exact ⟨rfl, rfl⟩
  · have k1 : ((f : Int) / 64 / 2) = ((f / 128 : Nat) : Int) := by omega
    have k2 : ((f : Int) / 64) = ((f / 64 : Nat) : Int) := by omega
    have k3 : f / 128 < 65536 := by omega
    have k4 : f / 64 < 65536 := by omega
    have hO1 := fun W => ones_int _ _ W k1 k3
    have hO2 := fun W => ones_int _ _ W k2 k4
    show Calls Tryd.prog 41 #[.int .u64 (f : Int), .int .i64 (9 : Nat)] w fun e w' => e = .returned (.tuple #[.int .i64 (popc 16 (f / 128) : Nat), .int .i64 (popc 16 (f / 64) : Nat)]) ∧ w' = w
    generalize popc 16 (f / 128) = p1 at hO1 ⊢
    generalize popc 16 (f / 64) = p2 at hO2 ⊢
    clear k1 k2 k3 k4 hi hf
    go_enter Tryd.func41, Tryd.ntmps41
    go_wp2_with fail
    refine (hO1 w).mono ?_
    rintro e w1 ⟨rfl, rfl⟩
    go_wp2_with fail
    refine (hO2 _).mono ?_
    rintro e w1 ⟨rfl, rfl⟩
    go_wp2
    go_ret2
    exact ⟨rfl, rfl⟩
  · have k1 : ((f : Int) / 32 / 2) = ((f / 64 : Nat) : Int) := by omega
    have k2 : ((f : Int) / 32) = ((f / 32 : Nat) : Int) := by omega
    have k3 : f / 64 < 65536 := by omega
    have k4 : f / 32 < 65536 := by omega
    have hO1 := fun W => ones_int _ _ W k1 k3
    have hO2 := fun W => ones_int _ _ W k2 k4
    show Calls Tryd.prog 41 #[.int .u64 (f : Int), .int .i64 (10 : Nat)] w fun e w' => e = .returned (.tuple #[.int .i64 (popc 16 (f / 64) : Nat), .int .i64 (popc 16 (f / 32) : Nat)]) ∧ w' = w
    generalize popc 16 (f / 64) = p1 at hO1 ⊢
    generalize popc 16 (f / 32) = p2 at hO2 ⊢
    clear k1 k2 k3 k4 hi hf
    go_enter Tryd.func41, Tryd.ntmps41
    go_wp2_with fail
    refine (hO1 w).mono ?_
    rintro e w1 ⟨rfl, rfl⟩
    go_wp2_with fail
    refine (hO2 _).mono ?_
    rintro e w1 ⟨rfl, rfl⟩
    go_wp2
    go_ret2
    exact ⟨rfl, rfl⟩
  · have k1 : ((f : Int) / 16 / 2) = ((f / 32 : Nat) : Int) := by omega
    have k2 : ((f : Int) / 16) = ((f / 16 : Nat) : Int) := by omega
    have k3 : f / 32 < 65536 := by omega
    have k4 : f / 16 < 65536 := by omega
    have hO1 := fun W => ones_int _ _ W k1 k3
    have hO2 := fun W => ones_int _ _ W k2 k4
    show Calls Tryd.prog 41 #[.int .u64 (f : Int), .int .i64 (11 : Nat)] w fun e w' => e = .returned (.tuple #[.int .i64 (popc 16 (f / 32) : Nat), .int .i64 (popc 16 (f / 16) : Nat)]) ∧ w' = w
    generalize popc 16 (f / 32) = p1 at hO1 ⊢
    generalize popc 16 (f / 16) = p2 at hO2 ⊢
    clear k1 k2 k3 k4 hi hf
    go_enter Tryd.func41, Tryd.ntmps41
    go_wp2_with fail
    refine (hO1 w).mono ?_
    rintro e w1 ⟨rfl, rfl⟩
    go_wp2_with fail
    refine (hO2 _).mono ?_
    rintro e w1 ⟨rfl, rfl⟩
    go_wp2
    go_ret2
    exact ⟨rfl, rfl⟩
  · have k1 : ((f : Int) / 8 / 2) = ((f / 16 : Nat) : Int) := by omega
    have k2 : ((f : Int) / 8) = ((f / 8 : Nat) : Int) := by omega
    have k3 : f / 16 < 65536 := by omega
    have k4 : f / 8 < 65536 := by omega
    have hO1 := fun W => ones_int _ _ W k1 k3
    have hO2 := fun W => ones_int _ _ W k2 k4
    show Calls Tryd.prog 41 #[.int .u64 (f : Int), .int .i64 (12 : Nat)] w fun e w' => e = .returned (.tuple #[.int .i64 (popc 16 (f / 16) : Nat), .int .i64 (popc 16 (f / 8) : Nat)]) ∧ w' = w
    generalize popc 16 (f / 16) = p1 at hO1 ⊢
    generalize popc 16 (f / 8) = p2 at hO2 ⊢
    clear k1 k2 k3 k4 hi hf
    go_enter Tryd.func41, Tryd.ntmps41
    go_wp2_with fail
    refine (hO1 w).mono ?_
    rintro e w1 ⟨rfl, rfl⟩
    go_wp2_with fail
    refine (hO2 _).mono ?_
    rintro e w1 ⟨rfl, rfl⟩
    go_wp2
    go_ret2
    exact ⟨rfl, rfl⟩
  · have k1 : ((f : Int) / 4 / 2) = ((f / 8 : Nat) : Int) := by omega
    have k2 : ((f : Int) / 4) = ((f / 4 : Nat) : Int) := by omega
    have k3 : f / 8 < 65536 := by omega
    have k4 : f / 4 < 65536 := by omega
    have hO1 := fun W => ones_int _ _ W k1 k3
    have hO2 := fun W => ones_int _ _ W k2 k4
    show Calls Tryd.prog 41 #[.int .u64 (f : Int), .int .i64 (13 : Nat)] w fun e w' => e = .returned (.tuple #[.int .i64 (popc 16 (f / 8) : Nat), .int .i64 (popc 16 (f / 4) : Nat)]) ∧ w' = w
    generalize popc 16 (f / 8) = p1 at hO1 ⊢
    generalize popc 16 (f / 4) = p2 at hO2 ⊢
    clear k1 k2 k3 k4 hi hf
    go_enter Tryd.func41, Tryd.ntmps41
    go_wp2_with fail
    refine (hO1 w).mono ?_
    rintro e w1 ⟨rfl, rfl⟩
    go_wp2_with fail
    refine (hO2 _).mono ?_
    rintro e w1 ⟨rfl, rfl⟩
    go_wp2
    go_ret2
    exact ⟨rfl, rfl⟩
end Go.Proofs.YtjpldfkhacchdaaDoor
