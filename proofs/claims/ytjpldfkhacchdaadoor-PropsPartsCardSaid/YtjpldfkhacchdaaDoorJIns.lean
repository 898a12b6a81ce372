/-
  Several texts joined in one file: each says at its own head, below, what it proves, and its conditions.
-/
import Derived.Laws.CopyOwn
import Derived.Test.YtjpldfkhacchdaaDoorMValI
import Derived.Test.YtjpldfkhacchdaaDoorJMem
import Derived.Lib.Overlaps
import Derived.Lib.AppendZerosOnto
import Derived.Laws.Externs
import Derived.Laws.NewBlocks
import Derived.Deep.RegionLaw
/-
  copy between rows of structs of two cells, into a row that is known whole; nothing else is changed. No condition.
-/
namespace Go.Proofs.YtjpldfkhacchdaaDoor
open Go.RowKit

theorem copy_row2 {P : Program} (w : World) (dT sT ty elem : TypeId) (g o dLen dCap : Nat) (a : Addr) (sLen sCap : Nat) (cur : List Value) (t : TypeId) (cs : List Value)
    (hu : P.underlying dT = some (.slice elem)) (hs : (P.info? elem).map (·.size) = some 2)
    (hg : w.heap[g]? = some (.cells cur.toArray t (0, 0))) (hn : cs.length = Nat.min sLen dLen * 2)
    (hsrc : ∀ j v, cs[j]? = some v → w.cell? (a.add j) = some v) (hfit : o + cs.length ≤ cur.length) (h1 : ∀ v ∈ cs, v.oneCell' = true) :
    (Builtin.copy_ #[dT, sT] ty #[.slice (some ⟨g, o, none⟩) dLen dCap, .slice (some a) sLen sCap]).run P w =
      .ok (goInt (Nat.min sLen dLen)) (w.setRow g (splice cur o cs).toArray) := by
  have hl := run_loadCells_list (P := P) w a cs hsrc
  have hst := run_storeCells_at P g o t cs 0 cur.toArray w hg (by simpa using hfit) h1
  cases hq : P.info? elem with
  | none => simp [hq] at hs
  | some i =>
    have hi : i.size = 2 := by simpa [hq] using hs
    simp [Builtin.copy_, run_underlying hu, Builtin.lenOf, Builtin.firstCells, sizeOf, typeInfo, hq, hi, ← hn, hl, hst, splice]
/-- what a copy leaves: the row spliced, all other blocks as they were -/
structure Spl (g : Nat) (L : List Value) (t : TypeId) (w w' : World) : Prop where
  row : w'.heap[g]? = some (.cells L.toArray t (0, 0))
  os : w'.os = w.os
  tape : w'.tape = w.tape
  output : w'.output = w.output
  size : w'.heap.size = w.heap.size
  other : ∀ k, k ≠ g → w'.heap[k]? = w.heap[k]?
theorem Spl.of {w : World} {g : Nat} {cur : List Value} {t : TypeId} (hg : w.heap[g]? = some (.cells cur.toArray t (0, 0))) (L : List Value) : Spl g L t w (w.setRow g L.toArray) :=
  ⟨setRow_heap w g _ _ t _ hg, rfl, rfl, rfl, by simp [World.setRow], fun k hk => setRow_other w g k _ hk⟩
theorem Spl.below {g B : Nat} {L : List Value} {t : TypeId} {w0 w w' : World} (h : Spl g L t w w') (hb : Below B w0 w) (hB : B ≤ g) : Below B w0 w' :=
  hb.trans ⟨h.os, h.tape, h.output, by rw [h.size]; exact Nat.le_refl _, fun k hk => h.other k (by omega)⟩
theorem Spl.bx {g b : Nat} {L l : List Value} {t t' : TypeId} {w w' : World} (h : Spl g L t w w') (hx : Bx w b t' l) (hne : b ≠ g) : Bx w' b t' l := (h.other b hne).trans hx
theorem wpList_copy2 {P : Program} {w : World} {ops : Array Oper} {rest : List Oper} {o : Oper} {a : Act} {Q : Exit → Act → World → Prop} (hgd : o.guard = none) (d s : Operand) (dT sT : TypeId)
    (ho : o.op = .call { callee := .builtin .copy, args := #[d, s], argTypes := #[dT, sT] }) (elem : TypeId) (hu : P.underlying dT = some (.slice elem)) (hsz : (P.info? elem).map (·.size) = some 2)
    (g off dLen dCap : Nat) (ad : Addr) (sLen sCap : Nat) (hd : a.eval d = .slice (some ⟨g, off, none⟩) dLen dCap) (hs : a.eval s = .slice (some ad) sLen sCap)
    (cur : List Value) (t : TypeId) (hg : w.heap[g]? = some (.cells cur.toArray t (0, 0))) (cs : List Value) (hn : cs.length = Nat.min sLen dLen * 2)
    (hsrc : ∀ j v, cs[j]? = some v → w.cell? (ad.add j) = some v) (hfit : off + cs.length ≤ cur.length) (h1 : ∀ v ∈ cs, v.oneCell' = true)
    (h : ∀ w', Spl g (splice cur off cs) t w w' → wpList P ops Q rest (a.put o.dst (goInt (Nat.min sLen dLen))) w') : wpList P ops Q (o :: rest) a w := by
  refine wpList_plain hgd fun K hK => ?_
  have hrun := copy_row2 (P := P) w dT sT o.type elem g off dLen dCap ad sLen sCap cur t cs hu hsz hg hn hsrc hfit h1
  unfold Oper.wp
  simp [execOp, ho, resolve, invoke, builtin, hd, hs, hrun, Result.andThen]
  exact hK _ _ (h _ (Spl.of hg _))
theorem step_copy2 {P : Program} {ops : Array Oper} {o : Oper} {a : Act} {w : World} {K : Act → World → Prop} {Q : Exit → Act → World → Prop} {E : Prop} (hgd : o.guard = none) (d s : Operand) (dT sT : TypeId)
    (ho : o.op = .call { callee := .builtin .copy, args := #[d, s], argTypes := #[dT, sT] }) (elem : TypeId) (hu : P.underlying dT = some (.slice elem)) (hsz : (P.info? elem).map (·.size) = some 2)
    (g off dLen dCap : Nat) (ad : Addr) (sLen sCap : Nat) (hd : a.eval d = .slice (some ⟨g, off, none⟩) dLen dCap) (hs : a.eval s = .slice (some ad) sLen sCap)
    (cur : List Value) (t : TypeId) (hg : w.heap[g]? = some (.cells cur.toArray t (0, 0))) (cs : List Value) (hn : cs.length = Nat.min sLen dLen * 2)
    (hsrc : ∀ j v, cs[j]? = some v → w.cell? (ad.add j) = some v) (hfit : off + cs.length ≤ cur.length) (h1 : ∀ v ∈ cs, v.oneCell' = true)
    (h : ∀ w', Spl g (splice cur off cs) t w w' → K (a.put o.dst (goInt (Nat.min sLen dLen))) w') :
    if Region.wanted o (yielded ops a.tmps) = true then Oper.wp P o a w K Q else E := by
  have hw : Region.wanted o (yielded ops a.tmps) = true := by simp [Region.wanted, hgd]
  rw [if_pos hw]
  have hrun := copy_row2 (P := P) w dT sT o.type elem g off dLen dCap ad sLen sCap cur t cs hu hsz hg hn hsrc hfit h1
  unfold Oper.wp
  simp [execOp, ho, resolve, invoke, builtin, hd, hs, hrun, Result.andThen]
  exact h _ (Spl.of hg _)
/-- the cells of a row that is known whole -/
theorem row_cells {w : World} {g : Nat} {cur : List Value} {t : TypeId} (hg : w.heap[g]? = some (.cells cur.toArray t (0, 0))) (o : Nat) (cs : List Value) (h : cs = (cur.drop o).take cs.length) : ∀ j v, cs[j]? = some v → w.cell? ((⟨g, o, none⟩ : Addr).add j) = some v := by
  intro j v hj
  have hlt : j < cs.length := (List.getElem?_eq_some_iff.1 hj).1
  rw [h, List.getElem?_take, if_pos hlt, List.getElem?_drop] at hj
  have e : (⟨g, o, none⟩ : Addr).add j = ⟨g, o + j, none⟩ := Addr.add_lit _ _ _
  rw [e]
  simp [World.cell?, hg, hj]
end Go.Proofs.YtjpldfkhacchdaaDoor

/-
  Rows of values with one put between them, or in one's place, cell by cell. No condition.
-/
namespace Go.Proofs.YtjpldfkhacchdaaDoor

theorem spl_split (Z X1 : List Value) (k : Nat) (h1 : Z.take k = X1) : Z = X1 ++ Z.drop k := by rw [← h1, List.take_append_drop]
theorem spl_at (X1 R Y : List Value) : splice (X1 ++ R) X1.length Y = X1 ++ (Y ++ R.drop Y.length) := by
  unfold splice
  rw [List.take_left, List.drop_append]
  have e : X1.length + Y.length - X1.length = Y.length := by omega
  rw [e, List.drop_eq_nil_of_le (show X1.length ≤ X1.length + Y.length by omega), List.nil_append]
theorem spA {Z X1 Y X2 : List Value} {k : Nat} (h1 : Z.take k = X1) (hk : X1.length = k) :
    (splice (splice Z k Y) (k + Y.length) X2).take (k + Y.length + X2.length) = X1 ++ (Y ++ X2) := by
  generalize hR : Z.drop k = R
  have e : Z = X1 ++ R := by rw [← hR]; exact spl_split Z X1 k h1
  subst e
  subst hk
  rw [spl_at X1 R Y, ← List.append_assoc, ← List.length_append, spl_at (X1 ++ Y) (R.drop Y.length) X2, ← List.append_assoc, ← List.length_append, List.take_left, List.append_assoc]
theorem spB {Z X1 Y X2 : List Value} {k : Nat} (h1 : Z.take k = X1) (hk : X1.length = k) (hZ : k + Y.length + X2.length ≤ Z.length) :
    (splice (splice Z (k + Y.length) X2) k Y).take (k + Y.length + X2.length) = X1 ++ (Y ++ X2) := by
  have hl : (Z.drop k).length = Z.length - k := List.length_drop ..
  generalize hR : Z.drop k = R at hl
  have e : Z = X1 ++ R := by rw [← hR]; exact spl_split Z X1 k h1
  subst e
  subst hk
  have e2 : X1 ++ R = (X1 ++ R.take Y.length) ++ R.drop Y.length := by rw [List.append_assoc, List.take_append_drop]
  have e3 : X1.length + Y.length = (X1 ++ R.take Y.length).length := by rw [List.length_append, List.length_take]; omega
  have s1 : splice (X1 ++ R) (X1.length + Y.length) X2 = (X1 ++ R.take Y.length) ++ (X2 ++ (R.drop Y.length).drop X2.length) := by
    rw [e3]
    conv => lhs; rw [e2]
    exact spl_at (X1 ++ R.take Y.length) (R.drop Y.length) X2
  rw [s1, List.append_assoc, spl_at X1 _ Y]
  have e4 : (R.take Y.length ++ (X2 ++ (R.drop Y.length).drop X2.length)).drop Y.length = X2 ++ (R.drop Y.length).drop X2.length := by
    have h := List.drop_left (l₁ := R.take Y.length) (l₂ := X2 ++ (R.drop Y.length).drop X2.length)
    rw [List.length_take, Nat.min_eq_left (by omega)] at h
    exact h
  rw [e4, ← List.append_assoc, ← List.append_assoc, List.append_assoc X1 Y X2]
  have e5 : X1.length + Y.length + X2.length = (X1 ++ (Y ++ X2)).length := by simp; omega
  rw [e5, List.take_left]
theorem rowV_take (l : List MV) : ∀ i, (rowV l).take (i * 2) = rowV (l.take i) := by
  induction l with
  | nil => intro i; simp [rowV]
  | cons x l ih =>
    intro i
    cases i with
    | zero => simp [rowV]
    | succ i =>
      have e : (i + 1) * 2 = i * 2 + 1 + 1 := by omega
      rw [List.take_succ_cons, e]
      show (cellsV x ++ rowV l).take _ = cellsV x ++ rowV (l.take i)
      rw [← ih i]
      rfl
theorem rowV_drop (l : List MV) : ∀ i, (rowV l).drop (i * 2) = rowV (l.drop i) := by
  induction l with
  | nil => intro i; simp [rowV]
  | cons x l ih =>
    intro i
    cases i with
    | zero => simp [rowV]
    | succ i =>
      have e : (i + 1) * 2 = i * 2 + 1 + 1 := by omega
      rw [List.drop_succ_cons, e]
      show (cellsV x ++ rowV l).drop _ = _
      rw [← ih i]
      rfl
def insV (l : List MV) (i : Nat) (u : MV) : List MV := l.take i ++ u :: l.drop i
theorem insV_length (l : List MV) (i : Nat) (u : MV) : (insV l i u).length = l.length + 1 := by
  simp [insV]; omega
theorem rowV_ins (l : List MV) (i : Nat) (u : MV) : rowV (insV l i u) = rowV (l.take i) ++ (cellsV u ++ rowV (l.drop i)) := by
  rw [insV, rowV_append]; rfl
end Go.Proofs.YtjpldfkhacchdaaDoor

/-
  slices.Insert of one value into a row of one's own: the row with it, in its place or in new memory; nothing older is changed. Conditions: at most 14 values.
-/
namespace Go.Proofs.YtjpldfkhacchdaaDoor
open Go.RowKit

theorem sizeVal : (Tryd.prog.info? 40).map (·.size) = some 2 := by kernel_rfl
theorem overlaps_no {w : World} {vb g : Nat} {l cur : List Value} {t : TypeId} (hv : Bx w vb t l) (hg : w.heap[g]? = some (.cells cur.toArray t (0, 0))) (hne : vb ≠ g) (hc : 0 < cur.length) (o lb cb : Nat) :
    (callFunc 59 #[.slice (some ⟨vb, 0, none⟩) 1 1, .slice (some ⟨g, o, none⟩) lb cb]).run Tryd.prog w = .ok (.value (.bool false)) w := by
  have hv' : w.heap[vb]? = some (.cells l.toArray t (0, 0)) := hv
  rw [run_callFunc_extern Tryd.func59 (by kernel_rfl) (by kernel_rfl) (by kernel_rfl) (e := Extern.SlicesOverlaps.overlaps #[23, 23] #[4]) (by kernel_rfl),
    Lib.run_overlaps_apart w 23 4 40 Tryd.underlying23 2 Tryd.sizeOf40 ⟨vb, 0, none⟩ ⟨g, o, none⟩ 1 1 lb cb hne t t l.length cur.length (by simp [World.shape?, hv']) (by simp [World.shape?, hg]) (by omega) (hv.frozen 0) (hv.frozen _)]
  rfl

theorem bx_cells {w : World} {b : Nat} {t : TypeId} {l : List Value} (h : Bx w b t l) : ∀ j v, l[j]? = some v → w.cell? ((⟨b, 0, none⟩ : Addr).add j) = some v := by
  intro j v hj
  obtain ⟨hlt, he⟩ := List.getElem?_eq_some_iff.1 hj
  have e : (⟨b, 0, none⟩ : Addr).add j = ⟨b, 0 + j, none⟩ := Addr.add_lit _ _ _
  rw [e, Nat.zero_add, h.cell j hlt, he]
theorem cellsV_one (u : MV) : ∀ v ∈ cellsV u, v.oneCell' = true := by
  intro v hv
  simp only [cellsV, List.mem_cons, List.not_mem_nil, or_false] at hv
  rcases hv with rfl | rfl <;> rfl

set_option maxRecDepth 100000 in
set_option maxHeartbeats 2000000 in
theorem insert_room (l : List MV) (u : MV) (i g c vb : Nat) (cur : List Value) (w : World) (hi : i < l.length) (hroom : l.length + 1 ≤ c) (hl : l.length ≤ 14)
    (hg : w.heap[g]? = some (.cells cur.toArray 40 (0, 0))) (hcl : cur.length = c * 2) (hcur : cur.take (l.length * 2) = rowV l) (hv : Bx w vb 40 (cellsV u)) (hne : vb ≠ g) :
    Calls Tryd.prog 58 #[.slice (some ⟨g, 0, none⟩) l.length c, .int .i64 i, .slice (some ⟨vb, 0, none⟩) 1 1] w fun e w' => e = .returned (.slice (some ⟨g, 0, none⟩) (l.length + 1) c) ∧ ∃ L : List Value, w'.heap[g]? = some (.cells L.toArray 40 (0, 0)) ∧ L.length = c * 2 ∧ L.take ((l.length + 1) * 2) = rowV (insV l i u) ∧ Below g w w' := by
  have hov := fun o lb cb => overlaps_no hv hg hne (by omega) o lb cb
  obtain ⟨n, hn⟩ : ∃ n, l.length = n := ⟨_, rfl⟩
  rw [hn] at hi hroom hl ⊢
  have hz2 : ¬ ((i : Int) = (n : Int)) := by omega
  have hz3 : ¬ ((c : Int) < (n : Int) + 1) := by omega
  have hw1 : IntKind.i64.wrap ((i : Int) + 1) = (i : Int) + 1 := by rw [IntKind.wrap_i64]; omega
  have hw2 : IntKind.i64.wrap ((n : Int) + 1) = (n : Int) + 1 := by rw [IntKind.wrap_i64]; omega
  have hci : ¬ (c = i) := by omega
  have hci1 : ¬ (c = i + 1) := by omega
  have hin : i ≤ n := by omega
  have h1 : (i : Int) ≤ (n : Int) := by omega
  have h2 : (n : Int) + 1 ≤ (c : Int) := by omega
  have h3 : (i : Int) + 1 ≤ (n : Int) + 1 := by omega
  have h6 : (i : Int) ≤ (n : Int) + 1 := by omega
  have h4 : (0 : Int) ≤ (n : Int) + 1 := by omega
  have h5 : (0 : Int) ≤ (i : Int) + 1 := by omega
  have e1 : ((i : Int) + 1).toNat = i + 1 := by omega
  have e2 : ((n : Int) + 1).toNat = n + 1 := by omega
  obtain ⟨c1, hc1⟩ : ∃ c1, c1 = rowV (l.drop i) := ⟨_, rfl⟩
  have hcl1 : c1.length = (n - i) * 2 := by rw [hc1, rowV_length, List.length_drop, hn]
  have hsr1 : c1 = (cur.drop (i * 2)).take c1.length := by
    rw [hcl1, hc1, ← rowV_drop, ← hcur, hn, List.drop_take]
    congr 1
    omega
  have hgD : w.drew.heap[g]? = some (.cells cur.toArray 40 (0, 0)) := hg
  have hs1 := row_cells hgD (i * 2) c1 hsr1
  have hn1 : c1.length = Nat.min (n + 1 - i) (n + 1 - (i + 1)) * 2 := by
    rw [hcl1]
    simp only [Nat.min_def]
    split <;> omega
  have hf1 : (i + 1) * 2 + c1.length ≤ cur.length := by omega
  have ho1 : ∀ v ∈ c1, v.oneCell' = true := by rw [hc1]; exact rowV_one _
  have hl2 : (splice cur ((i + 1) * 2) c1).length = c * 2 := by rw [length_splice _ _ _ hf1, hcl]
  have hn2 : (cellsV u).length = Nat.min 1 (n + 1 - i) * 2 := by
    have : Nat.min 1 (n + 1 - i) = 1 := by simp only [Nat.min_def]; split <;> omega
    rw [this]; rfl
  have hfit2 : i * 2 + (cellsV u).length ≤ (splice cur ((i + 1) * 2) c1).length := by rw [hl2]; show i * 2 + 2 ≤ _; omega
  have HL : Hid ((splice (splice cur ((i + 1) * 2) c1) (i * 2) (cellsV u)).take ((n + 1) * 2) = rowV (insV l i u) ∧ (splice (splice cur ((i + 1) * 2) c1) (i * 2) (cellsV u)).length = c * 2) := Lib.hid (by
    refine ⟨?_, by rw [length_splice _ _ _ hfit2, hl2]⟩
    have h1 : cur.take (i * 2) = rowV (l.take i) := by
      rw [← rowV_take, ← hcur, List.take_take, hn, Nat.min_eq_left (by omega)]
    have h := spB (Z := cur) (X1 := rowV (l.take i)) (Y := cellsV u) (X2 := c1) h1 (by rw [rowV_length, List.length_take]; omega) (by show i * 2 + 2 + _ ≤ _; omega)
    have k1 : i * 2 + (cellsV u).length = (i + 1) * 2 := by show i * 2 + 2 = _; omega
    have k2 : (i + 1) * 2 + c1.length = (n + 1) * 2 := by omega
    rw [k1, k2] at h
    rw [h, rowV_ins, hc1])
  have hu1 := cellsV_one u
  clear hc1 hcl1 hsr1 hcur hn
  generalize cellsV u = cu at *
  go_enter Tryd.func58, Tryd.ntmps58
  go_wp2_with (simp only [hov])
  go_region_law (refine step_copy2 rfl (.tmp 73) (.tmp 76) 23 23 rfl 40 Tryd.underlying23 sizeVal g ((i + 1) * 2) (n + 1 - (i + 1)) (c - (i + 1)) ⟨g, i * 2, none⟩ (n + 1 - i) (c - i) (by simp [Act.eval, Act.put]) (by simp [Act.eval, Act.put]) cur 40 hgD c1 hn1 hs1 hf1 ho1 ?_; intro w2 S2)
  have hv2 := bx_cells (S2.bx hv hne)
  have SR := S2.row
  have HS := Lib.hid S2
  clear S2 hgD hs1 hn1 ho1 hg hv hov
  have hcp := copy_row2 (P := Tryd.prog) w2 23 23 3 40 g (i * 2) (n + 1 - i) (c - i) ⟨vb, 0, none⟩ 1 1 (splice cur ((i + 1) * 2) c1) 40 cu Tryd.underlying23 sizeVal SR hn2 hv2 hfit2 hu1
  have S3 := Spl.of SR (splice (splice cur ((i + 1) * 2) c1) (i * 2) cu)
  generalize w2.setRow g (splice (splice cur ((i + 1) * 2) c1) (i * 2) cu).toArray = w3 at hcp S3
  have HR := Lib.hid S3.row
  have HB : Hid (Below g w w3) := Lib.hid (S3.below (HS.out.below (Below.refl g w).drew (Nat.le_refl _)) (Nat.le_refl _))
  clear S3 SR HS hn2 hv2 hfit2 hu1
  go_wp2
  go_ret
  exact ⟨rfl, _, HR.out, HL.out.2, HL.out.1, HB.out⟩

set_option maxRecDepth 100000 in
set_option maxHeartbeats 2000000 in
theorem insert_end (l : List MV) (u : MV) (v : Value) (N vb : Nat) (w : World) (hN : N ≤ w.heap.size) (hrow : w.ownsRow N 40 2 v l.length (rowV l)) (hl : l.length ≤ 14) (hv : Bx w vb 40 (cellsV u)) :
    Calls Tryd.prog 58 #[v, .int .i64 l.length, .slice (some ⟨vb, 0, none⟩) 1 1] w fun e w' => ∃ v', e = .returned v' ∧ w'.ownsRow N 40 2 v' (l.length + 1) (rowV l ++ cellsV u) ∧ Below N w w' := by
  obtain ⟨i0, hi, hz0, hz1, hz2⟩ := info_partsV infoVal
  have hnew := bx_cells hv
  have hu1 := cellsV_one u
  have hcu : (cellsV u).length = 1 * 2 := rfl
  have HB : Hid (∀ w1, w.grownBy w1 v.ownBlock → Below N w w1) := Lib.hid (fun w1 hg => (Below.refl N w).grown hg (by omega) (fun q hq => (hrow.lt q hq).1))
  generalize cellsV u = cu at *
  generalize rowV l = row at *
  generalize l.length = n at *
  clear hv
  rcases hrow.2 with ⟨rfl, rfl⟩ | ⟨g, c, cur, rfl, -, -, hnc, hcm, -, -⟩
  · go_enter Tryd.func58, Tryd.ntmps58
    go_wp2_with (at_builtin; refine wpList_append_own _ rfl _ _ 23 rfl N 40 i0 (.agg #[.int .u64 0, .string ⟨#[]⟩]) 2 24 Tryd.underlying23 hi hz0 hz1 hz2 rfl (by decide) _ _ _ rfl hrow ⟨vb, 0, none⟩ 1 1 cu rfl hcu hnew hu1 (by unfold maxLen; omega) (by omega) hN ?_)
    intro o' w1 hown' hgrow _
    have HB1 := Lib.hid (HB.out _ hgrow)
    have HO := Lib.hid hown'
    clear hown' hgrow hrow HB
    go_wp2
    go_ret
    exact ⟨_, rfl, HO.out, HB1.out⟩
  · have h1 : (n : Int) ≤ (c : Int) := by omega
    go_enter Tryd.func58, Tryd.ntmps58
    go_wp2_with (at_builtin; refine wpList_append_own _ rfl _ _ 23 rfl N 40 i0 (.agg #[.int .u64 0, .string ⟨#[]⟩]) 2 24 Tryd.underlying23 hi hz0 hz1 hz2 rfl (by decide) _ _ _ rfl hrow ⟨vb, 0, none⟩ 1 1 cu rfl hcu hnew hu1 (by unfold maxLen; omega) (by omega) hN ?_)
    all_goals
      intro o' w1 hown' hgrow _
      have HB1 := Lib.hid (HB.out _ hgrow)
      have HO := Lib.hid hown'
      clear hown' hgrow hrow HB
      go_wp2
      go_ret
      exact ⟨_, rfl, HO.out, HB1.out⟩

theorem zero_len (k : Nat) : (Builtin.zeroCells (Value.agg #[.int .u64 0, .string ⟨#[]⟩]).cells k).size = k * 2 := by
  simp [Builtin.zeroCells, Value.cells]

set_option maxRecDepth 100000 in
set_option maxHeartbeats 4000000 in
theorem insert_grow (l : List MV) (u : MV) (i g c vb : Nat) (cur : List Value) (w : World) (hi : i < l.length) (hnc : l.length ≤ c) (hroom : c < l.length + 1) (hl : l.length ≤ 14)
    (hg : w.heap[g]? = some (.cells cur.toArray 40 (0, 0))) (hcur : cur.take (l.length * 2) = rowV l) (hv : Bx w vb 40 (cellsV u)) :
    Calls Tryd.prog 58 #[.slice (some ⟨g, 0, none⟩) l.length c, .int .i64 i, .slice (some ⟨vb, 0, none⟩) 1 1] w fun e w' => ∃ G, e = .returned (.slice (some ⟨w.heap.size, 0, none⟩) (l.length + 1) G) ∧ l.length + 1 ≤ G ∧ G ≤ maxLen ∧ ∃ L : List Value, w'.heap[w.heap.size]? = some (.cells L.toArray 40 (0, 0)) ∧ L.length = G * 2 ∧ L.take ((l.length + 1) * 2) = rowV (insV l i u) ∧ Below w.heap.size w w' := by
  obtain ⟨i0, hi0, hz0, hz1, hz2⟩ := info_partsV infoVal
  obtain ⟨n, hn⟩ : ∃ n, l.length = n := ⟨_, rfl⟩
  rw [hn] at hi hroom hnc hl ⊢
  have hgw : g < w.heap.size := (Array.getElem?_eq_some_iff.1 hg).1
  have hi1 : (rowV (l.take i)).length = i * 2 := by rw [rowV_length, List.length_take]; omega
  have hcut : cur.take (i * 2) = rowV (l.take i) := by
    rw [← rowV_take, ← hcur, List.take_take, hn, Nat.min_eq_left (by omega)]
  have hold : (Builtin.firstCells i0.size i (.slice (some ⟨g, 0, none⟩) i c)).run Tryd.prog w.drew = .ok (rowV (l.take i)).toArray w.drew := by
    rw [hz1]
    exact run_firstCells_some w.drew 2 i ⟨g, 0, none⟩ i c (rowV (l.take i)) hi1 (row_cells (w := w.drew) hg 0 (rowV (l.take i)) (by rw [hi1, List.drop_zero, hcut]))
  have hik : i + (n + 1 - i) = n + 1 := by omega
  have hkk : (n : Int) + 1 - (i : Int) = ((n + 1 - i : Nat) : Int) := by omega
  have hrz : ∀ ty, (Builtin.append_ #[23, 3] ty #[.slice (some ⟨g, 0, none⟩) i c, .int .i64 ((n : Int) + 1 - (i : Int))]).run Tryd.prog w = .ok (.slice (some ⟨w.heap.size, 0, none⟩) (n + 1) (grownCap w (n + 1) c 40)) (w.drew.alloc (.cells ((rowV (l.take i)).toArray ++ Builtin.zeroCells (Value.agg #[.int .u64 0, .string ⟨#[]⟩]).cells (n + 1 - i) ++ Builtin.zeroCells (Value.agg #[.int .u64 0, .string ⟨#[]⟩]).cells (grownCap w (n + 1) c 40 - (n + 1))) 40)) := fun ty => by
    have h := Lib.run_append_grow_zeros w 23 3 ty 40 i0 _ .i64 .i64 Tryd.underlying23 Tryd.underlying3 hi0 hz0 (some ⟨g, 0, none⟩) i c (rowV (l.take i)) hold (n + 1 - i) (by omega) (by omega) (by omega) (by omega) (by rw [hz2]; omega) (by rw [hz2, hik]; exact growslice_fits hroom (by omega))
    rw [hik] at h
    rw [hkk]
    exact h
  obtain ⟨G, hG⟩ : ∃ G, G = grownCap w (n + 1) c 40 := ⟨_, rfl⟩
  have hGn : n + 1 ≤ G := by rw [hG]; exact grownCap_ge w _ _ _
  have hGm : G ≤ maxLen := by rw [hG]; exact grownCap_le_maxLen w (n + 1) c 40 (by unfold maxLen; omega)
  rw [← hG] at hrz
  obtain ⟨Z, hZ⟩ : ∃ Z : List Value, Z.toArray = (rowV (l.take i)).toArray ++ Builtin.zeroCells (Value.agg #[.int .u64 0, .string ⟨#[]⟩]).cells (n + 1 - i) ++ Builtin.zeroCells (Value.agg #[.int .u64 0, .string ⟨#[]⟩]).cells (G - (n + 1)) := ⟨_, Array.toArray_toList⟩
  have hZl : Z.length = G * 2 := by
    have h := congrArg Array.size hZ
    rw [List.size_toArray, Array.size_append, Array.size_append, zero_len, zero_len, List.size_toArray, hi1] at h
    omega
  have hZt : Z.take (i * 2) = rowV (l.take i) := by
    have h := congrArg Array.toList hZ
    rw [Array.toList_append, Array.toList_append] at h
    simp only [List.append_assoc] at h
    rw [h, ← hi1]
    exact List.take_left
  rw [← hZ] at hrz
  obtain ⟨c1, hc1⟩ : ∃ c1, c1 = rowV (l.drop i) := ⟨_, rfl⟩
  have hcl1 : c1.length = (n - i) * 2 := by rw [hc1, rowV_length, List.length_drop, hn]
  have hsr1 : c1 = (cur.drop (i * 2)).take c1.length := by
    rw [hcl1, hc1, ← rowV_drop, ← hcur, hn, List.drop_take]
    congr 1
    omega
  obtain ⟨W1, hW1⟩ : ∃ W1, W1 = (w.alloc (.cells Z.toArray 40)).drew := ⟨_, rfl⟩
  have hW1' : w.drew.alloc (.cells Z.toArray 40) = W1 := by rw [hW1]; rfl
  have hZ1 : W1.heap[w.heap.size]? = some (.cells Z.toArray 40 (0, 0)) := by rw [hW1]; exact World.alloc_heap_new w _
  have hB1 : Below w.heap.size w W1 := by rw [hW1]; exact ((Below.refl _ w).alloc (Nat.le_refl _) _).drew
  have hg1 : W1.heap[g]? = some (.cells cur.toArray 40 (0, 0)) := (hB1.block g hgw).trans hg
  have hv1 := bx_cells (hv.kept hB1)
  have hcu : (cellsV u).length = 2 := rfl
  have hn2 : (cellsV u).length = Nat.min 1 (n + 1 - i) * 2 := by
    have : Nat.min 1 (n + 1 - i) = 1 := by simp only [Nat.min_def]; split <;> omega
    rw [this]; rfl
  have hfit1 : i * 2 + (cellsV u).length ≤ Z.length := by omega
  have hcpA : ∀ dc, _ := fun dc => copy_row2 (P := Tryd.prog) W1 23 23 3 40 w.heap.size (i * 2) (n + 1 - i) dc ⟨vb, 0, none⟩ 1 1 Z 40 (cellsV u) Tryd.underlying23 sizeVal hZ1 hn2 hv1 hfit1 (cellsV_one u)
  have S2 := Spl.of hZ1 (splice Z (i * 2) (cellsV u))
  generalize W1.setRow w.heap.size (splice Z (i * 2) (cellsV u)).toArray = W2 at hcpA S2
  have hg2 : W2.drew.heap[g]? = some (.cells cur.toArray 40 (0, 0)) := (S2.other g (by omega)).trans hg1
  have hl2 : (splice Z (i * 2) (cellsV u)).length = G * 2 := by rw [length_splice _ _ _ hfit1, hZl]
  have hZ2 : W2.drew.heap[w.heap.size]? = some (.cells (splice Z (i * 2) (cellsV u)).toArray 40 (0, 0)) := S2.row
  have hs1 := row_cells hg2 (i * 2) c1 hsr1
  have hn1 : c1.length = Nat.min (n - i) (n + 1 - (i + 1)) * 2 := by
    rw [hcl1]
    simp only [Nat.min_def]
    split <;> omega
  have hf1 : (i + 1) * 2 + c1.length ≤ (splice Z (i * 2) (cellsV u)).length := by omega
  have ho1 : ∀ v ∈ c1, v.oneCell' = true := by rw [hc1]; exact rowV_one _
  have HL : Hid ((splice (splice Z (i * 2) (cellsV u)) ((i + 1) * 2) c1).take ((n + 1) * 2) = rowV (insV l i u) ∧ (splice (splice Z (i * 2) (cellsV u)) ((i + 1) * 2) c1).length = G * 2) := Lib.hid (by
    refine ⟨?_, by rw [length_splice _ _ _ hf1, hl2]⟩
    have h := spA (Z := Z) (X1 := rowV (l.take i)) (Y := cellsV u) (X2 := c1) hZt hi1
    have k1 : i * 2 + (cellsV u).length = (i + 1) * 2 := by omega
    have k2 : (i + 1) * 2 + c1.length = (n + 1) * 2 := by omega
    rw [k1, k2] at h
    rw [h, rowV_ins, hc1])
  have HB2 : Hid (Below w.heap.size w W2) := Lib.hid (S2.below hB1 (Nat.le_refl _))
  rw [hW1'] at hrz
  clear hc1 hcl1 hsr1 hcur hn hZt hZ hold hZ1 hB1 hg1 hv1 hn2 hfit1 S2 hG hik hkk hcut hi1 hW1 hW1' hZl hl2 hg2 hg
  generalize splice Z (i * 2) (cellsV u) = Z2 at *
  have hci : ¬ (c = i) := by omega
  have hGi : ¬ (G = i) := by omega
  have hGi1 : ¬ (G = i + 1) := by omega
  have hq2 : ¬ ((i : Int) = (n : Int)) := by omega
  have hq3 : (c : Int) < (n : Int) + 1 := by omega
  have hw1 : IntKind.i64.wrap ((i : Int) + 1) = (i : Int) + 1 := by rw [IntKind.wrap_i64]; omega
  have hw2 : IntKind.i64.wrap ((n : Int) + 1) = (n : Int) + 1 := by rw [IntKind.wrap_i64]; omega
  have h1 : (i : Int) ≤ (n : Int) := by omega
  have h1' : (i : Int) ≤ (c : Int) := by omega
  have h3 : (i : Int) + 1 ≤ (n : Int) + 1 := by omega
  have h5 : (0 : Int) ≤ (i : Int) + 1 := by omega
  have h6 : (i : Int) ≤ (n : Int) + 1 := by omega
  have e1 : ((i : Int) + 1).toNat = i + 1 := by omega
  go_enter Tryd.func58, Tryd.ntmps58
  go_wp2_with (at_builtin; refine Lib.wpList_append_run _ rfl _ _ _ _ rfl _ _ rfl rfl _ _ (hrz _) ?_)
  go_region_law (refine step_copy2 rfl (.tmp 50) (.tmp 53) 23 23 rfl 40 Tryd.underlying23 sizeVal w.heap.size ((i + 1) * 2) (n + 1 - (i + 1)) (G - (i + 1)) ⟨g, i * 2, none⟩ (n - i) (c - i) (by simp [Act.eval, Act.put]) (by simp [Act.eval, Act.put]) Z2 40 hZ2 c1 hn1 hs1 hf1 ho1 ?_; intro w3 S3)
  have HR := Lib.hid S3.row
  have HB : Hid (Below w.heap.size w w3) := Lib.hid (S3.below HB2.out.drew (Nat.le_refl _))
  clear S3 HB2 hZ2 hs1 hn1 hf1 ho1 hcpA hrz hv
  go_wp2
  go_ret
  exact ⟨G, rfl, hGn, hGm, _, HR.out, HL.out.2, HL.out.1, HB.out⟩

theorem insert_any (l : List MV) (u : MV) (i : Nat) (v : Value) (N vb : Nat) (w : World) (hN : N ≤ w.heap.size) (hrow : w.ownsRow N 40 2 v l.length (rowV l)) (hi : i ≤ l.length) (hl : l.length ≤ 14) (hv : Bx w vb 40 (cellsV u)) (hne : v.ownBlock ≠ some vb) :
    Calls Tryd.prog 58 #[v, .int .i64 i, .slice (some ⟨vb, 0, none⟩) 1 1] w fun e w' => ∃ v', e = .returned v' ∧ w'.ownsRow N 40 2 v' (l.length + 1) (rowV (insV l i u)) ∧ Below N w w' := by
  have hlen : (rowV (insV l i u)).length = (l.length + 1) * 2 := by rw [rowV_length, insV_length]
  by_cases hie : i = l.length
  · subst hie
    refine (insert_end l u v N vb w hN hrow hl hv).mono ?_
    rintro e w' ⟨v', rfl, hr, hb⟩
    refine ⟨v', rfl, ?_, hb⟩
    have e : rowV (insV l l.length u) = rowV l ++ cellsV u := by
      rw [rowV_ins, List.take_length, List.drop_length]
      simp [rowV]
    rw [e]; exact hr
  · rcases hrow.2 with ⟨-, h0⟩ | ⟨g, c, cur, rfl, hNg, hg, hnc, hcm, hsz, hcur⟩
    · omega
    · have hne' : vb ≠ g := fun e => hne (by rw [e]; rfl)
      have hg' : w.heap[g]? = some (.cells cur.toList.toArray 40 (0, 0)) := by rw [Array.toArray_toList]; exact hg
      have hsz' : cur.toList.length = c * 2 := by rw [Array.length_toList]; exact hsz
      by_cases hroom : l.length + 1 ≤ c
      · refine (insert_room l u i g c vb cur.toList w (by omega) hroom hl hg' hsz' hcur hv hne').mono ?_
        rintro e w' ⟨rfl, L, h1, h2, h3, hb⟩
        exact ⟨_, rfl, ⟨hlen, .inr ⟨g, c, L.toArray, rfl, hNg, h1, hroom, hcm, by rw [List.size_toArray]; exact h2, h3⟩⟩, hb.mono hNg⟩
      · refine (insert_grow l u i g c vb cur.toList w (by omega) hnc (by omega) hl hg' hcur hv).mono ?_
        rintro e w' ⟨G, rfl, g1, g2, L, h1, h2, h3, hb⟩
        exact ⟨_, rfl, ⟨hlen, .inr ⟨w.heap.size, G, L.toArray, rfl, hN, h1, g1, g2, by rw [List.size_toArray]; exact h2, h3⟩⟩, hb.mono hN⟩
end Go.Proofs.YtjpldfkhacchdaaDoor
