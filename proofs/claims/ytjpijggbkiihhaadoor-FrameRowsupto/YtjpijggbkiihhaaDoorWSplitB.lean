/-
  frame.Split answers all frames that bytes begin with, in a row of its own, what is left, and why; nothing that was there is changed. Conditions: the tables of widths and kinds are as their texts lay them; the text has at most 2^32 bytes.
-/
import Derived.Deep.Onto
import Derived.Sort.QuietIn
import Derived.Test.YtjpijggbkiihhaaDoorWSplit
namespace Go.Proofs.YtjpijggbkiihhaaDoor
open Go.RowKit Go.Maps Go.Shelf
attribute [local go_sem] Oper.semAt_some

theorem infoFrame : (Tryd.prog.info? 23).map (fun i => (i.zero, i.size, i.bytes)) = some (some (.agg #[.int .i64 0, .int .i64 0, .string ⟨#[]⟩]), 3, 32) := by kernel_rfl
/-- a row of frames, cell by cell -/
def cellsFr (f : Fr) : List Value := [.int .i64 f.t, .int .i64 f.c, .string f.d]
def rowFr (l : List Fr) : List Value := l.flatMap cellsFr
theorem rowFr_snoc (l : List Fr) (f : Fr) : rowFr (l ++ [f]) = rowFr l ++ [.int .i64 f.t, .int .i64 f.c, .string f.d] := by simp [rowFr, cellsFr]
theorem rowFr_length (l : List Fr) : (rowFr l).length = l.length * 3 := by
  induction l with
  | nil => rfl
  | cons f l ih => simp [rowFr, cellsFr] at ih ⊢; omega
theorem cell_three_new (w : World) (x y z : Value) (t : TypeId) : ∀ j u, [x, y, z][j]? = some u → (w.alloc (.cells #[x, y, z] t)).cell? ((⟨w.heap.size, 0, none⟩ : Addr).add j) = some u := by
  intro j u hj
  match j, hj with
  | 0, hj => simp at hj; subst hj; simp [Addr.add]
  | 1, hj => simp at hj; subst hj; simp [Addr.add]
  | 2, hj => simp at hj; subst hj; simp [Addr.add]
theorem info_parts3 {P : Program} {t : TypeId} {z : Option Value} {a b : Nat} (h : (P.info? t).map (fun i => (i.zero, i.size, i.bytes)) = some (z, a, b)) : ∃ i, P.info? t = some i ∧ i.zero = z ∧ i.size = a ∧ i.bytes = b := by
  obtain ⟨i, hi, he⟩ := Option.map_eq_some_iff.1 h
  simp only [Prod.mk.injEq] at he
  exact ⟨i, hi, he.1, he.2.1, he.2.2⟩

theorem bx_grown {A A' : World} {row : Option Nat} {n B : Nat} {t : TypeId} {l : List Value} (h : Bx A B t l) (hg : A.grownBy A' row) (hr : ∀ r, row = some r → n ≤ r ∧ ∃ o : Obj, A.heap[r]? = some o ∧ o.isCells = false) : Bx A' B t l :=
  (hg.block B h.lt (fun e => by obtain ⟨-, o, ho, hc⟩ := hr B e.symm; rw [show A.heap[B]? = _ from h] at ho; cases ho; cases hc)).trans h

set_option maxRecDepth 100000 in
set_option maxHeartbeats 2000000 in
theorem split_any (s : ByteArray) (m : Int) (w : World) (hw : Wid w) (hk : Kin w) (hs : s.size ≤ 4294967296) :
    Calls Tryd.prog 15 #[.string s, .int .i64 m] w fun e w' => ∃ v, e = .returned (.tuple #[v, .string (spR s m), .int .i64 (spE s m)]) ∧ w'.ownsRow w.heap.size 23 3 v (frs s m).1.length (rowFr (frs s m).1) ∧ Below w.heap.size w w' := by
  obtain ⟨g1, g2⟩ := frs_facts m s.size s (Nat.le_refl _)
  have hlen : (frs s m).1.length ≤ 536870912 := by omega
  have H1 := Lib.hid (show spR s m = if (frs s m).2.2 = 2 then (frs s m).2.1 else ⟨#[]⟩ from rfl)
  have H2 := Lib.hid (show spE s m = if (frs s m).2.2 = 2 then 0 else (frs s m).2.2 from rfl)
  obtain ⟨i0, hi, hz0, hz1, hz2⟩ := info_parts3 infoFrame
  have hmf : ∀ (p q : Value) (w : World), (Instr.makeFunc (.func 31) #[] #[p, q]).run Tryd.prog w = .ok (.func (.func 31) #[] #[p, q]) w := fun _ _ _ => by kernel_rfl
  refine (callsIn_wide (n := 4)).1 ?_
  refine callsIn_of_wp_marks Tryd.func15 rfl trivial ?_ rfl
  simp only [Tryd.ntmps15, List.size_toArray, List.length_cons, List.length_nil, Nat.reduceAdd, Nat.reduceSub, Array.replicate_succ, Array.replicate_zero, List.push_toArray, List.append_toArray, List.nil_append, List.cons_append]
  gi_wp2_with fail
  refine ⟨trivial, (frames_in _ _ _ _ _ _).mono ?_⟩
  rintro e w2 ⟨rfl, rfl⟩
  gi_wp2
  obtain ⟨W0, hW0⟩ : ∃ W0, ((((((w.alloc (.cells #[.string s] 9)).alloc (.cells #[.int .i64 0] 25)).alloc (.cells #[.slice none 0 0] 34)).alloc (.cells #[.string s] 9)).alloc (.cells #[.int .i64 m] 3)).alloc (.cells #[.func (.func 31) #[] #[.pointer (some ⟨w.heap.size, 0, none⟩), .pointer (some ⟨w.heap.size + 1, 0, none⟩)]] 64)) = W0 := ⟨_, rfl⟩
  have qR : Boxed W0 (w.heap.size) 9 (.string s) := by
    have h := Boxed.new w 9 (.string s)
    rw [← hW0]
    exact (((((h.alloc _).alloc _).alloc _).alloc _).alloc _)
  have qW : Boxed W0 (w.heap.size + 1) 25 (.int .i64 0) := by
    have h := Boxed.new (w.alloc (.cells #[.string s] 9)) 25 (.int .i64 0)
    rw [World.size_alloc] at h
    rw [← hW0]
    exact ((((h.alloc _).alloc _).alloc _).alloc _)
  have qL : Boxed W0 (w.heap.size + 1 + 1) 34 (.slice none 0 0) := by
    have h := Boxed.new ((w.alloc (.cells #[.string s] 9)).alloc (.cells #[.int .i64 0] 25)) 34 (.slice none 0 0)
    rw [World.size_alloc, World.size_alloc] at h
    rw [← hW0]
    exact (((h.alloc _).alloc _).alloc _)
  have qS : Boxed W0 (w.heap.size + 1 + 1 + 1) 9 (.string s) := by
    have h := Boxed.new (((w.alloc (.cells #[.string s] 9)).alloc (.cells #[.int .i64 0] 25)).alloc (.cells #[.slice none 0 0] 34)) 9 (.string s)
    rw [World.size_alloc, World.size_alloc, World.size_alloc] at h
    rw [← hW0]
    exact ((h.alloc _).alloc _)
  have qM : Boxed W0 (w.heap.size + 1 + 1 + 1 + 1) 3 (.int .i64 m) := by
    have h := Boxed.new ((((w.alloc (.cells #[.string s] 9)).alloc (.cells #[.int .i64 0] 25)).alloc (.cells #[.slice none 0 0] 34)).alloc (.cells #[.string s] 9)) 3 (.int .i64 m)
    rw [World.size_alloc, World.size_alloc, World.size_alloc, World.size_alloc] at h
    rw [← hW0]
    exact (h.alloc _)
  have qF : Boxed W0 (w.heap.size + 1 + 1 + 1 + 1 + 1) 64 (.func (.func 31) #[] #[.pointer (some ⟨w.heap.size, 0, none⟩), .pointer (some ⟨w.heap.size + 1, 0, none⟩)]) := by
    have h := Boxed.new (((((w.alloc (.cells #[.string s] 9)).alloc (.cells #[.int .i64 0] 25)).alloc (.cells #[.slice none 0 0] 34)).alloc (.cells #[.string s] 9)).alloc (.cells #[.int .i64 m] 3)) 64 (.func (.func 31) #[] #[.pointer (some ⟨w.heap.size, 0, none⟩), .pointer (some ⟨w.heap.size + 1, 0, none⟩)])
    rw [World.size_alloc, World.size_alloc, World.size_alloc, World.size_alloc, World.size_alloc] at h
    rw [← hW0]
    exact h
  have hB0 : Below w.heap.size w W0 := by rw [← hW0]; exact (((((((Below.refl w.heap.size w).alloc (by simp) _).alloc (by simp) _).alloc (by simp; omega) _).alloc (by simp; omega) _).alloc (by simp; omega) _).alloc (by simp; omega) _)
  have hsz : W0.heap.size = w.heap.size + 6 := by rw [← hW0]; simp
  rw [hW0]
  clear hW0
  refine wpIn_range_tells (α := Fr) rfl (by decide) (gf := 37) (lb := #[.pointer (some ⟨w.heap.size + 1 + 1 + 1, 0, none⟩), .pointer (some ⟨w.heap.size + 1 + 1 + 1 + 1, 0, none⟩), .pointer (some ⟨w.heap.size + 1 + 1 + 1 + 1 + 1, 0, none⟩)]) rfl trivial (enters_of Tryd.func37 (by kernel_rfl) rfl)
    (encs := fun f => #[encFr f]) (Kp := KeepS w.heap.size [w.heap.size + 1 + 1 + 1 + 1, w.heap.size + 1 + 1 + 1 + 1 + 1, w.heap.size, w.heap.size + 1]) (N := (frs s m).1.length)
    (T := fun xs A B => xs = (frs s m).1 ∧ B = (A.setCell ⟨w.heap.size, 0, none⟩ (.string (frs s m).2.1)).setCell ⟨w.heap.size + 1, 0, none⟩ (.int .i64 (frs s m).2.2)) (fun _ => rfl)
    keepS_t (keepS_b (by omega))
    (fun pre W => (Boxed W (w.heap.size) 9 (.string s) ∧ Boxed W (w.heap.size + 1) 25 (.int .i64 0)) ∧ (∃ v, Boxed W (w.heap.size + 1 + 1) 34 v ∧ W.ownsRow w.heap.size 23 3 v pre.length (rowFr pre) ∧ True) ∧ Below w.heap.size w W)
    (fun _ W => (Boxed W (w.heap.size) 9 (.string (frs s m).2.1) ∧ Boxed W (w.heap.size + 1) 25 (.int .i64 (frs s m).2.2)) ∧ (∃ v, Boxed W (w.heap.size + 1 + 1) 34 v ∧ W.ownsRow w.heap.size 23 3 v (frs s m).1.length (rowFr (frs s m).1) ∧ True) ∧ Below w.heap.size w W)
    (fun pre A A' row hs hg hr => ⟨⟨boxed_grown hs.1.1 hg hr, boxed_grown hs.1.2 hg hr⟩, (Own.from (holdsRow_own w.heap.size (w.heap.size + 1 + 1) 34 23 3 (fun pre : List Fr => pre.length) (fun pre => rowFr pre) (fun _ _ => True)) _) pre A A' row hs.2.1 hg hr, below_grown hs.2.2 (Nat.le_refl _) (by omega) hg hr⟩)
    (fun pre A A' row hs hg hr => ⟨⟨boxed_grown hs.1.1 hg hr, boxed_grown hs.1.2 hg hr⟩, (Own.from (holdsRow_own w.heap.size (w.heap.size + 1 + 1) 34 23 3 (fun _ : List Fr => (frs s m).1.length) (fun _ => rowFr (frs s m).1) (fun _ _ => True)) _) pre A A' row hs.2.1 hg hr, below_grown hs.2.2 (Nat.le_refl _) (by omega) hg hr⟩)
    ⟨⟨qR, qW⟩, ⟨_, qL, World.ownsRow_nil _ _ _ _, trivial⟩, hB0⟩
    ?turn
    (fun l J W hW hJa hY h0' => frames1_in w hw hk l (w.heap.size + 1 + 1 + 1) (w.heap.size + 1 + 1 + 1 + 1) (w.heap.size + 1 + 1 + 1 + 1 + 1) (w.heap.size) (w.heap.size + 1) s m (by omega) (by omega) J (fun pre A A' h hb => hJa pre A A' none h (grown_of_below hb none) (fun r e => by cases e)) hY W (boxed_below qS hW qS.lt) (boxed_below qM hW qM.lt) (boxed_below qF hW qF.lt) (boxed_below qR hW qR.lt) (boxed_below qW hW qW.lt) (hB0.trans (hW.mono hB0.size)) h0')
    (fun x a' W => ∃ Bq, Bx W Bq 23 [.int .i64 x.t, .int .i64 x.c, .string x.d] ∧ a' = { tmps := #[.string s, .int .i64 m, undef, undef, .slice none 0 0, .string ⟨#[]⟩, .int .i64 0, .pointer (some ⟨w.heap.size, 0, none⟩), .pointer (some ⟨w.heap.size + 1, 0, none⟩), .func (.func 31) #[] #[.pointer (some ⟨w.heap.size, 0, none⟩), .pointer (some ⟨w.heap.size + 1, 0, none⟩)], .pointer (some ⟨w.heap.size + 1 + 1, 0, none⟩), .pointer (some ⟨Bq, 0, none⟩), .string s, .func (.func 31) #[] #[.pointer (some ⟨w.heap.size, 0, none⟩), .pointer (some ⟨w.heap.size + 1, 0, none⟩)], .string s, .int .i64 m, .func (.func 31) #[] #[.pointer (some ⟨w.heap.size, 0, none⟩), .pointer (some ⟨w.heap.size + 1, 0, none⟩)], .func (.func 37) #[] #[.pointer (some ⟨w.heap.size + 1 + 1 + 1, 0, none⟩), .pointer (some ⟨w.heap.size + 1 + 1 + 1 + 1, 0, none⟩), .pointer (some ⟨w.heap.size + 1 + 1 + 1 + 1 + 1, 0, none⟩)], .agg #[.int .i64 x.t, .int .i64 x.c, .string x.d], undef, undef, undef, undef, undef, undef, undef, undef, undef, undef], defers := [] })
    (fun x a' _ A A' row hs hg hr => by obtain ⟨Bq, h2, h3⟩ := hs; exact ⟨Bq, bx_grown h2 hg hr, h3⟩)
    ?assign ?body ?done
  case turn =>
    rintro xs A B ⟨⟨r1, r2⟩, ⟨v, hv, hrow, -⟩, hb⟩ ⟨rfl, rfl⟩
    have a1 := r1.set (.string (frs s m).2.1)
    have a2 := r2.other (B' := w.heap.size) (by omega) (.string (frs s m).2.1)
    have a3 := hv.other (B' := w.heap.size) (by omega) (.string (frs s m).2.1)
    have hr1 := hrow.kept (grownBy_setCell' A (w.heap.size) (.string (frs s m).2.1)) (.inr (r1.not_row (by decide) hrow).symm)
    refine ⟨⟨⟨a1.other (by omega) _, a2.set _⟩, ⟨v, a3.other (by omega) _, hr1.kept (grownBy_setCell' _ (w.heap.size + 1) _) (.inr (a2.not_row (by decide) hr1).symm), trivial⟩, (hb.setCell (p := ⟨w.heap.size, 0, none⟩) (Nat.le_refl _) _).setCell (p := ⟨w.heap.size + 1, 0, none⟩) (by simp) _⟩, ?_⟩
    exact ((KeepsOthers.setCell _ _ _).trans (KeepsOthers.setCell _ _ _)).from _
  case assign =>
    rintro l pre x W K ⟨⟨r1, r2⟩, ⟨v, hv, hrow, -⟩, hb⟩ hK
    unfold encFr
    gi_wp2
    exact hK _ _ ((KeepsOthers.alloc _ _).from _) ⟨(Below.refl _ W).alloc hb.size _, fun _ _ _ _ _ h => h.alloc _⟩ ⟨⟨r1.alloc _, r2.alloc _⟩, ⟨v, hv.alloc _, hrow.alloc _, trivial⟩, hb.alloc hb.size _⟩ ⟨W.heap.size, Bx.new W _ _, rfl⟩
  case body =>
    rintro l pre ⟨t, c, d⟩ a' W ⟨⟨r1, r2⟩, ⟨u, hu, hrow, -⟩, hB⟩ ⟨Bq, bX, rfl⟩ hlt
    dsimp only at bX ⊢
    have x0 := bX.cell 0 (by simp)
    have x1 := bX.cell 1 (by simp)
    have x2 := bX.cell 2 (by simp)
    dsimp only [List.getElem_cons_zero, List.getElem_cons_succ] at x0 x1 x2
    have hc := hu.cell
    have hpl : pre.length + 1 ≤ 536870912 := by omega
    gi_wp2_with (gi_at_builtin; refine wpListIn_append_own _ rfl _ _ 34 rfl w.heap.size 23 i0 (.agg #[.int .i64 0, .int .i64 0, .string ⟨#[]⟩]) 3 32 Tryd.underlying34 hi hz0 hz1 hz2 rfl (by decide) _ _ _ rfl (hrow.alloc _) ⟨W.heap.size, 0, none⟩ 1 1 [.int .i64 t, .int .i64 c, .string d] rfl rfl (cell_three_new _ _ _ _ _) (by simp [Value.oneCell']) (by unfold maxLen; omega) (by omega) (by have := hB.size; simp; omega) ?_; intro v' w2 hown' hgrow _; obtain ⟨g', cap', rfl⟩ := ownsRow_succ hown'; obtain ⟨hv1, hv2, hr2, hk2, hb2⟩ := hu.appended (by decide) hrow hB.size (by omega) hown' hgrow; have hc1 := hv1.cell; have hf1 := hv1.frozen)
    have keep : ∀ k, k ≠ w.heap.size + 1 + 1 → ∀ t v, t ≠ 23 → Boxed W k t v → Boxed (w2.setCell ⟨w.heap.size + 1 + 1, 0, none⟩ (.slice (some ⟨g', 0, none⟩) (pre.length + 1) cap')) k t v := fun k hk t v ht h => ((h.alloc _).kept hgrow (h.not_row ht hrow)).other hk _
    exact ⟨hk2.from _, ⟨hb2, fun k hk t v ht h => keep k (by simp at hk; omega) t v ht h⟩, ⟨keep _ (by omega) _ _ (by decide) r1, keep _ (by omega) _ _ (by decide) r2⟩, ⟨_, hv2, by rw [rowFr_snoc, List.length_append]; exact hr2, trivial⟩, hB.trans hb2⟩
  case done =>
    rintro D xs W hD ⟨⟨r1, r2⟩, ⟨v, hv, hrow, -⟩, hB⟩ hK
    have c1 := r1.cell
    have c2 := r2.cell
    have cL := hv.cell
    clear r1 r2 hv qR qW qL qS qM qF hB0 g1
    rcases g2 with g | g
    · rw [g] at c2
      have HR := Lib.hid (show spR s m = (frs s m).2.1 ∧ spE s m = 0 by rw [H1.out, H2.out, if_pos g, if_pos g]; exact ⟨rfl, rfl⟩)
      clear H1 H2 g
      generalize (frs s m).2.1 = rest at c1 HR
      gi_wp2
      gi_quiet (fail)
      gi_wp2
      have hK' : (W.drewN nq).heap[D]? = some (.deferred (some [])) := hK
      have hrow' : (W.drewN nq).ownsRow w.heap.size 23 3 v (frs s m).1.length (rowFr (frs s m).1) := hrow
      refine ⟨by simp, .inl ⟨_, _, rfl, run_takeDeferred hK', ?_⟩⟩
      refine ⟨_, results_tmp3 rfl _ _ _, v, by rw [HR.out.1, HR.out.2]; rfl, ownsRow_putObj hrow' _ hK' rfl, ?_⟩
      exact (below_drewN hB _).trans (belowK_b (w := w) (Nat.le_refl _) _ D _ _ (by omega) hK' rfl rfl)
    · rw [g] at c2
      have HR := Lib.hid (show spR s m = ⟨#[]⟩ ∧ spE s m = 6 by rw [H1.out, H2.out, g, if_neg (by decide), if_neg (by decide)]; exact ⟨rfl, rfl⟩)
      clear H1 H2 g
      generalize (frs s m).2.1 = rest at c1
      gi_wp2
      gi_quiet (fail)
      gi_wp2
      have hK' : (W.drewN nq).heap[D]? = some (.deferred (some [])) := hK
      have hrow' : (W.drewN nq).ownsRow w.heap.size 23 3 v (frs s m).1.length (rowFr (frs s m).1) := hrow
      refine ⟨by simp, .inl ⟨_, _, rfl, run_takeDeferred hK', ?_⟩⟩
      refine ⟨_, results_tmp3 rfl _ _ _, v, by rw [HR.out.1, HR.out.2]; rfl, ownsRow_putObj hrow' _ hK' rfl, ?_⟩
      exact (below_drewN hB _).trans (belowK_b (w := w) (Nat.le_refl _) _ D _ _ (by omega) hK' rfl rfl)
end Go.Proofs.YtjpijggbkiihhaaDoor
