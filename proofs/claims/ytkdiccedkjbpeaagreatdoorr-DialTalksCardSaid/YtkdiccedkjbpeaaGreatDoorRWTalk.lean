/-
  A row of methods that is one's own, or nil: what it holds stays while other things are made; what was said is appended to nil. No condition.
-/
import Derived.Test.YtkdiccedkjbpeaaGreatDoorRJMem
import Derived.Test.YtkdiccedkjbpeaaGreatDoorRWDial0
namespace Go.Proofs.YtkdiccedkjbpeaaGreatDoorR
open Go.RowKit

/-- a row of methods, in blocks from n on -/
def MR (n : Nat) (w : World) (v : Value) (l : List Me) : Prop :=
  ∃ A c, v = .slice A l.length c ∧ (l = [] → A = none ∧ c = 0) ∧ ∀ j (hj : j < l.length), ∃ b off G K, A = some ⟨b, off, none⟩ ∧ n ≤ b ∧ b < w.heap.size ∧ w.cell? ⟨b, off + j * 3, none⟩ = some (.int .i64 (l[j]).c) ∧ w.cell? ⟨b, off + j * 3 + 1, none⟩ = some (.int .i64 (l[j]).i) ∧ w.cell? ⟨b, off + j * 3 + 2, none⟩ = some (.slice G (l[j]).l.length K) ∧ RowAt n w G (l[j]).l
theorem MR.nil (n : Nat) (w : World) : MR n w (.slice none 0 0) [] := ⟨none, 0, rfl, fun _ => ⟨rfl, rfl⟩, fun _ hj => absurd hj (Nat.not_lt_zero _)⟩
theorem MR.eq_nil {n : Nat} {w : World} {v : Value} (h : MR n w v []) : v = .slice none 0 0 := by
  obtain ⟨A, c, rfl, h0, -⟩ := h
  obtain ⟨rfl, rfl⟩ := h0 rfl
  rfl
theorem MR.map {n : Nat} {w w' : World} {v : Value} {l : List Me} (h : MR n w v l) (hs : w.heap.size ≤ w'.heap.size) (hw : ∀ b, n ≤ b → b < w.heap.size → w'.heap[b]? = w.heap[b]?) : MR n w' v l := by
  obtain ⟨A, c, h0, h1, h2⟩ := h
  refine ⟨A, c, h0, h1, fun j hj => ?_⟩
  obtain ⟨b, off, G, K, g0, g1, g2, g3, g4, g5, g6⟩ := h2 j hj
  have e := hw b g1 g2
  have e' : ∀ i, w'.cell? ⟨b, i, none⟩ = w.cell? ⟨b, i, none⟩ := fun i => by simp only [World.cell?, e]
  exact ⟨b, off, G, K, g0, g1, by omega, (e' _).trans g3, (e' _).trans g4, (e' _).trans g5, g6.map (Nat.le_refl _) (fun b t cs hb hx => (hw b hb hx.lt).trans hx)⟩
theorem MR.kept {n : Nat} {w w' : World} {v : Value} {l : List Me} (h : MR n w v l) (hb : Below w.heap.size w w') : MR n w' v l := h.map hb.size (fun b _ hl => hb.block b hl)
theorem MR.set {n : Nat} {w : World} {v : Value} {l : List Me} (h : MR n w v l) {B : Nat} (hB : B < n) (i : Nat) (x : Value) : MR n (w.setCell ⟨B, i, none⟩ x) v l :=
  h.map (by show _ ≤ (w.heap.modify B _).size; rw [Array.size_modify]; exact Nat.le_refl _) (fun b hb _ => by
    show (w.heap.modify B _)[b]? = _
    rw [Array.getElem?_modify, if_neg (by omega)])
theorem MR.store7 {n : Nat} {w : World} {v : Value} {l : List Me} (h : MR n w v l) {B : Nat} (hB : B < n) (b0 b1 b2 b3 b4 b5 b6 : Value) : MR n (((((((w.setCell ⟨B, 0, none⟩ b0).setCell ⟨B, 1, none⟩ b1).setCell ⟨B, 2, none⟩ b2).setCell ⟨B, 3, none⟩ b3).setCell ⟨B, 4, none⟩ b4).setCell ⟨B, 5, none⟩ b5).setCell ⟨B, 6, none⟩ b6) v l :=
  ((((((h.set hB 0 b0).set hB 1 b1).set hB 2 b2).set hB 3 b3).set hB 4 b4).set hB 5 b5).set hB 6 b6
theorem mr_row1 {n base : Nat} {w : World} {v : Value} {m : Me} {G : Option Addr} {K : Nat} (hn : n ≤ base) (h : w.ownsRow base 39 3 v 1 [.int .i64 m.c, .int .i64 m.i, .slice G m.l.length K]) (hG : RowAt n w G m.l) : MR n w v [m] := by
  obtain ⟨-, ⟨rfl, h0⟩ | ⟨g, cap, cur, rfl, hg, hb, -⟩⟩ := id h
  · cases h0
  · refine ⟨some ⟨g, 0, none⟩, cap, rfl, (fun e => by cases e), fun j hj => ?_⟩
    obtain rfl : j = 0 := Nat.lt_one_iff.1 hj
    exact ⟨g, 0, G, K, rfl, by omega, (Array.getElem?_eq_some_iff.1 hb).1, (h.cellAt 0 (by decide)).trans rfl, (h.cellAt 1 (by decide)).trans rfl, (h.cellAt 2 (by decide)).trans rfl, hG⟩
theorem mr_row2 {n base : Nat} {w : World} {v : Value} {m m' : Me} {G G' : Option Addr} {K K' : Nat} (hn : n ≤ base) (h : w.ownsRow base 39 3 v 2 [.int .i64 m.c, .int .i64 m.i, .slice G m.l.length K, .int .i64 m'.c, .int .i64 m'.i, .slice G' m'.l.length K']) (hG : RowAt n w G m.l) (hG' : RowAt n w G' m'.l) : MR n w v [m, m'] := by
  obtain ⟨-, ⟨rfl, h0⟩ | ⟨g, cap, cur, rfl, hg, hb, -⟩⟩ := id h
  · cases h0
  · refine ⟨some ⟨g, 0, none⟩, cap, rfl, (fun e => by cases e), fun j hj => ?_⟩
    have hj2 : j < 2 := hj
    by_cases j0 : j = 0
    · subst j0
      exact ⟨g, 0, G, K, rfl, by omega, (Array.getElem?_eq_some_iff.1 hb).1, (h.cellAt 0 (by decide)).trans rfl, (h.cellAt 1 (by decide)).trans rfl, (h.cellAt 2 (by decide)).trans rfl, hG⟩
    · obtain rfl : j = 1 := by omega
      exact ⟨g, 0, G', K', rfl, by omega, (Array.getElem?_eq_some_iff.1 hb).1, (h.cellAt 3 (by decide)).trans rfl, (h.cellAt 4 (by decide)).trans rfl, (h.cellAt 5 (by decide)).trans rfl, hG'⟩
theorem mr_said {n : Nat} {w : World} {A : Option Addr} {k c : Nat} {m : Me} (h : SaidAt n w A k (some m)) : MR n w (.slice A k c) [m] := by
  obtain ⟨rfl, b, G, K, rfl, hb, hx, hr⟩ := h
  refine ⟨some ⟨b, 0, none⟩, c, rfl, (fun e => by cases e), fun j hj => ?_⟩
  obtain rfl : j = 0 := Nat.lt_one_iff.1 hj
  exact ⟨b, 0, G, K, rfl, hb, hx.lt, hx.cell 0 (by simp), hx.cell 1 (by simp), hx.cell 2 (by simp), hr⟩
theorem infoMeth : (Tryz.prog.info? 39).map (fun i => (i.zero, i.size, i.bytes)) = some (some (.agg #[.int .i64 0, .int .i64 0, .slice none 0 0]), 3, 40) := by kernel_rfl
theorem info_partsM {P : Program} {t : TypeId} {z : Option Value} {a b : Nat} (h : (P.info? t).map (fun i => (i.zero, i.size, i.bytes)) = some (z, a, b)) : ∃ i, P.info? t = some i ∧ i.zero = z ∧ i.size = a ∧ i.bytes = b := by
  obtain ⟨i, hi, he⟩ := Option.map_eq_some_iff.1 h
  simp only [Prod.mk.injEq] at he
  exact ⟨i, hi, he.1, he.2.1, he.2.2⟩
theorem run_append_nils {P : Program} {w : World} (t ty e : TypeId) (i : TypeInfo) (ht : P.underlying t = some (.slice e)) (hi : P.info? e = some i) (c : Nat) :
    (Builtin.append_ #[t, t] ty #[.slice none 0 0, .slice none 0 c]).run P w = .ok (.slice none 0 0) w := by
  simp [Builtin.append_, run_underlying ht, sizeOf, typeInfo, hi, Builtin.lenOf, Builtin.firstCells]
theorem wpList_append_nils {P : Program} {w : World} {ops : Array Oper} {rest : List Oper} {o : Oper} {a : Act} {Q : Exit → Act → World → Prop} (hgd : o.guard = none) (s x : Operand) (t : TypeId)
    (ho : o.op = .call { callee := .builtin .append, args := #[s, x], argTypes := #[t, t] })
    (e : TypeId) (i : TypeInfo) (ht : P.underlying t = some (.slice e)) (hi : P.info? e = some i) (c : Nat) (hs : a.eval s = .slice none 0 0) (hx : a.eval x = .slice none 0 c)
    (h : wpList P ops Q rest (a.put o.dst (.slice none 0 0)) w) : wpList P ops Q (o :: rest) a w := by
  refine wpList_plain hgd fun K hK => ?_
  have hrun := run_append_nils (P := P) (w := w) t o.type e i ht hi c
  unfold Oper.wp
  simp [execOp, ho, resolve, invoke, builtin, hs, hx, hrun, Result.andThen]
  exact hK _ _ h
theorem wpList_append_said {w : World} {ops : Array Oper} {rest : List Oper} {o : Oper} {a : Act} {Q : Exit → Act → World → Prop} (hgd : o.guard = none) (s x : Operand)
    (ho : o.op = .call { callee := .builtin .append, args := #[s, x], argTypes := #[33, 33] })
    (n : Nat) (hn : n ≤ w.heap.size) (hs : a.eval s = .slice none 0 0) (A : Option Addr) (k c : Nat) (l : List Me) (hx : a.eval x = .slice A k c) (hS : DSaid n w A k l)
    (h : ∀ v' w', MR n w' v' l → Below w.heap.size w w' → wpList Tryz.prog ops Q rest (a.put o.dst v') w') : wpList Tryz.prog ops Q (o :: rest) a w := by
  obtain ⟨i0, hi, hz0, hz1, hz2⟩ := info_partsM infoMeth
  have hown : w.ownsRow w.heap.size 39 3 (.slice none 0 0) 0 [] := World.ownsRow_nil _ _ _ _
  match l, hS with
  | [], hS =>
    obtain ⟨rfl, rfl⟩ := (show A = none ∧ k = 0 from hS)
    exact wpList_append_nils hgd s x _ ho _ i0 Tryz.underlying33 hi c hs hx (h _ _ (MR.nil _ _) (Below.refl _ _))
  | [m], hS =>
    obtain ⟨rfl, b, G, K, rfl, -, hb, hr⟩ := (show SaidAt n w A k (some m) from hS)
    refine wpList_append_row hgd s x _ ho w.heap.size _ i0 _ 3 40 Tryz.underlying33 hi hz0 hz1 hz2 rfl (by decide) _ 0 [] hs hown (some ⟨b, 0, none⟩) 1 c [.int .i64 m.c, .int .i64 m.i, .slice G m.l.length K] hx rfl
      (fun _ => ⟨b, 0, rfl, hb.lt, fun i hi => by rw [Nat.zero_add]; exact hb.cell i hi⟩) (fun e => by cases e)
      (fun u hu => by simp only [List.mem_cons, List.not_mem_nil, or_false] at hu; rcases hu with rfl | rfl | rfl <;> rfl) (by decide) (by decide) (Nat.le_refl _) (fun v' w' hq hg => ?_)
    have hB : Below w.heap.size w w' := (Below.refl w.heap.size w).grown hg (Nat.le_refl _) (fun k e => by cases e)
    exact h v' w' (mr_row1 hn (by simpa using hq) (hr.map (Nat.le_refl _) (fun _ _ _ _ hx => hx.kept hB))) hB
  | [m, m'], hS =>
    obtain ⟨rfl, b, G, K, G', K', rfl, -, hb, hr, hr'⟩ := (show k = 2 ∧ ∃ b A1 c1 A2 c2, A = some ⟨b, 0, none⟩ ∧ n ≤ b ∧ Bx w b 39 [.int .i64 m.c, .int .i64 m.i, .slice A1 m.l.length c1, .int .i64 m'.c, .int .i64 m'.i, .slice A2 m'.l.length c2] ∧ RowAt n w A1 m.l ∧ RowAt n w A2 m'.l from hS)
    refine wpList_append_row hgd s x _ ho w.heap.size _ i0 _ 3 40 Tryz.underlying33 hi hz0 hz1 hz2 rfl (by decide) _ 0 [] hs hown (some ⟨b, 0, none⟩) 2 c [.int .i64 m.c, .int .i64 m.i, .slice G m.l.length K, .int .i64 m'.c, .int .i64 m'.i, .slice G' m'.l.length K'] hx rfl
      (fun _ => ⟨b, 0, rfl, hb.lt, fun i hi => by rw [Nat.zero_add]; exact hb.cell i hi⟩) (fun e => by cases e)
      (fun u hu => by simp only [List.mem_cons, List.not_mem_nil, or_false] at hu; rcases hu with rfl | rfl | rfl | rfl | rfl | rfl <;> rfl) (by decide) (by decide) (Nat.le_refl _) (fun v' w' hq hg => ?_)
    have hB : Below w.heap.size w w' := (Below.refl w.heap.size w).grown hg (Nat.le_refl _) (fun k e => by cases e)
    exact h v' w' (mr_row2 hn (by simpa using hq) (hr.map (Nat.le_refl _) (fun _ _ _ _ hx => hx.kept hB)) (hr'.map (Nat.le_refl _) (fun _ _ _ _ hx => hx.kept hB))) hB
  | _ :: _ :: _ :: _, hS => exact hS.elim
end Go.Proofs.YtkdiccedkjbpeaaGreatDoorR
