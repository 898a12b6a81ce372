/-
  sig.All answers class and id of all methods of the table, in a row of its own; nothing that was there is changed. No condition.
-/
import Derived.Test.YtapjpkcollkikaaWFind
import Derived.Test.YtapjpkcollkikaaMRow
namespace Go.Proofs.Ytapjpkcollkikaa
open Go.RowKit Go.Maps Go.Shelf
attribute [local go_sem] Oper.semAt_some

theorem infoAt : (Try.prog.info? 27).map (fun i => (i.zero, i.size, i.bytes)) = some (some (.agg #[.int .i64 0, .int .i64 0]), 2, 16) := by kernel_rfl
theorem info_parts2 {P : Program} {t : TypeId} {z : Option Value} {a b : Nat} (h : (P.info? t).map (fun i => (i.zero, i.size, i.bytes)) = some (z, a, b)) : ∃ i, P.info? t = some i ∧ i.zero = z ∧ i.size = a ∧ i.bytes = b := by
  obtain ⟨i, hi, he⟩ := Option.map_eq_some_iff.1 h
  simp only [Prod.mk.injEq] at he
  exact ⟨i, hi, he.1, he.2.1, he.2.2⟩
/-- classes and ids as the row's cells -/
def rowAt (l : List MM) : List Value := l.flatMap fun x => [.int .i64 x.1.c, .int .i64 x.1.i]
theorem rowAt_snoc (l : List MM) (x : MM) : rowAt (l ++ [x]) = rowAt l ++ [.int .i64 x.1.c, .int .i64 x.1.i] := by simp [rowAt]
theorem cell_two_new (w : World) (x y : Value) (t : TypeId) : ∀ j u, [x, y][j]? = some u → (w.alloc (.cells #[x, y] t)).cell? ((⟨w.heap.size, 0, none⟩ : Addr).add j) = some u := by
  intro j u hj
  match j, hj with
  | 0, hj => simp at hj; subst hj; simp [Addr.add]
  | 1, hj => simp at hj; subst hj; simp [Addr.add]

/-- an append to a row of one's own, as a region that draws its order comes to it -/
theorem drawn_append {F : Fence} {n : Nat} {P : Program} (w : World) {ops : Array Oper} {o : Oper} {a : Act} {Q : Exit → Act → World → Prop} {K : Act → World → Prop} {X : Prop}
    (hg : o.guard = none) (s x : Operand) (t : TypeId) (hop : o.op = Op.call { callee := Callee.builtin Builtin.append, args := #[s, x], argTypes := #[t, t] })
    (base : Nat) (e : TypeId) (i : TypeInfo) (z : Value) (size bytes : Nat) (h1 : P.underlying t = some (.slice e)) (h2 : P.info? e = some i) (h3 : i.zero = some z) (h4 : i.size = size) (h5 : i.bytes = bytes) (h6 : z.cells.size = size) (h7 : 0 < size)
    (v : Value) (k : Nat) (xs : List Value) (hs : a.eval s = v) (hown : w.ownsRow base e size v k xs) (ad : Addr) (m c : Nat) (news : List Value) (hx : a.eval x = .slice (some ad) m c) (hn : news.length = m * size)
    (hc : ∀ j u, news[j]? = some u → w.cell? (ad.add j) = some u) (h1c : ∀ u ∈ news, u.oneCell' = true) (b1 : k + m ≤ maxLen) (b2 : (k + m) * bytes ≤ 140737488355328) (b3 : base ≤ w.heap.size)
    (hK : ∀ v' w', w'.ownsRow base e size v' (k + m) (xs ++ news) → w.grownBy w' v.ownBlock → K (a.put o.dst v') w') :
    if Region.wanted o (yielded ops a.tmps) = true then o.wpIn F n P a w K Q else X := by
  rw [if_pos (by simp [Region.wanted, hg])]
  obtain ⟨v', w', hrun, r1, r2, -⟩ := run_append_own (P := P) w base t o.type e i z size bytes h1 h2 h3 h4 h5 h6 h7 v k xs hown ad m c news hn hc h1c b1 b2 b3
  unfold Oper.wpIn
  refine ⟨by simp [Oper.about, hop, resolve, Target.leads, Sem.run_pure], ?_⟩
  rw [Oper.semAt_plain F _ _ (by rw [hop]; intro c hc'; cases hc')]
  simp [execOp, hop, resolve, invoke, builtin, hs, hx, hrun, Result.andThen]
  exact hK v' w' r1 r2

set_option maxRecDepth 100000 in
set_option maxHeartbeats 2000000 in
theorem sall_any (w : World) :
    Calls Try.prog 7 #[] w fun e w' => ∃ v, e = .returned v ∧ w'.ownsRow w.heap.size 27 2 v 58 (rowAt mms) ∧ Below w.heap.size w w' := by
  obtain ⟨i0, hi, hz0, hz1, hz2⟩ := info_parts2 infoAt
  refine (callsIn_wide (n := 4)).1 ?_
  refine callsIn_of_wp_marks Try.func7 rfl trivial ?_ rfl
  simp only [Try.ntmps7, List.size_toArray, List.length_nil, Nat.reduceSub, Array.replicate_succ, Array.replicate_zero, List.push_toArray, List.append_toArray, List.nil_append, List.cons_append]
  gi_wp2_with fail
  obtain ⟨W0, hW0⟩ : ∃ W0, w.alloc (.cells #[.slice none 0 0] 23) = W0 := ⟨_, rfl⟩
  have qL : Boxed W0 w.heap.size 23 (.slice none 0 0) := by rw [← hW0]; exact Boxed.new w _ _
  have hB0 : Below w.heap.size w W0 := by rw [← hW0]; exact (Below.refl _ w).alloc (Nat.le_refl _) _
  have hsz : W0.heap.size = w.heap.size + 1 := by rw [← hW0]; simp
  rw [hW0]
  clear hW0
  refine wpIn_rangeFunc_ownH (α := MM) rfl (by decide) (gf := 13) (lb := #[]) rfl trivial (enters_of Try.func13 (by kernel_rfl) rfl)
    (encs := fun x => #[encMet x.1]) (Kp := fun _ _ => True) (S := fun ys => ys = mms) (Sp := fun pre => pre <+: mms) (N := 58) (w0 := W0)
    (fun l J Jx W hW hJa _ hY h0' => each_in l (fun _ _ => True) J Jx (fun pre A A' h hb => hJa pre A A' none h (grown_of_below hb none) (fun r e => by cases e)) hY W h0')
    (fun _ _ => trivial) (fun _ _ _ _ _ _ _ _ => trivial) (Below.refl _ _) (fun _ => rfl)
    (fun pre W => (∃ v, Boxed W w.heap.size 23 v ∧ W.ownsRow w.heap.size 27 2 v pre.length (rowAt pre) ∧ True) ∧ Below w.heap.size w W)
    (fun _ _ _ => False)
    (fun pre A A' row hs hg hr => ⟨(Own.from (holdsRow_own w.heap.size w.heap.size 23 27 2 (fun pre : List MM => pre.length) (fun pre => rowAt pre) (fun _ _ => True)) _) pre A A' row hs.1 hg hr, below_grown hs.2 (Nat.le_refl _) (by omega) hg hr⟩)
    (fun c s A A' row hs hg hr => hs)
    ⟨⟨_, qL, World.ownsRow_nil _ _ _ _, trivial⟩, hB0⟩
    (fun x a' W => ∃ Bq, Bx W Bq 37 (cellsMet x.1) ∧ w.heap.size < Bq ∧ a' = { tmps := #[.slice none 0 0, .pointer (some ⟨w.heap.size, 0, none⟩), .pointer (some ⟨Bq, 0, none⟩), encMet x.1, undef, undef, undef, undef, undef, undef], defers := [] })
    (fun x a' _ A A' row hs hg hr => by obtain ⟨Bq, h2, h4, h3⟩ := hs; exact ⟨Bq, bx_grow h2 hg hr, h4, h3⟩)
    ?assign ?body ?done ?stop
  case assign =>
    rintro l pre ⟨⟨c1, i1, v1, s, r⟩, hm⟩ W K ⟨⟨v, hv, hrow, -⟩, hb⟩ hK
    unfold encMet cellsMet at *
    dsimp only at *
    gi_wp2
    exact hK _ _ ((KeepsOthers.alloc _ _).from _) trivial ⟨⟨v, hv.alloc _, hrow.alloc _, trivial⟩, hb.alloc hb.size _⟩ ⟨W.heap.size, Bx.new W _ _, hv.lt, rfl⟩
  case body =>
    rintro l pre ⟨m, hm⟩ a' W hl ⟨r, hr'⟩ ⟨⟨u, hu, hrow, -⟩, hB⟩ ⟨Bq, bX, hBx, rfl⟩ hlt
    have hA := at_any m
    have HR := Lib.hid (rowAt_snoc pre ⟨m, hm⟩)
    have HP := Lib.hid (show (pre ++ [(⟨m, hm⟩ : MM)]).length = pre.length + 1 by simp)
    dsimp only at bX ⊢
    obtain ⟨c1, j1, v, s, k1⟩ := m
    unfold cellsMet at bX
    unfold encMet at hA ⊢
    dsimp only at bX hA HR ⊢
    have x0 := bX.cell 0 (by simp)
    have x1 := bX.cell 1 (by simp)
    have x2 := bX.cell 2 (by simp)
    have x3 := bX.cell 3 (by simp)
    have x4 := bX.cell 4 (by simp)
    dsimp only [List.getElem_cons_zero, List.getElem_cons_succ] at x0 x1 x2 x3 x4
    have c0 := hu.cell
    have hpl : pre.length + 1 ≤ 58 := by omega
    have hmo : Try.prog.follows .mixedOrders = true := by kernel_rfl
    have keepL : ∀ w2, Below W.drew.heap.size W.drew w2 → Boxed w2 w.heap.size 23 u ∧ w2.ownsRow w.heap.size 27 2 u pre.length (rowAt pre) ∧ Below w.heap.size w w2 ∧ KeepsFrom W0.heap.size W w2 ∧ w2.cell? ⟨w.heap.size, 0, none⟩ = some u ∧ (∀ o, (w2.alloc o).cell? ⟨w.heap.size, 0, none⟩ = some u) ∧ (∀ o, (w2.alloc o).ownsRow w.heap.size 27 2 u pre.length (rowAt pre)) := fun w2 h => by
      have hq' : Below W.heap.size W w2 := ⟨h.os, h.tape, h.output, h.size, h.block⟩
      have h1 := boxed_below hu hq' hu.lt
      exact ⟨h1, rowKept hrow hq', hB.trans (hq'.mono hB.size), KeepsFrom.of_grownBy (grown_of_below hq' none) (fun j e => by cases e), h1.cell, fun o => (h1.alloc o).cell, fun o => (rowKept hrow hq').alloc o⟩
    have ml : pre.length + 1 ≤ maxLen := by unfold maxLen; omega
    gi_wp2_with fail
    refine wpIn_region_any hmo ?_
    change wpAnyIn _ _ _ _ _ _ 6 #[false, false, false, false, false, false] _ (World.drew _)
    refine wpAnyIn_ready (rs := [0, 1]) (by kernel_rfl) (by simp) (AllReadyIn.cons rfl (fun K hK => ?_) (AllReadyIn.cons rfl (fun K hK => ?_) AllReadyIn.nil))
    · go_simp
      refine hK _ _ ?_
      clear hK K
      refine wpAnyIn_ready (rs := [1]) (by kernel_rfl) (by simp) (AllReadyIn.cons rfl (fun K hK => ?_) AllReadyIn.nil)
      go_simp
      refine hK _ _ ?_
      clear hK K
      refine wpAnyIn_ready (rs := [2]) (by kernel_rfl) (by simp) (AllReadyIn.cons rfl (fun K hK => ?_) AllReadyIn.nil)
      go_simp
      refine ⟨trivial, (CallsIn.inRound l (callsIn_wide.2 (hA _))).mono ?_⟩
      rintro e w2 ⟨rfl, hq⟩
      obtain ⟨hu2, hrow2, hB2, hk2, c2, c3, hrow3⟩ := keepL w2 hq
      refine hK _ _ ?_
      clear hK K
      refine wpAnyIn_ready (rs := [3]) (by kernel_rfl) (by simp) (AllReadyIn.cons rfl (fun K hK => ?_) AllReadyIn.nil)
      go_simp
      refine hK _ _ ?_
      clear hK K
      refine wpAnyIn_ready (rs := [4]) (by kernel_rfl) (by simp) (AllReadyIn.cons rfl (fun K hK => ?_) AllReadyIn.nil)
      refine drawn_append _ rfl _ _ 23 rfl w.heap.size 27 i0 (.agg #[.int .i64 0, .int .i64 0]) 2 16 Try.underlying23 hi hz0 hz1 hz2 rfl (by decide) _ _ _ rfl (hrow3 _) ⟨w2.heap.size, 0, none⟩ 1 1 [.int .i64 c1, .int .i64 j1] rfl rfl (cell_two_new _ _ _ _) (by simp [Value.oneCell']) ml (by omega) (by have := hB2.size; simp; omega) ?_
      intro v' w3 hown' hgrow
      obtain ⟨g', cap', rfl⟩ := ownsRow_succ hown'
      obtain ⟨hv1, hv2, hr2, hk3, hb3⟩ := hu2.appended (by decide) hrow2 hB2.size (by omega) hown' hgrow
      have d1 := hv1.cell
      have d2 := hv1.frozen
      refine hK _ _ ?_
      clear hK K
      refine wpAnyIn_ready (rs := [5]) (by kernel_rfl) (by simp) (AllReadyIn.cons rfl (fun K hK => ?_) AllReadyIn.nil)
      go_simp
      refine hK _ _ ?_
      clear hK K
      refine wpAnyIn_done (by kernel_rfl) ?_ _
      exact ⟨hk2.trans (hk3.from _), trivial, ⟨_, hv2, by rw [HR.out, HP.out]; exact hr2, trivial⟩, hB2.trans hb3⟩
    · go_simp
      refine hK _ _ ?_
      clear hK K
      refine wpAnyIn_ready (rs := [0, 2]) (by kernel_rfl) (by simp) (AllReadyIn.cons rfl (fun K hK => ?_) (AllReadyIn.cons rfl (fun K hK => ?_) AllReadyIn.nil))
      · go_simp
        refine hK _ _ ?_
        clear hK K
        refine wpAnyIn_ready (rs := [2]) (by kernel_rfl) (by simp) (AllReadyIn.cons rfl (fun K hK => ?_) AllReadyIn.nil)
        go_simp
        refine ⟨trivial, (CallsIn.inRound l (callsIn_wide.2 (hA _))).mono ?_⟩
        rintro e w2 ⟨rfl, hq⟩
        obtain ⟨hu2, hrow2, hB2, hk2, c2, c3, hrow3⟩ := keepL w2 hq
        refine hK _ _ ?_
        clear hK K
        refine wpAnyIn_ready (rs := [3]) (by kernel_rfl) (by simp) (AllReadyIn.cons rfl (fun K hK => ?_) AllReadyIn.nil)
        go_simp
        refine hK _ _ ?_
        clear hK K
        refine wpAnyIn_ready (rs := [4]) (by kernel_rfl) (by simp) (AllReadyIn.cons rfl (fun K hK => ?_) AllReadyIn.nil)
        refine drawn_append _ rfl _ _ 23 rfl w.heap.size 27 i0 (.agg #[.int .i64 0, .int .i64 0]) 2 16 Try.underlying23 hi hz0 hz1 hz2 rfl (by decide) _ _ _ rfl (hrow3 _) ⟨w2.heap.size, 0, none⟩ 1 1 [.int .i64 c1, .int .i64 j1] rfl rfl (cell_two_new _ _ _ _) (by simp [Value.oneCell']) ml (by omega) (by have := hB2.size; simp; omega) ?_
        intro v' w3 hown' hgrow
        obtain ⟨g', cap', rfl⟩ := ownsRow_succ hown'
        obtain ⟨hv1, hv2, hr2, hk3, hb3⟩ := hu2.appended (by decide) hrow2 hB2.size (by omega) hown' hgrow
        have d1 := hv1.cell
        have d2 := hv1.frozen
        refine hK _ _ ?_
        clear hK K
        refine wpAnyIn_ready (rs := [5]) (by kernel_rfl) (by simp) (AllReadyIn.cons rfl (fun K hK => ?_) AllReadyIn.nil)
        go_simp
        refine hK _ _ ?_
        clear hK K
        refine wpAnyIn_done (by kernel_rfl) ?_ _
        exact ⟨hk2.trans (hk3.from _), trivial, ⟨_, hv2, by rw [HR.out, HP.out]; exact hr2, trivial⟩, hB2.trans hb3⟩
      · go_simp
        refine ⟨trivial, (CallsIn.inRound l (callsIn_wide.2 (hA _))).mono ?_⟩
        rintro e w2 ⟨rfl, hq⟩
        obtain ⟨hu2, hrow2, hB2, hk2, c2, c3, hrow3⟩ := keepL w2 hq
        refine hK _ _ ?_
        clear hK K
        refine wpAnyIn_ready (rs := [0, 3]) (by kernel_rfl) (by simp) (AllReadyIn.cons rfl (fun K hK => ?_) (AllReadyIn.cons rfl (fun K hK => ?_) AllReadyIn.nil))
        · go_simp
          refine hK _ _ ?_
          clear hK K
          refine wpAnyIn_ready (rs := [3]) (by kernel_rfl) (by simp) (AllReadyIn.cons rfl (fun K hK => ?_) AllReadyIn.nil)
          go_simp
          refine hK _ _ ?_
          clear hK K
          refine wpAnyIn_ready (rs := [4]) (by kernel_rfl) (by simp) (AllReadyIn.cons rfl (fun K hK => ?_) AllReadyIn.nil)
          refine drawn_append _ rfl _ _ 23 rfl w.heap.size 27 i0 (.agg #[.int .i64 0, .int .i64 0]) 2 16 Try.underlying23 hi hz0 hz1 hz2 rfl (by decide) _ _ _ rfl (hrow3 _) ⟨w2.heap.size, 0, none⟩ 1 1 [.int .i64 c1, .int .i64 j1] rfl rfl (cell_two_new _ _ _ _) (by simp [Value.oneCell']) ml (by omega) (by have := hB2.size; simp; omega) ?_
          intro v' w3 hown' hgrow
          obtain ⟨g', cap', rfl⟩ := ownsRow_succ hown'
          obtain ⟨hv1, hv2, hr2, hk3, hb3⟩ := hu2.appended (by decide) hrow2 hB2.size (by omega) hown' hgrow
          have d1 := hv1.cell
          have d2 := hv1.frozen
          refine hK _ _ ?_
          clear hK K
          refine wpAnyIn_ready (rs := [5]) (by kernel_rfl) (by simp) (AllReadyIn.cons rfl (fun K hK => ?_) AllReadyIn.nil)
          go_simp
          refine hK _ _ ?_
          clear hK K
          refine wpAnyIn_done (by kernel_rfl) ?_ _
          exact ⟨hk2.trans (hk3.from _), trivial, ⟨_, hv2, by rw [HR.out, HP.out]; exact hr2, trivial⟩, hB2.trans hb3⟩
        · go_simp
          refine hK _ _ ?_
          clear hK K
          refine wpAnyIn_ready (rs := [0]) (by kernel_rfl) (by simp) (AllReadyIn.cons rfl (fun K hK => ?_) AllReadyIn.nil)
          go_simp
          refine hK _ _ ?_
          clear hK K
          refine wpAnyIn_ready (rs := [4]) (by kernel_rfl) (by simp) (AllReadyIn.cons rfl (fun K hK => ?_) AllReadyIn.nil)
          refine drawn_append _ rfl _ _ 23 rfl w.heap.size 27 i0 (.agg #[.int .i64 0, .int .i64 0]) 2 16 Try.underlying23 hi hz0 hz1 hz2 rfl (by decide) _ _ _ rfl (hrow3 _) ⟨w2.heap.size, 0, none⟩ 1 1 [.int .i64 c1, .int .i64 j1] rfl rfl (cell_two_new _ _ _ _) (by simp [Value.oneCell']) ml (by omega) (by have := hB2.size; simp; omega) ?_
          intro v' w3 hown' hgrow
          obtain ⟨g', cap', rfl⟩ := ownsRow_succ hown'
          obtain ⟨hv1, hv2, hr2, hk3, hb3⟩ := hu2.appended (by decide) hrow2 hB2.size (by omega) hown' hgrow
          have d1 := hv1.cell
          have d2 := hv1.frozen
          refine hK _ _ ?_
          clear hK K
          refine wpAnyIn_ready (rs := [5]) (by kernel_rfl) (by simp) (AllReadyIn.cons rfl (fun K hK => ?_) AllReadyIn.nil)
          go_simp
          refine hK _ _ ?_
          clear hK K
          refine wpAnyIn_done (by kernel_rfl) ?_ _
          exact ⟨hk2.trans (hk3.from _), trivial, ⟨_, hv2, by rw [HR.out, HP.out]; exact hr2, trivial⟩, hB2.trans hb3⟩
  case done =>
    rintro D ys W hD rfl ⟨⟨v, hv, hrow, -⟩, hB⟩ hK
    have hc := hv.cell
    rw [mms_length] at hrow
    clear qL hB0 hv
    gi_wp2
    refine ⟨by simp, .inl ⟨_, _, rfl, run_takeDeferred hK, ?_⟩⟩
    refine ⟨_, results_tmp rfl _ _ _, v, rfl, ownsRow_putObj hrow _ hK rfl, ?_⟩
    exact hB.trans (belowK_b (w := w) (Nat.le_refl _) _ D _ _ (by omega) hK rfl rfl)
  case stop =>
    rintro D c pre W hD hpre h hK
    exact h.elim
end Go.Proofs.Ytapjpkcollkikaa
