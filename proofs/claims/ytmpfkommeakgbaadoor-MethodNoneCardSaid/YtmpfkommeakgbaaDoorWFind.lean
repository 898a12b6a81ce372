/-
  sig.find answers the first method of the table of which a test holds, and whether there is one; nothing that was there is changed. Condition: the test answers as it is said to, for every method of the table, and changes nothing that was there.
-/
import Derived.Test.YtmpfkommeakgbaaDoorWEach
namespace Go.Proofs.YtmpfkommeakgbaaDoor
open Go.RowKit Go.Maps Go.Shelf
attribute [local go_sem] Oper.semAt_some

theorem bx_grow {A A' : World} {row : Option Nat} {n B : Nat} {t : TypeId} {l : List Value} (h : Bx A B t l) (hg : A.grownBy A' row) (hr : ∀ r, row = some r → n ≤ r ∧ ∃ o : Obj, A.heap[r]? = some o ∧ o.isCells = false) : Bx A' B t l :=
  (hg.block B h.lt (fun e => by obtain ⟨-, o, ho, hc⟩ := hr B e.symm; rw [show A.heap[B]? = _ from h] at ho; cases ho; cases hc)).trans h
theorem bx_putObj {W : World} {l B : Nat} {t : TypeId} {o : Obj} (o' : Obj) (h : W.heap[l]? = some o) (hc : o.isCells = false) {xs : List Value} (hv : Bx W B t xs) : Bx (W.putObj l o') B t xs := by
  have hne : B ≠ l := fun e => by subst e; rw [show W.heap[B]? = _ from hv] at h; cases h; cases hc
  exact (World.putObj_heap_other hne).trans hv
theorem results_sb {fn : Func} {p q : Tmp} {tp tq : TypeId} (h : fn.results = #[.cell p tp, .cell q tq]) (tmps : Array Value) (P : Program) (w : World) :
    (results fn tmps).run P w =
      ((asAddr (tmps.getD p undef)).run P w).andThen fun a w₁ => ((loadVar tp a).run P w₁).andThen fun u w₂ => ((asAddr (tmps.getD q undef)).run P w₂).andThen fun b w₃ => ((loadVar tq b).run P w₃).andThen fun v w₄ => .ok (.tuple #[u, v]) w₄ := by
  simp only [results, h]
  simp [Sem.run_bind, Result.andThen]

def NoneOf (p : Met → Bool) (pre : List MM) : Prop := ∀ x ∈ pre, p x.1 = false
def FoundOf (p : Met → Bool) (W : World) (R : Nat) (pre : List MM) : Prop := ∃ q x, pre = q ++ [x] ∧ NoneOf p q ∧ p x.1 = true ∧ Bx W R 61 (cellsMet x.1)
theorem found_none {p : Met → Bool} (h : NoneOf p mms) : fst p = noMet ∧ mets.any p = false := by
  have hm : ∀ m ∈ mets, p m = false := fun m hm => h ⟨m, hm⟩ (List.mem_attach _ _)
  refine ⟨by rw [fst, List.find?_eq_none.2 (fun m hmm => by rw [hm m hmm]; simp)]; rfl, ?_⟩
  rw [List.any_eq_false]
  exact fun m hmm => by rw [hm m hmm]; simp
theorem found_list {p : Met → Bool} {l a b : List Met} {x : Met} (hl : l = a ++ x :: b) (h : ∀ m ∈ a, p m = false) (hx : p x = true) : (l.find? p).getD noMet = x ∧ l.any p = true := by
  subst hl
  constructor
  · rw [List.find?_append, List.find?_eq_none.2 (fun m hmm => by rw [h m hmm]; simp)]
    simp [hx]
  · rw [List.any_append, List.any_cons, hx]
    simp
theorem found_at {p : Met → Bool} {q : List MM} {x : MM} (hpre : q ++ [x] <+: mms) (h : NoneOf p q) (hx : p x.1 = true) : fst p = x.1 ∧ mets.any p = true := by
  obtain ⟨u, hu⟩ := hpre
  have e := congrArg (List.map Subtype.val) hu
  rw [mms_val, List.map_append, List.map_append, List.append_assoc] at e
  exact found_list e.symm (fun m hmm => by obtain ⟨y, hy, rfl⟩ := List.mem_map.1 hmm; exact h y hy) hx

set_option maxRecDepth 100000 in
set_option maxHeartbeats 2000000 in
theorem find_any (p : Met → Bool) (g B : Nat) (w : World) (he : ∀ args w, (callFunc g args).run Tryd.prog w = .ok (.enter g args) w)
    (hp : ∀ m ∈ mets, ∀ W, Below w.heap.size w W → Calls Tryd.prog g #[encMet m, .pointer (some ⟨B, 0, none⟩)] W fun e W' => e = .returned (.bool (p m)) ∧ Below W.heap.size W W') :
    Calls Tryd.prog 39 #[.func (.func g) #[] #[.pointer (some ⟨B, 0, none⟩)]] w fun e w' => e = .returned (.tuple #[encMet (fst p), .bool (mets.any p)]) ∧ Below w.heap.size w w' := by
  refine (callsIn_wide (n := 4)).1 ?_
  refine callsIn_of_wp_marks Tryd.func39 rfl trivial ?_ rfl
  simp only [Tryd.ntmps39, List.size_toArray, List.length_cons, List.length_nil, Nat.reduceAdd, Nat.reduceSub, Array.replicate_succ, Array.replicate_zero, List.push_toArray, List.append_toArray, List.nil_append, List.cons_append]
  gi_wp2_with fail
  obtain ⟨W0, hW0⟩ : ∃ W0, (((w.alloc (.cells #[.func (.func g) #[] #[.pointer (some ⟨B, 0, none⟩)]] 90)).alloc (.cells #[.int .i64 0, .int .i64 0, .string ⟨#[]⟩, .int .i64 0, .int .i64 0] 61)).alloc (.cells #[.bool false] 4)) = W0 := ⟨_, rfl⟩
  have q0 : Boxed W0 w.heap.size 90 (.func (.func g) #[] #[.pointer (some ⟨B, 0, none⟩)]) := by
    have h := Boxed.new w 90 (.func (.func g) #[] #[.pointer (some ⟨B, 0, none⟩)])
    rw [← hW0]
    exact (h.alloc _).alloc _
  have q1 : Bx W0 (w.heap.size + 1) 61 [.int .i64 0, .int .i64 0, .string ⟨#[]⟩, .int .i64 0, .int .i64 0] := by
    have h := Bx.new (w.alloc (.cells #[.func (.func g) #[] #[.pointer (some ⟨B, 0, none⟩)]] 90)) 61 [.int .i64 0, .int .i64 0, .string ⟨#[]⟩, .int .i64 0, .int .i64 0]
    rw [World.size_alloc] at h
    rw [← hW0]
    exact h.alloc _
  have q2 : Boxed W0 (w.heap.size + 1 + 1) 4 (.bool false) := by
    have h := Boxed.new ((w.alloc (.cells #[.func (.func g) #[] #[.pointer (some ⟨B, 0, none⟩)]] 90)).alloc (.cells #[.int .i64 0, .int .i64 0, .string ⟨#[]⟩, .int .i64 0, .int .i64 0] 61)) 4 (.bool false)
    rw [World.size_alloc, World.size_alloc] at h
    rw [← hW0]
    exact h
  have hb1 : Below w.heap.size w W0 := by rw [← hW0]; exact (((Below.refl _ w).alloc (Nat.le_refl _) _).alloc (by simp) _).alloc (by simp; omega) _
  have hsz : W0.heap.size = w.heap.size + 3 := by rw [← hW0]; simp
  rw [hW0]
  clear hW0
  have hbs := hb1.size
  refine wpIn_rangeFunc_ownH (α := MM) rfl (by decide) (gf := 60) (lb := #[]) rfl trivial (enters_of Tryd.func60 (by kernel_rfl) rfl)
    (encs := fun x => #[encMet x.1]) (Kp := fun _ _ => True) (S := fun ys => ys = mms) (Sp := fun pre => pre <+: mms) (N := 58) (w0 := W0)
    (fun l J Jx W hW hJa _ hY h0' => each_in l (fun _ _ => True) J Jx (fun pre A A' h hb => hJa pre A A' none h (grown_of_below hb none) (fun r e => by cases e)) hY W h0')
    (fun _ _ => trivial) (fun _ _ _ _ _ _ _ _ => trivial) (Below.refl _ _) (fun _ => rfl)
    (fun pre W => NoneOf p pre ∧ Below W0.heap.size W0 W)
    (fun c pre W => c = .ret ∧ FoundOf p W (w.heap.size + 1) pre ∧ Boxed W (w.heap.size + 1 + 1) 4 (.bool true) ∧ Below w.heap.size w W)
    (fun s A A' row hs hg hr => ⟨hs.1, below_grown hs.2 (Nat.le_refl _) (Nat.le_refl _) hg hr⟩)
    (fun c s A A' row hs hg hr => ⟨hs.1, by obtain ⟨q, x, h1, h2, h3, h4⟩ := hs.2.1; exact ⟨q, x, h1, h2, h3, bx_grow h4 hg hr⟩, boxed_grown hs.2.2.1 hg hr, below_grown hs.2.2.2 (Nat.le_refl _) hbs hg hr⟩)
    ⟨(fun _ h => by cases h), Below.refl _ _⟩
    (fun x a' W => ∃ Bq, Bx W Bq 61 (cellsMet x.1) ∧ W0.heap.size ≤ Bq ∧ a' = { tmps := #[.func (.func g) #[] #[.pointer (some ⟨B, 0, none⟩)], .pointer (some ⟨w.heap.size, 0, none⟩), .pointer (some ⟨w.heap.size + 1, 0, none⟩), .pointer (some ⟨w.heap.size + 1 + 1, 0, none⟩), .pointer (some ⟨Bq, 0, none⟩), encMet x.1, undef, undef, undef, undef, undef], defers := [] })
    (fun x a' _ A A' row hs hg hr => by obtain ⟨Bq, h2, h4, h3⟩ := hs; exact ⟨Bq, bx_grow h2 hg hr, h4, h3⟩)
    ?assign ?body ?done ?stop
  case assign =>
    rintro l pre ⟨⟨c1, i1, v, s, r⟩, hm⟩ W K ⟨i1', iB⟩ hK
    unfold encMet cellsMet at *
    dsimp only at *
    gi_wp2
    exact hK _ _ ((KeepsOthers.alloc _ _).from _) trivial ⟨i1', iB.alloc iB.size _⟩ ⟨W.heap.size, Bx.new W _ _, iB.size, rfl⟩
  case body =>
    rintro l pre ⟨m, hm⟩ a' W hl ⟨r, hr'⟩ ⟨i1, iB⟩ ⟨Bq, bX, hBx, rfl⟩ hlt
    have hC := hp m hm W (hb1.trans (iB.mono hbs))
    have p0 := (boxed_below q0 iB q0.lt)
    have c0 := p0.cell
    have HN : Hid (p m = false → NoneOf p (pre ++ [⟨m, hm⟩])) := Lib.hid (fun hq x hx => by
      rcases List.mem_append.1 hx with h | h
      · exact i1 x h
      · rw [List.mem_singleton.1 h]; exact hq)
    have HF : Hid (NoneOf p pre ∧ (⟨m, hm⟩ : MM).1 = m) := Lib.hid ⟨i1, rfl⟩
    dsimp only at bX ⊢
    generalize hxm : (⟨m, hm⟩ : MM) = xm at HN HF ⊢
    clear hxm
    have HP := Lib.hid (show p m = p xm.1 by rw [HF.out.2])
    generalize p m = pm at hC HN HP
    obtain ⟨c1, j1, v, s, k1⟩ := m
    unfold cellsMet at bX
    unfold encMet at hC ⊢
    dsimp only at bX hC ⊢
    have x0 := bX.cell 0 (by simp)
    have x1 := bX.cell 1 (by simp)
    have x2 := bX.cell 2 (by simp)
    have x3 := bX.cell 3 (by simp)
    have x4 := bX.cell 4 (by simp)
    dsimp only [List.getElem_cons_zero, List.getElem_cons_succ] at x0 x1 x2 x3 x4
    clear p0
    gi_wp2_with fail
    refine ⟨trivial, (CallsIn.inRound l (callsIn_wide.2 hC)).mono ?_⟩
    rintro e W1 ⟨rfl, hq⟩
    have iB1 := iB.trans (hq.mono iB.size)
    have bX1 := bX.kept hq
    have hk1 : KeepsFrom W0.heap.size W W1 := KeepsFrom.of_grownBy (grown_of_below hq none) (fun j e => by cases e)
    have p1 := q1.below iB1 q1.lt
    have p2 := boxed_below q2 iB1 q2.lt
    have hb2 := hb1.trans (iB1.mono hbs)
    clear x0 x1 x2 x3 x4 bX hC hq c0 iB hp he
    cases pm
    · have HN2 := Lib.hid (HN.out rfl)
      clear HN HF HP p1 p2 bX1
      gi_wp2
      exact ⟨hk1, trivial, HN2.out, iB1⟩
    · have x0 := bX1.cell 0 (by simp)
      have x1 := bX1.cell 1 (by simp)
      have x2 := bX1.cell 2 (by simp)
      have x3 := bX1.cell 3 (by simp)
      have x4 := bX1.cell 4 (by simp)
      dsimp only [List.getElem_cons_zero, List.getElem_cons_succ] at x0 x1 x2 x3 x4
      obtain ⟨a0, f0, a1, f1, a2, f2, a3, f3, a4, f4, bR⟩ := p1.store5 (.int .i64 c1) (.int .i64 j1) (.string v) (.int .i64 s) (.int .i64 k1)
      have hb3 := below_store5 hb2 (B := w.heap.size + 1) (by omega) (.int .i64 c1) (.int .i64 j1) (.string v) (.int .i64 s) (.int .i64 k1)
      have k2 : Boxed (((((W1.setCell ⟨w.heap.size + 1, 0, none⟩ (.int .i64 c1)).setCell ⟨w.heap.size + 1, 1, none⟩ (.int .i64 j1)).setCell ⟨w.heap.size + 1, 2, none⟩ (.string v)).setCell ⟨w.heap.size + 1, 3, none⟩ (.int .i64 s)).setCell ⟨w.heap.size + 1, 4, none⟩ (.int .i64 k1)) (w.heap.size + 1 + 1) 4 (.bool false) := ((((Bx.other (l := [.bool false]) p2 (by omega) 0 _).other (by omega) 1 _).other (by omega) 2 _).other (by omega) 3 _).other (by omega) 4 _
      have c2 := k2.cell
      have f5 := k2.frozen
      have s2 := k2.set (.bool true)
      have d1 := bR.other (B' := w.heap.size + 1 + 1) (by omega) 0 (.bool true)
      have hb4 := hb3.setCell (p := ⟨w.heap.size + 1 + 1, 0, none⟩) (by simp; omega) (.bool true)
      have hk0 := (((((KeepsOthers.setCell W1 ⟨w.heap.size + 1, 0, none⟩ (.int .i64 c1)).trans (KeepsOthers.setCell _ ⟨w.heap.size + 1, 1, none⟩ (.int .i64 j1))).trans (KeepsOthers.setCell _ ⟨w.heap.size + 1, 2, none⟩ (.string v))).trans (KeepsOthers.setCell _ ⟨w.heap.size + 1, 3, none⟩ (.int .i64 s))).trans (KeepsOthers.setCell _ ⟨w.heap.size + 1, 4, none⟩ (.int .i64 k1))).trans (KeepsOthers.setCell _ ⟨w.heap.size + 1 + 1, 0, none⟩ (.bool true))
      have hk2 := hk1.trans (hk0.from W0.heap.size)
      clear HN p1 p2 bX1 k2 bR hb2 hb3 iB1 hk1 hk0
      gi_wp2
      exact ⟨hk2, rfl, ⟨pre, xm, rfl, HF.out.1, HP.out.symm, by rw [HF.out.2]; exact d1⟩, s2, hb4⟩
  case done =>
    rintro D ys W hD rfl ⟨i1, iB⟩ hK
    have H := Lib.hid (found_none i1)
    have p1 := q1.below iB q1.lt
    have p2 := boxed_below q2 iB q2.lt
    have hb2 := hb1.trans (iB.mono hbs)
    obtain ⟨a0, f0, a1, f1, a2, f2, a3, f3, a4, f4, bR⟩ := p1.store5 (.int .i64 0) (.int .i64 0) (.string ⟨#[]⟩) (.int .i64 0) (.int .i64 0)
    have hb3 := below_store5 hb2 (B := w.heap.size + 1) (by omega) (.int .i64 0) (.int .i64 0) (.string ⟨#[]⟩) (.int .i64 0) (.int .i64 0)
    have k2 : Boxed (((((W.setCell ⟨w.heap.size + 1, 0, none⟩ (.int .i64 0)).setCell ⟨w.heap.size + 1, 1, none⟩ (.int .i64 0)).setCell ⟨w.heap.size + 1, 2, none⟩ (.string ⟨#[]⟩)).setCell ⟨w.heap.size + 1, 3, none⟩ (.int .i64 0)).setCell ⟨w.heap.size + 1, 4, none⟩ (.int .i64 0)) (w.heap.size + 1 + 1) 4 (.bool false) := ((((Bx.other (l := [.bool false]) p2 (by omega) 0 _).other (by omega) 1 _).other (by omega) 2 _).other (by omega) 3 _).other (by omega) 4 _
    have c2 := k2.cell
    have f5 := k2.frozen
    have s2 := k2.set (.bool false)
    have d1 := bR.other (B' := w.heap.size + 1 + 1) (by omega) 0 (.bool false)
    have hb4 := hb3.setCell (p := ⟨w.heap.size + 1 + 1, 0, none⟩) (by simp; omega) (.bool false)
    have hk0 := (((((KeepsOthers.setCell W ⟨w.heap.size + 1, 0, none⟩ (.int .i64 0)).trans (KeepsOthers.setCell _ ⟨w.heap.size + 1, 1, none⟩ (.int .i64 0))).trans (KeepsOthers.setCell _ ⟨w.heap.size + 1, 2, none⟩ (.string ⟨#[]⟩))).trans (KeepsOthers.setCell _ ⟨w.heap.size + 1, 3, none⟩ (.int .i64 0))).trans (KeepsOthers.setCell _ ⟨w.heap.size + 1, 4, none⟩ (.int .i64 0))).trans (KeepsOthers.setCell _ ⟨w.heap.size + 1 + 1, 0, none⟩ (.bool false))
    have hK' := hk0.same D _ hK rfl
    clear p1 p2 k2 bR hb2 hb3 iB i1 he hp hk0
    gi_wp2
    refine ⟨by simp, .inl ⟨_, _, rfl, run_takeDeferred hK', ?_⟩⟩
    have e1 := bx_putObj (.deferred none) hK' rfl d1
    have e2 := boxed_put (.deferred none) s2 hK' rfl
    have y0 := e1.cell 0 (by simp)
    have y1 := e1.cell 1 (by simp)
    have y2 := e1.cell 2 (by simp)
    have y3 := e1.cell 3 (by simp)
    have y4 := e1.cell 4 (by simp)
    dsimp only [List.getElem_cons_zero, List.getElem_cons_succ] at y0 y1 y2 y3 y4
    refine ⟨.tuple #[.agg #[.int .i64 0, .int .i64 0, .string ⟨#[]⟩, .int .i64 0, .int .i64 0], .bool false], ?_, by rw [H.out.1, H.out.2]; rfl, hb4.trans (belowK_b (w := w) (Nat.le_refl _) _ D _ _ (by omega) hK' rfl rfl)⟩
    rw [results_sb rfl]
    simp [asAddr, Result.andThen, go_sem, e2, y0, y1, y2, y3, y4]
  case stop =>
    rintro D c pre W hD hpre ⟨rfl, ⟨q, x, rfl, i1, i2, i3⟩, i4, iB⟩ hK
    have H := Lib.hid (found_at hpre i1 i2)
    clear i1 i2 hpre
    obtain ⟨⟨c1, j1, v, s, k1⟩, hm⟩ := x
    unfold cellsMet at i3
    dsimp only at i3 H
    gi_wp2
    refine ⟨by simp, .inl ⟨_, _, rfl, run_takeDeferred hK, ?_⟩⟩
    have e1 := bx_putObj (.deferred none) hK rfl i3
    have e2 := boxed_put (.deferred none) i4 hK rfl
    have y0 := e1.cell 0 (by simp)
    have y1 := e1.cell 1 (by simp)
    have y2 := e1.cell 2 (by simp)
    have y3 := e1.cell 3 (by simp)
    have y4 := e1.cell 4 (by simp)
    dsimp only [List.getElem_cons_zero, List.getElem_cons_succ] at y0 y1 y2 y3 y4
    refine ⟨.tuple #[.agg #[.int .i64 c1, .int .i64 j1, .string v, .int .i64 s, .int .i64 k1], .bool true], ?_, by rw [H.out.1, H.out.2]; rfl, iB.trans (belowK_b (w := w) (Nat.le_refl _) _ D _ _ (by omega) hK rfl rfl)⟩
    rw [results_sb rfl]
    simp [asAddr, Result.andThen, go_sem, e2, y0, y1, y2, y3, y4]
end Go.Proofs.YtmpfkommeakgbaaDoor
