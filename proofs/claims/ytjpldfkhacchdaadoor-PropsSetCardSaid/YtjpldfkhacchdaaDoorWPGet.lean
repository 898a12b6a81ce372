/-
  props.Get answers as the plain function says; nothing that was there is changed. Conditions: as for props.Bytes.
-/
import Derived.Test.YtjpldfkhacchdaaDoorJPSame
namespace Go.Proofs.YtjpldfkhacchdaaDoor
open Go.RowKit Go.Shelf
attribute [local go_sem] Oper.semAt_some

/-- the property that is asked for, among those that a head has -/
def whF (h : He) (i : Int) : Option (Fin 14 × Nat) := (wh h.f).zipIdx.find? (fun x => (x.1.1 : Int) == i)
def gotV (h : He) (i : Int) : Option MV := if hE h = 0 then (whF h i).map (fun x => h.l.getD x.2 noV) else none
def gV (h : He) (i : Int) : MV := (gotV h i).getD noV
def gIs (h : He) (i : Int) : Bool := (gotV h i).isSome

theorem whF_none {h : He} {i : Int} (hn : ∀ x ∈ (wh h.f).zipIdx, ((x.1.1 : Int) == i) = false) : whF h i = none := by
  unfold whF
  rw [List.find?_eq_none]
  intro x hx
  rw [hn x hx]
  decide
theorem whF_some {h : He} {i : Int} {k : List (Fin 14 × Nat)} {x : Fin 14 × Nat} (hp : k ++ [x] <+: (wh h.f).zipIdx) (hk : ∀ y ∈ k, ((y.1.1 : Int) == i) = false) (hx : ((x.1.1 : Int) == i) = true) : whF h i = some x := by
  obtain ⟨t, ht⟩ := hp
  unfold whF
  have h0 : k.find? (fun x => (x.1.1 : Int) == i) = none := by
    rw [List.find?_eq_none]
    intro y hy
    rw [hk y hy]
    decide
  rw [← ht, List.append_assoc, List.find?_append, h0]
  simp [hx]
/-- between rounds -/
structure GI (w : World) (i : Int) (pre : List (Fin 14 × Nat)) (X : World) : Prop where
  no : ∀ x ∈ pre, ((x.1.1 : Int) == i) = false
  idx : Boxed X (w.heap.size + 1) 3 (.int .i64 i)
  val : Bx X (w.heap.size + 1 + 1) 40 [.int .u64 0, .string ⟨#[]⟩]
  is : Boxed X (w.heap.size + 1 + 1 + 1) 4 (.bool false)
  bel : Below w.heap.size w X
/-- where a round left the loop -/
structure GX (h : He) (w : World) (i : Int) (pre : List (Fin 14 × Nat)) (X : World) : Prop where
  yes : ∃ k x, pre = k ++ [x] ∧ (∀ y ∈ k, ((y.1.1 : Int) == i) = false) ∧ ((x.1.1 : Int) == i) = true ∧ Bx X (w.heap.size + 1 + 1) 40 (cellsV (h.l.getD x.2 noV))
  is : Boxed X (w.heap.size + 1 + 1 + 1) 4 (.bool true)
  bel : Below w.heap.size w X
theorem low_cells {X Y : World} {row : Option Nat} {g B : Nat} {o : Obj} (hg : X.grownBy Y row) (hr : ∀ r, row = some r → B ≤ r) (h : X.heap[g]? = some o) (hlt : g < B) : Y.heap[g]? = some o := by
  refine (hg.block g (Array.getElem?_eq_some_iff.1 h).1 (fun e => ?_)).trans h
  have := hr g e.symm
  omega
theorem GI_ab {w : World} {i : Int} {N : Nat} (hN : w.heap.size + 4 ≤ N) : Ab notInt N (fun pre Y => GI w i pre Y) := fun pre X Y row hs hg hr =>
  ⟨hs.no, low_cells hg (fun r e => (hr r e).1) hs.idx (by omega), low_cells hg (fun r e => (hr r e).1) hs.val (by omega), low_cells hg (fun r e => (hr r e).1) hs.is (by omega), hs.bel.grown hg hs.bel.size (fun k e => by have := (hr k e).1; omega)⟩
theorem GX_ab {h : He} {w : World} {i : Int} {N : Nat} (hN : w.heap.size + 4 ≤ N) : Ab notInt N (fun pre Y => GX h w i pre Y) := fun pre X Y row hs hg hr => by
  obtain ⟨k, x, e, h1, h2, h3⟩ := hs.yes
  exact ⟨⟨k, x, e, h1, h2, low_cells hg (fun r e => (hr r e).1) h3 (by omega)⟩, low_cells hg (fun r e => (hr r e).1) hs.is (by omega), hs.bel.grown hg hs.bel.size (fun k e => by have := (hr k e).1; omega)⟩
theorem bx_put {W : World} {D B : Nat} {t : TypeId} {l : List Value} {o : Obj} (o' : Obj) (h : Bx W B t l) (hK : W.heap[D]? = some o) (hc : o.isCells = false) : Bx (W.putObj D o') B t l :=
  (World.putObj_heap_other (fun e => by
    subst e
    rw [show W.heap[_]? = _ from h] at hK
    cases hK
    cases hc)).trans h
/-- at the end: what is answered lies in its boxes -/
structure GZ (w : World) (D : Nat) (v : MV) (x : Bool) (X : World) : Prop where
  val : Bx X (w.heap.size + 1 + 1) 40 (cellsV v)
  is : Boxed X (w.heap.size + 1 + 1 + 1) 4 (.bool x)
  bel : Below w.heap.size w X
  late : X.heap[D]? = some (.deferred (some []))
theorem keeps_store2 {p : TypeId → Bool} {W : World} {B : Nat} {t : TypeId} {a b : Value} (h : Bx W B t [a, b]) (hp : p t = false) (a' b' : Value) : Keeps p W ((W.setCell ⟨B, 0, none⟩ a').setCell ⟨B, 1, none⟩ b') :=
  (Keeps.setCell h hp 0 _).trans (Keeps.setCell (h.set 0 a') hp 1 _)
theorem boxed_store2 {W : World} {B b : Nat} {t : TypeId} {v : Value} (h : Boxed W b t v) (hne : B ≠ b) (a' b' : Value) : Boxed ((W.setCell ⟨B, 0, none⟩ a').setCell ⟨B, 1, none⟩ b') b t v :=
  (Below.heap_setCell _ ⟨B, 1, none⟩ b' b hne.symm).trans ((Below.heap_setCell W ⟨B, 0, none⟩ a' b hne.symm).trans h)

set_option maxRecDepth 100000 in
set_option maxHeartbeats 400000 in
theorem pget_any (h : He) (A : Option Addr) (cap : Nat) (i : Int) (w : World) (hw : Wid w) (hh : wfH h) (hA : ValsAt w A (rowV h.l)) :
    Calls Tryd.prog 17 #[encH h A cap, .int .i64 i] w fun e w' => e = .returned (.tuple #[encV (gV h i), .bool (gIs h i)]) ∧ Below w.heap.size w w' := by
  refine (callsIn_wide (n := 6)).1 ?_
  obtain ⟨w0, hw0⟩ : ∃ w0, (((w.alloc (.cells (cellsH h A cap).toArray 25)).alloc (.cells #[.int .i64 i] 3)).alloc (.cells #[.int .u64 0, .string ⟨#[]⟩] 40)).alloc (.cells #[.bool false] 4) = w0 := ⟨_, rfl⟩
  have bH : Bx w0 w.heap.size 25 (cellsH h A cap) := by rw [← hw0]; exact bx_alloc (bx_alloc (bx_alloc (Bx.new w _ _) _) _) _
  have bI : Boxed w0 (w.heap.size + 1) 3 (.int .i64 i) := by
    have h := ((Boxed.new (w.alloc (.cells (cellsH h A cap).toArray 25)) 3 (.int .i64 i)).alloc (.cells #[.int .u64 0, .string ⟨#[]⟩] 40)).alloc (.cells #[.bool false] 4)
    rw [World.size_alloc] at h
    rw [← hw0]; exact h
  have bV : Bx w0 (w.heap.size + 1 + 1) 40 [.int .u64 0, .string ⟨#[]⟩] := by
    have h := bx_alloc (Bx.new ((w.alloc (.cells (cellsH h A cap).toArray 25)).alloc (.cells #[.int .i64 i] 3)) 40 [.int .u64 0, .string ⟨#[]⟩]) (.cells #[.bool false] 4)
    rw [World.size_alloc, World.size_alloc] at h
    rw [← hw0]; exact h
  have bB : Boxed w0 (w.heap.size + 1 + 1 + 1) 4 (.bool false) := by
    have h := Boxed.new (((w.alloc (.cells (cellsH h A cap).toArray 25)).alloc (.cells #[.int .i64 i] 3)).alloc (.cells #[.int .u64 0, .string ⟨#[]⟩] 40)) 4 (.bool false)
    rw [World.size_alloc, World.size_alloc, World.size_alloc] at h
    rw [← hw0]; exact h
  have hB0 : Below w.heap.size w w0 := by rw [← hw0]; exact ((((Below.refl _ w).alloc (Nat.le_refl _) _).alloc (by simp) _).alloc (by simp; omega) _).alloc (by simp; omega) _
  have hsz : w0.heap.size = w.heap.size + 4 := by rw [← hw0]; simp
  have hRt := pright_any h A cap w0 (hw.below hB0) hh (hA.below hB0)
  have hPr := fun W => properties_in 5 h A cap W
  have x0 := bH.cell 0 (by simp [cellsH])
  have x1 := bH.cell 1 (by simp [cellsH])
  have x2 := bH.cell 2 (by simp [cellsH])
  have x3 := bH.cell 3 (by simp [cellsH])
  simp only [cellsH, List.getElem_cons_zero, List.getElem_cons_succ] at x0 x1 x2 x3
  unfold encH at hRt hPr ⊢
  unfold cellsH at hw0
  refine callsIn_of_wp_marks Tryd.func17 rfl trivial ?_ rfl
  simp only [Tryd.ntmps17, List.size_toArray, List.length_cons, List.length_nil, Nat.reduceAdd, Nat.reduceSub, Array.replicate_succ, Array.replicate_zero, List.push_toArray, List.append_toArray, List.nil_append, List.cons_append]
  gi_wp2_with fail
  refine ⟨trivial, (callsIn_wide.2 hRt).mono ?_⟩
  rintro e w1 ⟨rfl, hb1⟩
  have hB1 := hB0.trans (hb1.mono hB0.size)
  have bH1 := bH.kept hb1
  have bI1 := boxed_underP bI hb1
  have bV1 := bV.kept hb1
  have bB1 := boxed_underP bB hb1
  have hs1 : w.heap.size + 4 ≤ w1.heap.size := by have := hb1.size; omega
  clear hRt hw0 x0 x1 x2 x3 hb1 bH bI bV bB hB0 hsz
  by_cases hs : hE h = 0
  · rw [hs]
    have hok : shOk h := by
      by_cases hk : shOk h
      · exact hk
      · rw [hE, shE, if_neg hk, if_neg (by decide)] at hs; cases hs
    have HOk : Hid ((wh h.f).length = h.l.length) := Lib.hid hok.2.2.2
    have HG : Hid (gotV h i = (whF h i).map (fun x => h.l.getD x.2 noV)) := Lib.hid (by rw [gotV, if_pos hs])
    clear hs hok
    have x0 := bH1.cell 0 (by simp [cellsH])
    have x1 := bH1.cell 1 (by simp [cellsH])
    have x2 := bH1.cell 2 (by simp [cellsH])
    have x3 := bH1.cell 3 (by simp [cellsH])
    simp only [cellsH, List.getElem_cons_zero, List.getElem_cons_succ] at x0 x1 x2 x3
    gi_wp2_with fail
    refine ⟨trivial, (hPr w1).mono ?_⟩
    rintro e w' ⟨rfl, rfl⟩
    clear hPr x0 x1 x2 x3
    obtain ⟨w5, hw5⟩ : ∃ w5, w1.alloc (.cells (cellsH h A cap).toArray 25) = w5 := ⟨_, rfl⟩
    have bP : Bx w5 w1.heap.size 25 (cellsH h A cap) := by rw [← hw5]; exact Bx.new w1 _ _
    have hb5 : Below w1.heap.size w1 w5 := by rw [← hw5]; exact (Below.refl _ w1).alloc (Nat.le_refl _) _
    have hB5 := hB1.trans (hb5.mono hB1.size)
    have bI5 := boxed_underP bI1 hb5
    have bV5 := bV1.kept hb5
    have bB5 := boxed_underP bB1 hb5
    have hs5 : w.heap.size + 4 ≤ w5.heap.size := by have := hb5.size; omega
    rw [hw5]
    clear hw5 hb5 hB1 bI1 bV1 bB1 bH1 hs1
    gi_wp2_with fail
    have hf := hh.2.1
    refine wpIn_range_through (by decide) (gf := 48) (lb := #[.pointer (some ⟨w1.heap.size, 0, none⟩)]) rfl (enters_of Tryd.func48 (by kernel_rfl) rfl)
      (props1_through h A cap w1.heap.size w5 hf.1 hf.2 HOk.out bP) (Below.refl _ _) (fun _ => rfl) (fun h k => h.trans k) (fun B W l o o' hl ho hc => Kept.put ho hc hl o')
      (fun pre Y => GI w i pre Y) (fun pre Y => GX h w i pre Y)
      (GI_ab hs5) (GX_ab hs5)
      ⟨(fun x hx => by cases hx), bI5, bV5, bB5, hB5⟩
      (fun x a' => a' = { tmps := #[.agg #[.int .i64 h.c, .int .u64 h.z, .int .u64 h.f, .slice A h.l.length cap], .int .i64 i, .pointer (some ⟨w.heap.size, 0, none⟩), .pointer (some ⟨w.heap.size + 1, 0, none⟩), .pointer (some ⟨w.heap.size + 1 + 1, 0, none⟩), .pointer (some ⟨w.heap.size + 1 + 1 + 1, 0, none⟩), .int .i64 (x.1.1 : Int), .func (.func 50) #[encP h A cap x.2] #[], .agg #[.int .i64 h.c, .int .u64 h.z, .int .u64 h.f, .slice A h.l.length cap], .int .i64 0, .bool false, undef, .agg #[.int .i64 h.c, .int .u64 h.z, .int .u64 h.f, .slice A h.l.length cap], .func (.func 48) #[] #[.pointer (some ⟨w1.heap.size, 0, none⟩)], .int .i64 (x.1.1 : Int), .func (.func 50) #[encP h A cap x.2] #[], undef, undef, undef, undef, undef, undef], defers := [] }) ?assign ?body ?done ?stop
    case assign =>
      intro l pre x W K _ hK
      have hKk := hK _ rfl
      clear hK
      unfold encsP
      gi_wp2
      exact hKk
    case body =>
      rintro l pre x a' X hI rfl ⟨hx1, hx2⟩
      have HP := Lib.hid hI
      have hBX := hI.bel
      have cI := hI.idx.cell
      clear hx1
      cases ht : ((x.1.1 : Int) == i)
      · have HN : Hid (∀ y ∈ pre ++ [x], ((y.1.1 : Int) == i) = false) := Lib.hid (by
          intro y hy
          rcases List.mem_append.1 hy with h1 | h1
          · exact hI.no y h1
          · obtain rfl : y = x := by simpa using h1
            exact ht)
        unfold encP
        clear hI
        gi_wp2
        exact ⟨⟨Nat.le_refl _, fun _ _ _ h1 _ => h1⟩, Kept.refl _ _ _, ⟨HN.out, HP.out.idx, HP.out.val, HP.out.is, HP.out.bel⟩⟩
      · have hV := pvalue_any h A cap x.2 hx2 X (hA.below hBX)
        have HT := Lib.hid ht
        have HE : Hid (h.l.getD x.2 noV = h.l[x.2]) := Lib.hid (by rw [List.getD_eq_getElem?_getD, List.getElem?_eq_getElem hx2]; rfl)
        unfold encV at hV
        generalize h.l[x.2] = vv at hV HE
        obtain ⟨vn, vs⟩ := vv
        dsimp only at hV
        unfold encP at hV ⊢
        clear hI
        gi_wp2_with fail
        refine ⟨trivial, (CallsIn.inRound l (callsIn_wide.2 hV)).mono ?_⟩
        rintro e w6 ⟨rfl, hb6⟩
        have v6 := HP.out.val.kept hb6
        have b6 := boxed_underP HP.out.is hb6
        have hB6 := hBX.trans (hb6.mono hBX.size)
        obtain ⟨a0, f0, a1, f1, bR⟩ := v6.store2 (.int .u64 vn) (.string vs)
        have b7 := boxed_store2 b6 (B := w.heap.size + 1 + 1) (by omega) (.int .u64 vn) (.string vs)
        have c7 := b7.cell
        have d7 := b7.frozen
        have HX : Hid (GX h w i (pre ++ [x]) (((w6.setCell ⟨w.heap.size + 1 + 1, 0, none⟩ (.int .u64 vn)).setCell ⟨w.heap.size + 1 + 1, 1, none⟩ (.string vs)).setCell ⟨w.heap.size + 1 + 1 + 1, 0, none⟩ (.bool true))) := Lib.hid
          ⟨⟨pre, x, rfl, HP.out.no, HT.out, by rw [HE.out]; exact bx_other bR (by omega) _⟩, b7.set _, (below_store2 hB6 (by omega) _ _).setCell (p := ⟨w.heap.size + 1 + 1 + 1, 0, none⟩) (by simp; omega) _⟩
        have hkk : Keeps itTypes X (((w6.setCell ⟨w.heap.size + 1 + 1, 0, none⟩ (.int .u64 vn)).setCell ⟨w.heap.size + 1 + 1, 1, none⟩ (.string vs)).setCell ⟨w.heap.size + 1 + 1 + 1, 0, none⟩ (.bool true)) :=
          ((Keeps.below hb6).trans (keeps_store2 v6 (by decide) _ _)).trans (Keeps.setCell b7 (by decide) 0 _)
        have hss : X.heap.size ≤ (((w6.setCell ⟨w.heap.size + 1 + 1, 0, none⟩ (.int .u64 vn)).setCell ⟨w.heap.size + 1 + 1, 1, none⟩ (.string vs)).setCell ⟨w.heap.size + 1 + 1 + 1, 0, none⟩ (.bool true)).heap.size := by simpa using hb6.size
        clear hV v6 b6 bR b7 hB6 hb6
        gi_wp2
        exact ⟨⟨hss, fun k o _ h1 h2 => hkk k o h1 (not_cells_q h2)⟩, Kept.of hss hkk, HX.out⟩
    case done =>
      rintro D xs Y hD rfl hI hK
      have HG0 : Hid (gV h i = noV ∧ gIs h i = false) := Lib.hid (by
        have e : gotV h i = none := by rw [HG.out, whF_none hI.no]; rfl
        exact ⟨by rw [gV, e]; rfl, by rw [gIs, e]; rfl⟩)
      have hv := hI.val
      have hb := hI.is
      obtain ⟨a0, f0, a1, f1, bR⟩ := hv.store2 (.int .u64 0) (.string ⟨#[]⟩)
      have b7 := boxed_store2 hb (B := w.heap.size + 1 + 1) (by omega) (.int .u64 0) (.string ⟨#[]⟩)
      have c7 := b7.cell
      have d7 := b7.frozen
      have HZ : Hid (GZ w D noV false (((Y.setCell ⟨w.heap.size + 1 + 1, 0, none⟩ (.int .u64 0)).setCell ⟨w.heap.size + 1 + 1, 1, none⟩ (.string ⟨#[]⟩)).setCell ⟨w.heap.size + 1 + 1 + 1, 0, none⟩ (.bool false))) := Lib.hid
        ⟨bx_other bR (by omega) _, b7.set _, (below_store2 hI.bel (by omega) _ _).setCell (p := ⟨w.heap.size + 1 + 1 + 1, 0, none⟩) (by simp; omega) _, ((keeps_store2 (p := fun _ => false) hv rfl _ _).trans (Keeps.setCell b7 rfl 0 _)) D _ hK (fun _ _ _ e => by cases e)⟩
      clear bR b7 hv hb hI hK
      gi_wp2
      refine ⟨by simp, .inl ⟨_, _, rfl, run_takeDeferred HZ.out.late, ?_⟩⟩
      refine ⟨.tuple #[encV noV, .bool false], ?_, by rw [HG0.out.1, HG0.out.2], HZ.out.bel.trans (belowK_b (w := w) (Nat.le_refl _) _ D _ _ (by omega) HZ.out.late rfl rfl)⟩
      have r1 := bx_put (.deferred none) HZ.out.val HZ.out.late rfl
      have y0 := r1.cell 0 (by simp [cellsV])
      have y1 := r1.cell 1 (by simp [cellsV])
      simp only [cellsV, List.getElem_cons_zero, List.getElem_cons_succ] at y0 y1
      have r2 := boxed_put (.deferred none) HZ.out.is HZ.out.late rfl
      rw [results_cc rfl]
      simp [asAddr, Result.andThen, go_sem, y0, y1, r2, encV]
    case stop =>
      rintro D pre Y hD hSp hX hK
      obtain ⟨k, x, rfl, hn, hy, hv⟩ := hX.yes
      have HG0 : Hid (gV h i = h.l.getD x.2 noV ∧ gIs h i = true) := Lib.hid (by
        have e : gotV h i = some (h.l.getD x.2 noV) := by rw [HG.out, whF_some hSp hn hy]; rfl
        exact ⟨by rw [gV, e]; rfl, by rw [gIs, e]; rfl⟩)
      generalize h.l.getD x.2 noV = vv at HG0 hv
      gi_wp2
      refine ⟨by simp, .inl ⟨_, _, rfl, run_takeDeferred hK, ?_⟩⟩
      refine ⟨.tuple #[encV vv, .bool true], ?_, by rw [HG0.out.1, HG0.out.2], hX.bel.trans (belowK_b (w := w) (Nat.le_refl _) _ D _ _ (by omega) hK rfl rfl)⟩
      have r1 := bx_put (.deferred none) hv hK rfl
      have y0 := r1.cell 0 (by simp [cellsV])
      have y1 := r1.cell 1 (by simp [cellsV])
      simp only [cellsV, List.getElem_cons_zero, List.getElem_cons_succ] at y0 y1
      have r2 := boxed_put (.deferred none) hX.is hK rfl
      rw [results_cc rfl]
      simp [asAddr, Result.andThen, go_sem, y0, y1, r2, encV]
  · have ts : (hE h != 0) = true := by simpa using hs
    have HF : Hid (gV h i = noV ∧ gIs h i = false) := Lib.hid (by
      have e : gotV h i = none := by rw [gotV, if_neg hs]
      exact ⟨by rw [gV, e]; rfl, by rw [gIs, e]; rfl⟩)
    obtain ⟨a0, f0, a1, f1, bR⟩ := bV1.store2 (.int .u64 0) (.string ⟨#[]⟩)
    have b7 := boxed_store2 bB1 (B := w.heap.size + 1 + 1) (by omega) (.int .u64 0) (.string ⟨#[]⟩)
    have c7 := b7.cell
    have d7 := b7.frozen
    have HZ : Hid (Bx (((w1.setCell ⟨w.heap.size + 1 + 1, 0, none⟩ (.int .u64 0)).setCell ⟨w.heap.size + 1 + 1, 1, none⟩ (.string ⟨#[]⟩)).setCell ⟨w.heap.size + 1 + 1 + 1, 0, none⟩ (.bool false)) (w.heap.size + 1 + 1) 40 (cellsV noV) ∧ Boxed (((w1.setCell ⟨w.heap.size + 1 + 1, 0, none⟩ (.int .u64 0)).setCell ⟨w.heap.size + 1 + 1, 1, none⟩ (.string ⟨#[]⟩)).setCell ⟨w.heap.size + 1 + 1 + 1, 0, none⟩ (.bool false)) (w.heap.size + 1 + 1 + 1) 4 (.bool false) ∧ Below w.heap.size w (((w1.setCell ⟨w.heap.size + 1 + 1, 0, none⟩ (.int .u64 0)).setCell ⟨w.heap.size + 1 + 1, 1, none⟩ (.string ⟨#[]⟩)).setCell ⟨w.heap.size + 1 + 1 + 1, 0, none⟩ (.bool false))) := Lib.hid
      ⟨bx_other bR (by omega) _, b7.set _, (below_store2 hB1 (by omega) _ _).setCell (p := ⟨w.heap.size + 1 + 1 + 1, 0, none⟩) (by simp; omega) _⟩
    clear hPr hs bR b7 bV1 bB1 bI1 bH1
    gi_wp2
    refine ⟨.tuple #[encV noV, .bool false], ?_, by rw [HF.out.1, HF.out.2], HZ.out.2.2⟩
    have y0 := HZ.out.1.cell 0 (by simp [cellsV])
    have y1 := HZ.out.1.cell 1 (by simp [cellsV])
    simp only [cellsV, List.getElem_cons_zero, List.getElem_cons_succ] at y0 y1
    have r2 := HZ.out.2.1.cell
    rw [results_cc rfl]
    simp [asAddr, Result.andThen, go_sem, y0, y1, r2, encV]
end Go.Proofs.YtjpldfkhacchdaaDoor
