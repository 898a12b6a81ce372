/-
  props.Bytes, Right and Letters, and the document's example, answer as the plain functions say; nothing that was there is changed. Conditions: the package num's table of widths holds 1, 2, 4, 8; size and flags, and values' numbers, are uint64s, values' texts shorter than 2^47 bytes.
-/
import Derived.Test.YtdgidbiolklneaaDoorJPP
import Derived.Test.YtdgidbiolklneaaDoorWPLay
import Derived.Test.YtdgidbiolklneaaDoorJBuild
namespace Go.Proofs.YtdgidbiolklneaaDoor
open Go.RowKit Go.Shelf
attribute [local go_sem] Oper.semAt_some

theorem results_cc {fn : Func} {p q : Tmp} {tp tq : TypeId} (h : fn.results = #[.cell p tp, .cell q tq]) (tmps : Array Value) (P : Program) (w : World) :
    (results fn tmps).run P w =
      ((asAddr (tmps.getD p undef)).run P w).andThen fun a w₁ => ((loadVar tp a).run P w₁).andThen fun u w₂ => ((asAddr (tmps.getD q undef)).run P w₂).andThen fun b w₃ => ((loadVar tq b).run P w₃).andThen fun v w₄ => .ok (.tuple #[u, v]) w₄ := by
  simp only [results, h]
  simp [Sem.run_bind, Result.andThen]
theorem bx_alloc {W : World} {B : Nat} {t : TypeId} {l : List Value} (h : Bx W B t l) (o : Obj) : Bx (W.alloc o) B t l := h.kept ((Below.refl _ W).alloc (Nat.le_refl _) o)
/-- what was told, as letters and values -/
def gl (l : List MV) (pre : List (Fin 14 × Nat)) : List (UInt8 × MV) := pre.map fun x => (pLet x.1, l.getD x.2 noV)
theorem gl_snoc (l : List MV) (pre : List (Fin 14 × Nat)) (x : Fin 14 × Nat) : gl l (pre ++ [x]) = gl l pre ++ [(pLet x.1, l.getD x.2 noV)] := by simp [gl]
theorem gl_all (f : Int) (l : List MV) (h : (wh f).length = l.length) : gl l (wh f).zipIdx = (hLs f).zip l := by
  apply List.ext_getElem
  · simp [gl, hLs, h]
  · intro i h1 h2
    have hi : i < l.length := by simp [gl] at h1; omega
    simp [gl, hLs, List.getD_eq_getElem?_getD, hi]
theorem gl_pre {l : List MV} {a b : List (Fin 14 × Nat)} (h : a <+: b) : gl l a <+: gl l b := by
  obtain ⟨t, rfl⟩ := h
  rw [gl, gl, List.map_append]
  exact List.prefix_append _ _

theorem begB_size {h : He} (hh : wfH h) (h1 : h.c = 60) (h2 : h.f < 65536) : (begB h).size = 14 := by
  have s1 := putR_size (show putOk 2 h.c = true by rw [h1]; decide)
  have s2 := putR_size (show putOk 2 0 = true by decide)
  have s3 := putR_size (put8_ok hh.1)
  have s4 := putR_size (put2_okP ⟨hh.2.1.1, h2⟩)
  rw [begB, ByteArray.size_append, ByteArray.size_append, ByteArray.size_append]
  omega
set_option maxRecDepth 100000 in
theorem index_let (i : Fin 14) (w : World) : (Instr.index 9 (.string ⟨#[83, 83, 84, 111, 111, 83, 83, 83, 83, 113, 83, 83, 83, 83]⟩) (.int .i64 (i.1 : Int))).run Tryd.prog w = .ok (.int .u8 ((pLet i).toNat : Int)) w := by
  obtain ⟨i, hi⟩ := i
  have hc : i = 0 ∨ i = 1 ∨ i = 2 ∨ i = 3 ∨ i = 4 ∨ i = 5 ∨ i = 6 ∨ i = 7 ∨ i = 8 ∨ i = 9 ∨ i = 10 ∨ i = 11 ∨ i = 12 ∨ i = 13 := by omega
  rcases hc with rfl | rfl | rfl | rfl | rfl | rfl | rfl | rfl | rfl | rfl | rfl | rfl | rfl | rfl <;> rfl
theorem vals_drew {w : World} {A : Option Addr} {l : List Value} (h : ValsAt w A l) : ValsAt w.drew A l := h
theorem below_undrew {X w : World} (h : Below X.drew.heap.size X.drew w) : Below X.heap.size X w := ⟨h.os, h.tape, h.output, h.size, h.block⟩
theorem strCells_appendP (a b : ByteArray) : Lib.strCells a ++ Lib.strCells b = Lib.strCells (a ++ b) := by
  rw [Lib.strCells_eq, Lib.strCells_eq, Lib.strCells_eq, ba_append]
  simp [Lib.byteCells]
theorem keeps_it {X Y : World} (h : Keeps notBuild X Y) : Keeps itTypes X Y := fun g o hg ho => h g o hg (fun cs t fz e => by
  have := ho cs t fz e
  simp only [itTypes, Bool.or_eq_true, beq_iff_eq] at this
  rcases this with ((rfl | rfl) | rfl) | rfl <;> decide)
/-- between rounds -/
structure BI (h : He) (bg : ByteArray) (w : World) (b B : Nat) (pre : List (Fin 14 × Nat)) (X : World) : Prop where
  ok : erP (gl h.l pre) = 0
  len : pre.length ≤ h.l.length
  bu : Lib.IsBuilder 64 5 b b (Lib.strCells (bg ++ catP (gl h.l pre))) X
  str : Boxed X (w.heap.size + 1) 9 (.string ⟨#[]⟩)
  err : Boxed X (w.heap.size + 1 + 1) 32 (.int .i64 0)
  bel : Below w.heap.size w X
  big : B ≤ X.heap.size
/-- where a round left the loop -/
structure BX (h : He) (w : World) (pre : List (Fin 14 × Nat)) (X : World) : Prop where
  bad : ¬ erP (gl h.l pre) = 0
  str : Boxed X (w.heap.size + 1) 9 (.string ⟨#[]⟩)
  err : Boxed X (w.heap.size + 1 + 1) 32 (.int .i64 (erP (gl h.l pre)))
  bel : Below w.heap.size w X
theorem BI.below {h : He} {bg : ByteArray} {w X Y : World} {b B : Nat} {pre : List (Fin 14 × Nat)} (hI : BI h bg w b B pre X) (hb : Below X.heap.size X Y) : BI h bg w b B pre Y :=
  ⟨hI.ok, hI.len, isBuilder_below hI.bu hb, boxed_underP hI.str hb, boxed_underP hI.err hb, hI.bel.trans (hb.mono hI.bel.size), Nat.le_trans hI.big hb.size⟩
theorem q_cells {X Y : World} {row : Option Nat} {g B : Nat} {cs : Array Value} {t : TypeId} {fz : Nat × Nat} (hg : X.grownBy Y row) (hr : ∀ r, row = some r → B ≤ r ∧ ∃ o : Obj, X.heap[r]? = some o ∧ ∀ cs t fz, o = .cells cs t fz → notInt t = true) (h : X.heap[g]? = some (.cells cs t fz)) (ht : notInt t = false) : Y.heap[g]? = some (.cells cs t fz) := by
  refine (hg.block g (Array.getElem?_eq_some_iff.1 h).1 (fun e => ?_)).trans h
  obtain ⟨-, o, ho, hc⟩ := hr g e.symm
  rw [h] at ho
  have := hc cs t fz (Option.some.inj ho).symm
  rw [ht] at this
  cases this
theorem q_builder {X Y : World} {row : Option Nat} {b b' B : Nat} {bs : List Value} (hg : X.grownBy Y row) (hr : ∀ r, row = some r → B ≤ r ∧ ∃ o : Obj, X.heap[r]? = some o ∧ ∀ cs t fz, o = .cells cs t fz → notInt t = true) (h : Lib.IsBuilder 64 5 b' b bs X) : Lib.IsBuilder 64 5 b' b bs Y := by
  have key : ∀ q, Lib.BuilderAt 64 5 b' b q bs X → Lib.BuilderAt 64 5 b' b q bs Y := by
    intro q hq
    obtain ⟨hB, v, hbk, hown, hne⟩ := hq
    refine ⟨hB, v, q_cells hg hr hbk (by decide), ⟨hown.1, ?_⟩, hne⟩
    rcases hown.2 with h1 | ⟨g, cap, cur, hv, h2, h3, h4⟩
    · exact .inl h1
    · exact .inr ⟨g, cap, cur, hv, h2, q_cells hg hr h3 (by decide), h4⟩
  exact h.imp (key _) (key _)
theorem BI_ab {h : He} {bg : ByteArray} {w : World} {b B N : Nat} (hN : w.heap.size ≤ N) : Ab notInt N (fun pre Y => BI h bg w b B pre Y) := fun pre X Y row hs hg hr =>
  ⟨hs.ok, hs.len, q_builder hg hr hs.bu, q_cells hg hr hs.str (by decide), q_cells hg hr hs.err (by decide), hs.bel.grown hg hs.bel.size (fun k e => Nat.le_trans hN (hr k e).1), Nat.le_trans hs.big hg.size⟩
theorem BX_ab {h : He} {w : World} {N : Nat} (hN : w.heap.size ≤ N) : Ab notInt N (fun pre Y => BX h w pre Y) := fun pre X Y row hs hg hr =>
  ⟨hs.bad, q_cells hg hr hs.str (by decide), q_cells hg hr hs.err (by decide), hs.bel.grown hg hs.bel.size (fun k e => Nat.le_trans hN (hr k e).1)⟩
theorem BI_room {h : He} {bg vb : ByteArray} {w X : World} {b B k : Nat} {pre : List (Fin 14 × Nat)} (hI : BI h bg w b B pre X) (hbg : bg.size = 14) (hx2 : k < h.l.length) (hx1 : k = pre.length) (hl : h.l.length ≤ 14) (hv : vb.size ≤ 4294967400) : (Lib.strCells (bg ++ catP (gl h.l pre))).length + vb.size ≤ 140737488355328 := by
  rw [Lib.strCells_length, ByteArray.size_append]
  have h1 := catP_size _ hI.ok
  have h2 : (gl h.l pre).length = pre.length := by rw [gl, List.length_map]
  rw [h2] at h1
  have h3 : pre.length * 4294967400 ≤ 14 * 4294967400 := Nat.mul_le_mul_right _ (by omega)
  omega
/-- at the end: what is answered lies in its boxes -/
structure BZ (w : World) (D : Nat) (r : ByteArray) (x : Int) (X : World) : Prop where
  str : Boxed X (w.heap.size + 1) 9 (.string r)
  err : Boxed X (w.heap.size + 1 + 1) 32 (.int .i64 x)
  bel : Below w.heap.size w X
  late : X.heap[D]? = some (.deferred (some []))
set_option maxRecDepth 100000 in
set_option maxHeartbeats 400000 in
theorem pbytes_any (h : He) (A : Option Addr) (cap : Nat) (w : World) (hw : Wid w) (hh : wfH h) (hA : ValsAt w A (rowV h.l)) :
    Calls Tryd.prog 16 #[encH h A cap] w fun e w' => e = .returned (.tuple #[.string (hB h), .int .i64 (hE h)]) ∧ Below w.heap.size w w' := by
  refine (callsIn_wide (n := 6)).1 ?_
  obtain ⟨w0, hw0⟩ : ∃ w0, ((w.alloc (.cells (cellsH h A cap).toArray 27)).alloc (.cells #[.string ⟨#[]⟩] 9)).alloc (.cells #[.int .i64 0] 32) = w0 := ⟨_, rfl⟩
  have bH : Bx w0 w.heap.size 27 (cellsH h A cap) := by rw [← hw0]; exact bx_alloc (bx_alloc (Bx.new w _ _) _) _
  have bS : Boxed w0 (w.heap.size + 1) 9 (.string ⟨#[]⟩) := by
    have h := (Boxed.new (w.alloc (.cells (cellsH h A cap).toArray 27)) 9 (.string ⟨#[]⟩)).alloc (.cells #[.int .i64 0] 32)
    rw [World.size_alloc] at h
    rw [← hw0]; exact h
  have bE : Boxed w0 (w.heap.size + 1 + 1) 32 (.int .i64 0) := by
    have h := Boxed.new ((w.alloc (.cells (cellsH h A cap).toArray 27)).alloc (.cells #[.string ⟨#[]⟩] 9)) 32 (.int .i64 0)
    rw [World.size_alloc, World.size_alloc] at h
    rw [← hw0]; exact h
  have hB0 : Below w.heap.size w w0 := by rw [← hw0]; exact (((Below.refl _ w).alloc (Nat.le_refl _) _).alloc (by simp) _).alloc (by simp; omega) _
  have hsz : w0.heap.size = w.heap.size + 3 := by rw [← hw0]; simp
  have hSh := shape_any h A cap w0 hh
  have hBeg := fun W hW => beginning_any h A cap W hW hh
  have hPr := fun W => properties_in 5 h A cap W
  have x0 := bH.cell 0 (by simp [cellsH])
  have x1 := bH.cell 1 (by simp [cellsH])
  have x2 := bH.cell 2 (by simp [cellsH])
  have x3 := bH.cell 3 (by simp [cellsH])
  simp only [cellsH, List.getElem_cons_zero, List.getElem_cons_succ] at x0 x1 x2 x3
  unfold encH at hSh hBeg hPr ⊢
  unfold cellsH at hw0
  refine callsIn_of_wp_marks Tryd.func16 rfl trivial ?_ rfl
  simp only [Tryd.ntmps16, List.size_toArray, List.length_cons, List.length_nil, Nat.reduceAdd, Nat.reduceSub, Array.replicate_succ, Array.replicate_zero, List.push_toArray, List.append_toArray, List.nil_append, List.cons_append]
  gi_wp2_with fail
  refine ⟨trivial, (callsIn_wide.2 hSh).mono ?_⟩
  rintro e w1 ⟨rfl, hb1⟩
  have hB1 := hB0.trans (hb1.mono hB0.size)
  have bH1 := bH.kept hb1
  have bS1 := boxed_underP bS hb1
  have bE1 := boxed_underP bE hb1
  have hs1 : w.heap.size + 3 ≤ w1.heap.size := by have := hb1.size; omega
  clear hSh hw0 x0 x1 x2 x3 hb1 bH bS bE hB0
  by_cases hs : shE h = 0
  · rw [hs]
    have hok : shOk h := by
      by_cases hk : shOk h
      · exact hk
      · rw [shE, if_neg hk] at hs; cases hs
    obtain ⟨ok1, ok2, ok3, ok4⟩ := hok
    have hbs : (begB h).size = 14 := begB_size hh ok1 ok2
    have HB : Hid (hB h = if hE h = 0 then begB h ++ catP ((hLs h.f).zip h.l) else ⟨#[]⟩) := Lib.hid rfl
    generalize begB h = bg at hBeg hbs HB
    have HBs := Lib.hid hbs
    have HOk : Hid (h.c = 60 ∧ h.f < 65536 ∧ (wh h.f).length = h.l.length) := Lib.hid ⟨ok1, ok2, ok4⟩
    have HSh := Lib.hid hs
    replace hBeg := fun W hW => hBeg W hW ok1 ok2
    clear hbs ok1 ok2 ok3 ok4 hs
    obtain ⟨w2, hw2⟩ : ∃ w2, w1.alloc (.cells #[.pointer none, .slice none 0 0] 64) = w2 := ⟨_, rfl⟩
    have hbu : Lib.IsBuilder 64 5 w1.heap.size w1.heap.size [] w2 := by
      rw [← hw2]
      exact Lib.fresh_isBuilder _ _ w1
    have hb2 : Below w1.heap.size w1 w2 := by rw [← hw2]; exact (Below.refl _ w1).alloc (Nat.le_refl _) _
    have hB2 := hB1.trans (hb2.mono hB1.size)
    have bH2 := bH1.kept hb2
    have bS2 := boxed_underP bS1 hb2
    have bE2 := boxed_underP bE1 hb2
    have x0 := bH2.cell 0 (by simp [cellsH])
    have x1 := bH2.cell 1 (by simp [cellsH])
    have x2 := bH2.cell 2 (by simp [cellsH])
    have x3 := bH2.cell 3 (by simp [cellsH])
    simp only [cellsH, List.getElem_cons_zero, List.getElem_cons_succ] at x0 x1 x2 x3
    clear hb2 bH1 bS1 bE1 hB1
    gi_wp2_with fail
    refine ⟨trivial, (callsIn_wide.2 (hBeg w2 (hw.below hB2))).mono ?_⟩
    rintro e w3 ⟨rfl, hb3⟩
    have hB3 := hB2.trans (hb3.mono hB2.size)
    have bH3 := bH2.kept hb3
    have bS3 := boxed_underP bS2 hb3
    have bE3 := boxed_underP bE2 hb3
    have hbu3 := isBuilder_below hbu hb3
    have hsz2 : w1.heap.size < w2.heap.size := by rw [← hw2]; simp
    have hsz3 : w2.heap.size ≤ w3.heap.size := hb3.size
    clear hBeg hw2 x0 x1 x2 x3 hb3 bH2 bS2 bE2 hB2 hbu
    gi_wp2_with fail
    refine ⟨trivial, (callsIn_wide.2 (writeString_keeps w1.heap.size w1.heap.size [] bg w3 hbu3 (by have := HBs.out; simp; omega) (by omega))).mono ?_⟩
    rintro e w4 ⟨rfl, hbu4, hb4, hk4⟩
    have hB4 := hB3.trans (hb4.mono (by omega))
    have bH4 := hk4.bx bH3 rfl
    have bS4 := hk4.boxed bS3 rfl
    have bE4 := hk4.boxed bE3 rfl
    have hsz4 : w3.heap.size ≤ w4.heap.size := hb4.size
    have x0 := bH4.cell 0 (by simp [cellsH])
    have x1 := bH4.cell 1 (by simp [cellsH])
    have x2 := bH4.cell 2 (by simp [cellsH])
    have x3 := bH4.cell 3 (by simp [cellsH])
    simp only [cellsH, List.getElem_cons_zero, List.getElem_cons_succ] at x0 x1 x2 x3
    rw [List.nil_append] at hbu4
    clear hb4 hk4 hbu3 bH3 bS3 bE3 hB3
    gi_wp2_with fail
    refine ⟨trivial, (hPr w4).mono ?_⟩
    rintro e w' ⟨rfl, rfl⟩
    clear hPr x0 x1 x2 x3
    obtain ⟨w5, hw5⟩ : ∃ w5, w4.alloc (.cells (cellsH h A cap).toArray 27) = w5 := ⟨_, rfl⟩
    have bP : Bx w5 w4.heap.size 27 (cellsH h A cap) := by rw [← hw5]; exact Bx.new w4 _ _
    have hb5 : Below w4.heap.size w4 w5 := by rw [← hw5]; exact (Below.refl _ w4).alloc (Nat.le_refl _) _
    have hB5 := hB4.trans (hb5.mono hB4.size)
    have bS5 := boxed_underP bS4 hb5
    have bE5 := boxed_underP bE4 hb5
    have hbu5 := isBuilder_below hbu4 hb5
    have hsz5 : w5.heap.size = w4.heap.size + 1 := by rw [← hw5]; simp
    rw [hw5]
    clear hw5 hb5 hB4 bS4 bE4 hbu4 bH4
    gi_wp2_with fail
    have hf := hh.2.1
    refine wpIn_range_through (by decide) (gf := 40) (lb := #[.pointer (some ⟨w4.heap.size, 0, none⟩)]) rfl (enters_of Tryd.func40 (by kernel_rfl) rfl)
      (props1_through h A cap w4.heap.size w5 hf.1 hf.2 HOk.out.2.2 bP) (Below.refl _ _) (fun _ => rfl) (fun h k => h.trans k) (fun B W l o o' hl ho hc => Kept.put ho hc hl o')
      (fun pre Y => BI h bg w w1.heap.size w5.heap.size pre Y) (fun pre Y => BX h w pre Y)
      (BI_ab hB5.size) (BX_ab hB5.size)
      ⟨rfl, Nat.zero_le _, by rw [show bg ++ catP (gl h.l []) = bg from ba_append_e bg]; exact hbu5, bS5, bE5, hB5, Nat.le_refl _⟩
      (fun x a' => a' = { tmps := #[.agg #[.int .i64 h.c, .int .u64 h.z, .int .u64 h.f, .slice A h.l.length cap], .pointer (some ⟨w.heap.size, 0, none⟩), .pointer (some ⟨w.heap.size + 1, 0, none⟩), .pointer (some ⟨w.heap.size + 1 + 1, 0, none⟩), .int .i64 0, .pointer (some ⟨w1.heap.size, 0, none⟩), .int .i64 (x.1.1 : Int), .func (.func 42) #[encP h A cap x.2] #[], undef, undef, .agg #[.int .i64 h.c, .int .u64 h.z, .int .u64 h.f, .slice A h.l.length cap], .int .i64 0, .int .i64 0, .bool false, undef, .agg #[.int .i64 h.c, .int .u64 h.z, .int .u64 h.f, .slice A h.l.length cap], .string bg, .tuple #[.int .i64 bg.size, .nilIface], .agg #[.int .i64 h.c, .int .u64 h.z, .int .u64 h.f, .slice A h.l.length cap], .func (.func 40) #[] #[.pointer (some ⟨w4.heap.size, 0, none⟩)], .int .i64 (x.1.1 : Int), .func (.func 42) #[encP h A cap x.2] #[], undef, undef, undef, undef, undef, undef, undef, undef, undef, undef, undef, undef, undef, undef], defers := [] }) ?assign ?body ?done ?stop
    case assign =>
      intro l pre x W K _ hK
      have hKk := hK _ rfl
      clear hK
      unfold encsP
      gi_wp2
      exact hKk
    case body =>
      rintro l pre x a' X hI rfl ⟨hx1, hx2⟩
      have HP := Lib.hid hI
      have HX1 := Lib.hid hx1
      clear hx1
      have hBX := hI.bel
      have hV := pvalue_any h A cap x.2 hx2 X.drew (vals_drew (hA.below hBX))
      have hwv : wfV h.l[x.2] := hh.2.2 _ (List.getElem_mem hx2)
      have hL : ∀ w6, Below X.drew.heap.size X.drew w6 → _ := fun w6 hb6 => play_any x.1 h.l[x.2] w6 (hw.below (hBX.trans ((below_undrew hb6).mono hBX.size))) hwv
      have HG : Hid (gl h.l (pre ++ [x]) = gl h.l pre ++ [(pLet x.1, h.l[x.2])]) := Lib.hid (by rw [gl_snoc, List.getD_eq_getElem?_getD, List.getElem?_eq_getElem hx2]; rfl)
      have hidx := index_let x.1
      have HV : Hid (vRes (pLet x.1) h.l[x.2] = if vE (pLet x.1) h.l[x.2] = 0 then vB (pLet x.1) h.l[x.2] else ⟨#[]⟩) := Lib.hid rfl
      have HVz : Hid (vE (pLet x.1) h.l[x.2] = 0 → (vB (pLet x.1) h.l[x.2]).size ≤ 4294967400) := Lib.hid vB_size
      have HE : Hid (vE (pLet x.1) h.l[x.2] = vE (pLet x.1) h.l[x.2]) := Lib.hid rfl
      generalize hve : vE (pLet x.1) h.l[x.2] = ve at hL HV HVz HE
      have HVE := Lib.hid hve
      clear hve HE
      generalize hvb : vB (pLet x.1) h.l[x.2] = vb at HV HVz
      have HVB := Lib.hid hvb
      clear hvb
      generalize vRes (pLet x.1) h.l[x.2] = vr at hL HV
      generalize hltt : ((pLet x.1).toNat : Int) = lt at hL hidx
      clear hltt
      unfold encV at hV hL
      generalize h.l[x.2].n = vn at hV hL
      generalize h.l[x.2].s = vs at hV hL
      have hmo : Tryd.prog.follows .mixedOrders = true := by kernel_rfl
      unfold encP at hV ⊢
      clear hI
      gi_wp2_with fail
      rename_i Kx hKx
      have hend : ∀ w7, Below X.heap.size X w7 → Kx { tmps := #[.agg #[.int .i64 h.c, .int .u64 h.z, .int .u64 h.f, .slice A h.l.length cap], .pointer (some ⟨w.heap.size, 0, none⟩), .pointer (some ⟨w.heap.size + 1, 0, none⟩), .pointer (some ⟨w.heap.size + 1 + 1, 0, none⟩), .int .i64 0, .pointer (some ⟨w1.heap.size, 0, none⟩), .int .i64 (x.1.1 : Int), .func (.func 42) #[.agg #[.int .i64 h.c, .int .u64 h.z, .int .u64 h.f, .slice A h.l.length cap, .int .i64 (x.2 : Int)]] #[], .string vr, .int .i64 ve, .agg #[.int .i64 h.c, .int .u64 h.z, .int .u64 h.f, .slice A h.l.length cap], .int .i64 0, .int .i64 0, .bool false, undef, .agg #[.int .i64 h.c, .int .u64 h.z, .int .u64 h.f, .slice A h.l.length cap], .string bg, .tuple #[.int .i64 bg.size, .nilIface], .agg #[.int .i64 h.c, .int .u64 h.z, .int .u64 h.f, .slice A h.l.length cap], .func (.func 40) #[] #[.pointer (some ⟨w4.heap.size, 0, none⟩)], .int .i64 (x.1.1 : Int), .func (.func 42) #[.agg #[.int .i64 h.c, .int .u64 h.z, .int .u64 h.f, .slice A h.l.length cap, .int .i64 (x.2 : Int)]] #[], .tuple #[.string vr, .int .i64 ve], .int .i64 (x.1.1 : Int), .int .u8 lt, .func (.func 42) #[.agg #[.int .i64 h.c, .int .u64 h.z, .int .u64 h.f, .slice A h.l.length cap, .int .i64 (x.2 : Int)]] #[], .agg #[.int .u64 vn, .string vs], .tuple #[.string vr, .int .i64 ve], .string vr, .int .i64 ve, undef, undef, undef, undef, undef, undef], defers := [] } w7 := by
        intro w7 hb7
        have hI7 := HP.out.below hb7
        have cS := hI7.str.cell
        have fS := hI7.str.frozen
        refine hKx _ _ ?_
        clear hKx Kx
        by_cases hv0 : ve = 0
        · subst hv0
          have hvr : vr = vb := by rw [HV.out, if_pos rfl]
          subst hvr
          have hvz := HVz.out rfl
          have hW := writeString_keeps w1.heap.size w1.heap.size _ vr w7 hI7.bu (BI_room hI7 HBs.out hx2 HX1.out (by have := wh_le h.f; have := HOk.out.2.2; omega) hvz) (by have := hI7.big; have := hb7.size; omega)
          clear HV HVz hV hL hidx
          gi_wp2_with fail
          refine ⟨trivial, (CallsIn.inRound l (callsIn_wide.2 hW)).mono ?_⟩
          rintro e w8 ⟨rfl, hbu8, hb8, hk8⟩
          have hkk : Keeps itTypes X w8 := (Keeps.below hb7).trans (keeps_it hk8)
          have hss : X.heap.size ≤ w8.heap.size := Nat.le_trans hb7.size hb8.size
          gi_wp2
          refine ⟨⟨hss, fun k o _ h1 h2 => hkk k o h1 (not_cells_q h2)⟩, Kept.of hss hkk, ?_⟩
          have hg := HG.out
          refine ⟨?_, ?_, ?_, hk8.boxed hI7.str rfl, hk8.boxed hI7.err rfl, hI7.bel.trans (hb8.mono (by omega)), Nat.le_trans hI7.big hb8.size⟩
          · rw [hg, erP_snoc, if_pos hI7.ok, HVE.out]
          · rw [List.length_append, List.length_singleton]; have := HX1.out; omega
          · rw [hg, catP_snoc, HVB.out, ← ByteArray.append_assoc]
            rw [strCells_appendP] at hbu8
            exact hbu8
        · have tv : (ve != 0) = true := by simpa using hv0
          have hne : w.heap.size + 1 + 1 ≠ w.heap.size + 1 := by omega
          have cE : ∀ v, (w7.setCell ⟨w.heap.size + 1, 0, none⟩ v).cell? ⟨w.heap.size + 1 + 1, 0, none⟩ = some (.int .i64 0) := fun v => (hI7.err.other hne v).cell
          have fE : ∀ v, (w7.setCell ⟨w.heap.size + 1, 0, none⟩ v).frozen? ⟨w.heap.size + 1 + 1, 0, none⟩ = false := fun v => (hI7.err.other hne v).frozen
          have HX : Hid (BX h w (pre ++ [x]) ((w7.setCell ⟨w.heap.size + 1, 0, none⟩ (.string ⟨#[]⟩)).setCell ⟨w.heap.size + 1 + 1, 0, none⟩ (.int .i64 ve))) := Lib.hid (by
            have e : erP (gl h.l (pre ++ [x])) = ve := by rw [HG.out, erP_snoc, if_pos hI7.ok, HVE.out]
            refine ⟨by rw [e]; exact hv0, (hI7.str.set _).other hne.symm _, by rw [e]; exact (hI7.err.other hne _).set _, (hI7.bel.setCell (p := ⟨w.heap.size + 1, 0, none⟩) (by simp) _).setCell (p := ⟨w.heap.size + 1 + 1, 0, none⟩) (by simp; omega) _⟩)
          have hkk : Keeps itTypes X ((w7.setCell ⟨w.heap.size + 1, 0, none⟩ (.string ⟨#[]⟩)).setCell ⟨w.heap.size + 1 + 1, 0, none⟩ (.int .i64 ve)) :=
            ((Keeps.below hb7).trans (Keeps.setCell hI7.str (by decide) 0 _)).trans (Keeps.setCell (hI7.err.other hne _) (by decide) 0 _)
          have hss : X.heap.size ≤ ((w7.setCell ⟨w.heap.size + 1, 0, none⟩ (.string ⟨#[]⟩)).setCell ⟨w.heap.size + 1 + 1, 0, none⟩ (.int .i64 ve)).heap.size := by simpa using hb7.size
          clear HV HVz hV hL hidx
          gi_wp2
          exact ⟨⟨hss, fun k o _ h1 h2 => hkk k o h1 (not_cells_q h2)⟩, Kept.of hss hkk, HX.out⟩
      clear hKx
      refine wpIn_region_any hmo ?_
      change wpAnyIn _ _ _ _ _ _ 10 #[false, false, false, false, false, false, false, false, false, false] _ (World.drew _)
      refine wpAnyIn_ready (rs := [0, 2]) (by kernel_rfl) (by simp) (AllReadyIn.cons rfl (fun K hK => ?_) (AllReadyIn.cons rfl (fun K hK => ?_) AllReadyIn.nil))
      · go_simp
        refine hK _ _ ?_
        clear hK K
        refine wpAnyIn_ready (rs := [1, 2]) (by kernel_rfl) (by simp) (AllReadyIn.cons rfl (fun K hK => ?_) (AllReadyIn.cons rfl (fun K hK => ?_) AllReadyIn.nil))
        · go_simp
          refine hK _ _ ?_
          clear hK K
          refine wpAnyIn_ready (rs := [2]) (by kernel_rfl) (by simp) (AllReadyIn.cons rfl (fun K hK => ?_) AllReadyIn.nil)
          go_simp
          refine hK _ _ ?_
          clear hK K
          refine wpAnyIn_ready (rs := [3]) (by kernel_rfl) (by simp) (AllReadyIn.cons rfl (fun K hK => ?_) AllReadyIn.nil)
          go_simp
          refine ⟨trivial, (CallsIn.inRound l (callsIn_wide.2 hV)).mono ?_⟩
          rintro e w6 ⟨rfl, hb6⟩
          refine hK _ _ ?_
          clear hK K
          refine wpAnyIn_ready (rs := [4]) (by kernel_rfl) (by simp) (AllReadyIn.cons rfl (fun K hK => ?_) AllReadyIn.nil)
          go_simp
          refine ⟨trivial, (CallsIn.inRound l (callsIn_wide.2 (hL w6 hb6))).mono ?_⟩
          rintro e w7 ⟨rfl, hb7⟩
          refine hK _ _ ?_
          clear hK K
          refine wpAnyIn_ready (rs := [5]) (by kernel_rfl) (by simp) (AllReadyIn.cons rfl (fun K hK => ?_) AllReadyIn.nil)
          go_simp
          refine hK _ _ ?_
          clear hK K
          refine wpAnyIn_ready (rs := [6, 7]) (by kernel_rfl) (by simp) (AllReadyIn.cons rfl (fun K hK => ?_) (AllReadyIn.cons rfl (fun K hK => ?_) AllReadyIn.nil))
          · go_simp
            refine hK _ _ ?_
            clear hK K
            refine wpAnyIn_ready (rs := [7, 8]) (by kernel_rfl) (by simp) (AllReadyIn.cons rfl (fun K hK => ?_) (AllReadyIn.cons rfl (fun K hK => ?_) AllReadyIn.nil))
            · go_simp
              refine hK _ _ ?_
              clear hK K
              refine wpAnyIn_ready (rs := [8]) (by kernel_rfl) (by simp) (AllReadyIn.cons rfl (fun K hK => ?_) AllReadyIn.nil)
              go_simp
              refine hK _ _ ?_
              clear hK K
              refine wpAnyIn_ready (rs := [9]) (by kernel_rfl) (by simp) (AllReadyIn.cons rfl (fun K hK => ?_) AllReadyIn.nil)
              go_simp
              refine hK _ _ ?_
              clear hK K
              refine wpAnyIn_done (by kernel_rfl) ?_ _
              exact hend _ (below_undrew (hb6.trans (hb7.mono hb6.size)))
            · go_simp
              refine hK _ _ ?_
              clear hK K
              refine wpAnyIn_ready (rs := [7]) (by kernel_rfl) (by simp) (AllReadyIn.cons rfl (fun K hK => ?_) AllReadyIn.nil)
              go_simp
              refine hK _ _ ?_
              clear hK K
              refine wpAnyIn_ready (rs := [9]) (by kernel_rfl) (by simp) (AllReadyIn.cons rfl (fun K hK => ?_) AllReadyIn.nil)
              go_simp
              refine hK _ _ ?_
              clear hK K
              refine wpAnyIn_done (by kernel_rfl) ?_ _
              exact hend _ (below_undrew (hb6.trans (hb7.mono hb6.size)))
          · go_simp
            refine hK _ _ ?_
            clear hK K
            refine wpAnyIn_ready (rs := [6]) (by kernel_rfl) (by simp) (AllReadyIn.cons rfl (fun K hK => ?_) AllReadyIn.nil)
            go_simp
            refine hK _ _ ?_
            clear hK K
            refine wpAnyIn_ready (rs := [8]) (by kernel_rfl) (by simp) (AllReadyIn.cons rfl (fun K hK => ?_) AllReadyIn.nil)
            go_simp
            refine hK _ _ ?_
            clear hK K
            refine wpAnyIn_ready (rs := [9]) (by kernel_rfl) (by simp) (AllReadyIn.cons rfl (fun K hK => ?_) AllReadyIn.nil)
            go_simp
            refine hK _ _ ?_
            clear hK K
            refine wpAnyIn_done (by kernel_rfl) ?_ _
            exact hend _ (below_undrew (hb6.trans (hb7.mono hb6.size)))
        · go_simp
          refine hK _ _ ?_
          clear hK K
          refine wpAnyIn_ready (rs := [1, 3]) (by kernel_rfl) (by simp) (AllReadyIn.cons rfl (fun K hK => ?_) (AllReadyIn.cons rfl (fun K hK => ?_) AllReadyIn.nil))
          · go_simp
            refine hK _ _ ?_
            clear hK K
            refine wpAnyIn_ready (rs := [3]) (by kernel_rfl) (by simp) (AllReadyIn.cons rfl (fun K hK => ?_) AllReadyIn.nil)
            go_simp
            refine ⟨trivial, (CallsIn.inRound l (callsIn_wide.2 hV)).mono ?_⟩
            rintro e w6 ⟨rfl, hb6⟩
            refine hK _ _ ?_
            clear hK K
            refine wpAnyIn_ready (rs := [4]) (by kernel_rfl) (by simp) (AllReadyIn.cons rfl (fun K hK => ?_) AllReadyIn.nil)
            go_simp
            refine ⟨trivial, (CallsIn.inRound l (callsIn_wide.2 (hL w6 hb6))).mono ?_⟩
            rintro e w7 ⟨rfl, hb7⟩
            refine hK _ _ ?_
            clear hK K
            refine wpAnyIn_ready (rs := [5]) (by kernel_rfl) (by simp) (AllReadyIn.cons rfl (fun K hK => ?_) AllReadyIn.nil)
            go_simp
            refine hK _ _ ?_
            clear hK K
            refine wpAnyIn_ready (rs := [6, 7]) (by kernel_rfl) (by simp) (AllReadyIn.cons rfl (fun K hK => ?_) (AllReadyIn.cons rfl (fun K hK => ?_) AllReadyIn.nil))
            · go_simp
              refine hK _ _ ?_
              clear hK K
              refine wpAnyIn_ready (rs := [7, 8]) (by kernel_rfl) (by simp) (AllReadyIn.cons rfl (fun K hK => ?_) (AllReadyIn.cons rfl (fun K hK => ?_) AllReadyIn.nil))
              · go_simp
                refine hK _ _ ?_
                clear hK K
                refine wpAnyIn_ready (rs := [8]) (by kernel_rfl) (by simp) (AllReadyIn.cons rfl (fun K hK => ?_) AllReadyIn.nil)
                go_simp
                refine hK _ _ ?_
                clear hK K
                refine wpAnyIn_ready (rs := [9]) (by kernel_rfl) (by simp) (AllReadyIn.cons rfl (fun K hK => ?_) AllReadyIn.nil)
                go_simp
                refine hK _ _ ?_
                clear hK K
                refine wpAnyIn_done (by kernel_rfl) ?_ _
                exact hend _ (below_undrew (hb6.trans (hb7.mono hb6.size)))
              · go_simp
                refine hK _ _ ?_
                clear hK K
                refine wpAnyIn_ready (rs := [7]) (by kernel_rfl) (by simp) (AllReadyIn.cons rfl (fun K hK => ?_) AllReadyIn.nil)
                go_simp
                refine hK _ _ ?_
                clear hK K
                refine wpAnyIn_ready (rs := [9]) (by kernel_rfl) (by simp) (AllReadyIn.cons rfl (fun K hK => ?_) AllReadyIn.nil)
                go_simp
                refine hK _ _ ?_
                clear hK K
                refine wpAnyIn_done (by kernel_rfl) ?_ _
                exact hend _ (below_undrew (hb6.trans (hb7.mono hb6.size)))
            · go_simp
              refine hK _ _ ?_
              clear hK K
              refine wpAnyIn_ready (rs := [6]) (by kernel_rfl) (by simp) (AllReadyIn.cons rfl (fun K hK => ?_) AllReadyIn.nil)
              go_simp
              refine hK _ _ ?_
              clear hK K
              refine wpAnyIn_ready (rs := [8]) (by kernel_rfl) (by simp) (AllReadyIn.cons rfl (fun K hK => ?_) AllReadyIn.nil)
              go_simp
              refine hK _ _ ?_
              clear hK K
              refine wpAnyIn_ready (rs := [9]) (by kernel_rfl) (by simp) (AllReadyIn.cons rfl (fun K hK => ?_) AllReadyIn.nil)
              go_simp
              refine hK _ _ ?_
              clear hK K
              refine wpAnyIn_done (by kernel_rfl) ?_ _
              exact hend _ (below_undrew (hb6.trans (hb7.mono hb6.size)))
          · go_simp
            refine ⟨trivial, (CallsIn.inRound l (callsIn_wide.2 hV)).mono ?_⟩
            rintro e w6 ⟨rfl, hb6⟩
            refine hK _ _ ?_
            clear hK K
            refine wpAnyIn_ready (rs := [1]) (by kernel_rfl) (by simp) (AllReadyIn.cons rfl (fun K hK => ?_) AllReadyIn.nil)
            go_simp
            refine hK _ _ ?_
            clear hK K
            refine wpAnyIn_ready (rs := [4]) (by kernel_rfl) (by simp) (AllReadyIn.cons rfl (fun K hK => ?_) AllReadyIn.nil)
            go_simp
            refine ⟨trivial, (CallsIn.inRound l (callsIn_wide.2 (hL w6 hb6))).mono ?_⟩
            rintro e w7 ⟨rfl, hb7⟩
            refine hK _ _ ?_
            clear hK K
            refine wpAnyIn_ready (rs := [5]) (by kernel_rfl) (by simp) (AllReadyIn.cons rfl (fun K hK => ?_) AllReadyIn.nil)
            go_simp
            refine hK _ _ ?_
            clear hK K
            refine wpAnyIn_ready (rs := [6, 7]) (by kernel_rfl) (by simp) (AllReadyIn.cons rfl (fun K hK => ?_) (AllReadyIn.cons rfl (fun K hK => ?_) AllReadyIn.nil))
            · go_simp
              refine hK _ _ ?_
              clear hK K
              refine wpAnyIn_ready (rs := [7, 8]) (by kernel_rfl) (by simp) (AllReadyIn.cons rfl (fun K hK => ?_) (AllReadyIn.cons rfl (fun K hK => ?_) AllReadyIn.nil))
              · go_simp
                refine hK _ _ ?_
                clear hK K
                refine wpAnyIn_ready (rs := [8]) (by kernel_rfl) (by simp) (AllReadyIn.cons rfl (fun K hK => ?_) AllReadyIn.nil)
                go_simp
                refine hK _ _ ?_
                clear hK K
                refine wpAnyIn_ready (rs := [9]) (by kernel_rfl) (by simp) (AllReadyIn.cons rfl (fun K hK => ?_) AllReadyIn.nil)
                go_simp
                refine hK _ _ ?_
                clear hK K
                refine wpAnyIn_done (by kernel_rfl) ?_ _
                exact hend _ (below_undrew (hb6.trans (hb7.mono hb6.size)))
              · go_simp
                refine hK _ _ ?_
                clear hK K
                refine wpAnyIn_ready (rs := [7]) (by kernel_rfl) (by simp) (AllReadyIn.cons rfl (fun K hK => ?_) AllReadyIn.nil)
                go_simp
                refine hK _ _ ?_
                clear hK K
                refine wpAnyIn_ready (rs := [9]) (by kernel_rfl) (by simp) (AllReadyIn.cons rfl (fun K hK => ?_) AllReadyIn.nil)
                go_simp
                refine hK _ _ ?_
                clear hK K
                refine wpAnyIn_done (by kernel_rfl) ?_ _
                exact hend _ (below_undrew (hb6.trans (hb7.mono hb6.size)))
            · go_simp
              refine hK _ _ ?_
              clear hK K
              refine wpAnyIn_ready (rs := [6]) (by kernel_rfl) (by simp) (AllReadyIn.cons rfl (fun K hK => ?_) AllReadyIn.nil)
              go_simp
              refine hK _ _ ?_
              clear hK K
              refine wpAnyIn_ready (rs := [8]) (by kernel_rfl) (by simp) (AllReadyIn.cons rfl (fun K hK => ?_) AllReadyIn.nil)
              go_simp
              refine hK _ _ ?_
              clear hK K
              refine wpAnyIn_ready (rs := [9]) (by kernel_rfl) (by simp) (AllReadyIn.cons rfl (fun K hK => ?_) AllReadyIn.nil)
              go_simp
              refine hK _ _ ?_
              clear hK K
              refine wpAnyIn_done (by kernel_rfl) ?_ _
              exact hend _ (below_undrew (hb6.trans (hb7.mono hb6.size)))
      · go_simp
        refine hK _ _ ?_
        clear hK K
        refine wpAnyIn_ready (rs := [0, 3]) (by kernel_rfl) (by simp) (AllReadyIn.cons rfl (fun K hK => ?_) (AllReadyIn.cons rfl (fun K hK => ?_) AllReadyIn.nil))
        · go_simp
          refine hK _ _ ?_
          clear hK K
          refine wpAnyIn_ready (rs := [1, 3]) (by kernel_rfl) (by simp) (AllReadyIn.cons rfl (fun K hK => ?_) (AllReadyIn.cons rfl (fun K hK => ?_) AllReadyIn.nil))
          · go_simp
            refine hK _ _ ?_
            clear hK K
            refine wpAnyIn_ready (rs := [3]) (by kernel_rfl) (by simp) (AllReadyIn.cons rfl (fun K hK => ?_) AllReadyIn.nil)
            go_simp
            refine ⟨trivial, (CallsIn.inRound l (callsIn_wide.2 hV)).mono ?_⟩
            rintro e w6 ⟨rfl, hb6⟩
            refine hK _ _ ?_
            clear hK K
            refine wpAnyIn_ready (rs := [4]) (by kernel_rfl) (by simp) (AllReadyIn.cons rfl (fun K hK => ?_) AllReadyIn.nil)
            go_simp
            refine ⟨trivial, (CallsIn.inRound l (callsIn_wide.2 (hL w6 hb6))).mono ?_⟩
            rintro e w7 ⟨rfl, hb7⟩
            refine hK _ _ ?_
            clear hK K
            refine wpAnyIn_ready (rs := [5]) (by kernel_rfl) (by simp) (AllReadyIn.cons rfl (fun K hK => ?_) AllReadyIn.nil)
            go_simp
            refine hK _ _ ?_
            clear hK K
            refine wpAnyIn_ready (rs := [6, 7]) (by kernel_rfl) (by simp) (AllReadyIn.cons rfl (fun K hK => ?_) (AllReadyIn.cons rfl (fun K hK => ?_) AllReadyIn.nil))
            · go_simp
              refine hK _ _ ?_
              clear hK K
              refine wpAnyIn_ready (rs := [7, 8]) (by kernel_rfl) (by simp) (AllReadyIn.cons rfl (fun K hK => ?_) (AllReadyIn.cons rfl (fun K hK => ?_) AllReadyIn.nil))
              · go_simp
                refine hK _ _ ?_
                clear hK K
                refine wpAnyIn_ready (rs := [8]) (by kernel_rfl) (by simp) (AllReadyIn.cons rfl (fun K hK => ?_) AllReadyIn.nil)
                go_simp
                refine hK _ _ ?_
                clear hK K
                refine wpAnyIn_ready (rs := [9]) (by kernel_rfl) (by simp) (AllReadyIn.cons rfl (fun K hK => ?_) AllReadyIn.nil)
                go_simp
                refine hK _ _ ?_
                clear hK K
                refine wpAnyIn_done (by kernel_rfl) ?_ _
                exact hend _ (below_undrew (hb6.trans (hb7.mono hb6.size)))
              · go_simp
                refine hK _ _ ?_
                clear hK K
                refine wpAnyIn_ready (rs := [7]) (by kernel_rfl) (by simp) (AllReadyIn.cons rfl (fun K hK => ?_) AllReadyIn.nil)
                go_simp
                refine hK _ _ ?_
                clear hK K
                refine wpAnyIn_ready (rs := [9]) (by kernel_rfl) (by simp) (AllReadyIn.cons rfl (fun K hK => ?_) AllReadyIn.nil)
                go_simp
                refine hK _ _ ?_
                clear hK K
                refine wpAnyIn_done (by kernel_rfl) ?_ _
                exact hend _ (below_undrew (hb6.trans (hb7.mono hb6.size)))
            · go_simp
              refine hK _ _ ?_
              clear hK K
              refine wpAnyIn_ready (rs := [6]) (by kernel_rfl) (by simp) (AllReadyIn.cons rfl (fun K hK => ?_) AllReadyIn.nil)
              go_simp
              refine hK _ _ ?_
              clear hK K
              refine wpAnyIn_ready (rs := [8]) (by kernel_rfl) (by simp) (AllReadyIn.cons rfl (fun K hK => ?_) AllReadyIn.nil)
              go_simp
              refine hK _ _ ?_
              clear hK K
              refine wpAnyIn_ready (rs := [9]) (by kernel_rfl) (by simp) (AllReadyIn.cons rfl (fun K hK => ?_) AllReadyIn.nil)
              go_simp
              refine hK _ _ ?_
              clear hK K
              refine wpAnyIn_done (by kernel_rfl) ?_ _
              exact hend _ (below_undrew (hb6.trans (hb7.mono hb6.size)))
          · go_simp
            refine ⟨trivial, (CallsIn.inRound l (callsIn_wide.2 hV)).mono ?_⟩
            rintro e w6 ⟨rfl, hb6⟩
            refine hK _ _ ?_
            clear hK K
            refine wpAnyIn_ready (rs := [1]) (by kernel_rfl) (by simp) (AllReadyIn.cons rfl (fun K hK => ?_) AllReadyIn.nil)
            go_simp
            refine hK _ _ ?_
            clear hK K
            refine wpAnyIn_ready (rs := [4]) (by kernel_rfl) (by simp) (AllReadyIn.cons rfl (fun K hK => ?_) AllReadyIn.nil)
            go_simp
            refine ⟨trivial, (CallsIn.inRound l (callsIn_wide.2 (hL w6 hb6))).mono ?_⟩
            rintro e w7 ⟨rfl, hb7⟩
            refine hK _ _ ?_
            clear hK K
            refine wpAnyIn_ready (rs := [5]) (by kernel_rfl) (by simp) (AllReadyIn.cons rfl (fun K hK => ?_) AllReadyIn.nil)
            go_simp
            refine hK _ _ ?_
            clear hK K
            refine wpAnyIn_ready (rs := [6, 7]) (by kernel_rfl) (by simp) (AllReadyIn.cons rfl (fun K hK => ?_) (AllReadyIn.cons rfl (fun K hK => ?_) AllReadyIn.nil))
            · go_simp
              refine hK _ _ ?_
              clear hK K
              refine wpAnyIn_ready (rs := [7, 8]) (by kernel_rfl) (by simp) (AllReadyIn.cons rfl (fun K hK => ?_) (AllReadyIn.cons rfl (fun K hK => ?_) AllReadyIn.nil))
              · go_simp
                refine hK _ _ ?_
                clear hK K
                refine wpAnyIn_ready (rs := [8]) (by kernel_rfl) (by simp) (AllReadyIn.cons rfl (fun K hK => ?_) AllReadyIn.nil)
                go_simp
                refine hK _ _ ?_
                clear hK K
                refine wpAnyIn_ready (rs := [9]) (by kernel_rfl) (by simp) (AllReadyIn.cons rfl (fun K hK => ?_) AllReadyIn.nil)
                go_simp
                refine hK _ _ ?_
                clear hK K
                refine wpAnyIn_done (by kernel_rfl) ?_ _
                exact hend _ (below_undrew (hb6.trans (hb7.mono hb6.size)))
              · go_simp
                refine hK _ _ ?_
                clear hK K
                refine wpAnyIn_ready (rs := [7]) (by kernel_rfl) (by simp) (AllReadyIn.cons rfl (fun K hK => ?_) AllReadyIn.nil)
                go_simp
                refine hK _ _ ?_
                clear hK K
                refine wpAnyIn_ready (rs := [9]) (by kernel_rfl) (by simp) (AllReadyIn.cons rfl (fun K hK => ?_) AllReadyIn.nil)
                go_simp
                refine hK _ _ ?_
                clear hK K
                refine wpAnyIn_done (by kernel_rfl) ?_ _
                exact hend _ (below_undrew (hb6.trans (hb7.mono hb6.size)))
            · go_simp
              refine hK _ _ ?_
              clear hK K
              refine wpAnyIn_ready (rs := [6]) (by kernel_rfl) (by simp) (AllReadyIn.cons rfl (fun K hK => ?_) AllReadyIn.nil)
              go_simp
              refine hK _ _ ?_
              clear hK K
              refine wpAnyIn_ready (rs := [8]) (by kernel_rfl) (by simp) (AllReadyIn.cons rfl (fun K hK => ?_) AllReadyIn.nil)
              go_simp
              refine hK _ _ ?_
              clear hK K
              refine wpAnyIn_ready (rs := [9]) (by kernel_rfl) (by simp) (AllReadyIn.cons rfl (fun K hK => ?_) AllReadyIn.nil)
              go_simp
              refine hK _ _ ?_
              clear hK K
              refine wpAnyIn_done (by kernel_rfl) ?_ _
              exact hend _ (below_undrew (hb6.trans (hb7.mono hb6.size)))
        · go_simp
          refine ⟨trivial, (CallsIn.inRound l (callsIn_wide.2 hV)).mono ?_⟩
          rintro e w6 ⟨rfl, hb6⟩
          refine hK _ _ ?_
          clear hK K
          refine wpAnyIn_ready (rs := [0]) (by kernel_rfl) (by simp) (AllReadyIn.cons rfl (fun K hK => ?_) AllReadyIn.nil)
          go_simp
          refine hK _ _ ?_
          clear hK K
          refine wpAnyIn_ready (rs := [1]) (by kernel_rfl) (by simp) (AllReadyIn.cons rfl (fun K hK => ?_) AllReadyIn.nil)
          go_simp
          refine hK _ _ ?_
          clear hK K
          refine wpAnyIn_ready (rs := [4]) (by kernel_rfl) (by simp) (AllReadyIn.cons rfl (fun K hK => ?_) AllReadyIn.nil)
          go_simp
          refine ⟨trivial, (CallsIn.inRound l (callsIn_wide.2 (hL w6 hb6))).mono ?_⟩
          rintro e w7 ⟨rfl, hb7⟩
          refine hK _ _ ?_
          clear hK K
          refine wpAnyIn_ready (rs := [5]) (by kernel_rfl) (by simp) (AllReadyIn.cons rfl (fun K hK => ?_) AllReadyIn.nil)
          go_simp
          refine hK _ _ ?_
          clear hK K
          refine wpAnyIn_ready (rs := [6, 7]) (by kernel_rfl) (by simp) (AllReadyIn.cons rfl (fun K hK => ?_) (AllReadyIn.cons rfl (fun K hK => ?_) AllReadyIn.nil))
          · go_simp
            refine hK _ _ ?_
            clear hK K
            refine wpAnyIn_ready (rs := [7, 8]) (by kernel_rfl) (by simp) (AllReadyIn.cons rfl (fun K hK => ?_) (AllReadyIn.cons rfl (fun K hK => ?_) AllReadyIn.nil))
            · go_simp
              refine hK _ _ ?_
              clear hK K
              refine wpAnyIn_ready (rs := [8]) (by kernel_rfl) (by simp) (AllReadyIn.cons rfl (fun K hK => ?_) AllReadyIn.nil)
              go_simp
              refine hK _ _ ?_
              clear hK K
              refine wpAnyIn_ready (rs := [9]) (by kernel_rfl) (by simp) (AllReadyIn.cons rfl (fun K hK => ?_) AllReadyIn.nil)
              go_simp
              refine hK _ _ ?_
              clear hK K
              refine wpAnyIn_done (by kernel_rfl) ?_ _
              exact hend _ (below_undrew (hb6.trans (hb7.mono hb6.size)))
            · go_simp
              refine hK _ _ ?_
              clear hK K
              refine wpAnyIn_ready (rs := [7]) (by kernel_rfl) (by simp) (AllReadyIn.cons rfl (fun K hK => ?_) AllReadyIn.nil)
              go_simp
              refine hK _ _ ?_
              clear hK K
              refine wpAnyIn_ready (rs := [9]) (by kernel_rfl) (by simp) (AllReadyIn.cons rfl (fun K hK => ?_) AllReadyIn.nil)
              go_simp
              refine hK _ _ ?_
              clear hK K
              refine wpAnyIn_done (by kernel_rfl) ?_ _
              exact hend _ (below_undrew (hb6.trans (hb7.mono hb6.size)))
          · go_simp
            refine hK _ _ ?_
            clear hK K
            refine wpAnyIn_ready (rs := [6]) (by kernel_rfl) (by simp) (AllReadyIn.cons rfl (fun K hK => ?_) AllReadyIn.nil)
            go_simp
            refine hK _ _ ?_
            clear hK K
            refine wpAnyIn_ready (rs := [8]) (by kernel_rfl) (by simp) (AllReadyIn.cons rfl (fun K hK => ?_) AllReadyIn.nil)
            go_simp
            refine hK _ _ ?_
            clear hK K
            refine wpAnyIn_ready (rs := [9]) (by kernel_rfl) (by simp) (AllReadyIn.cons rfl (fun K hK => ?_) AllReadyIn.nil)
            go_simp
            refine hK _ _ ?_
            clear hK K
            refine wpAnyIn_done (by kernel_rfl) ?_ _
            exact hend _ (below_undrew (hb6.trans (hb7.mono hb6.size)))
    case done =>
      rintro D xs Y hD rfl hI hK
      have hall := gl_all h.f h.l HOk.out.2.2
      have hok := hI.ok
      have hbu := hI.bu
      rw [hall] at hok hbu
      have HF : Hid (hB h = bg ++ catP ((hLs h.f).zip h.l) ∧ hE h = 0) := Lib.hid (by
        have e : hE h = 0 := by rw [hE, if_pos HSh.out, ← erP_zip]; exact hok
        exact ⟨by rw [HB.out, if_pos e], e⟩)
      have hne : (bg ++ catP ((hLs h.f).zip h.l)).data.toList ≠ [] := by
        intro e
        have h1 := congrArg List.length e
        rw [ba_len, ByteArray.size_append, HBs.out] at h1
        simp at h1
      have hStr := bString_keeps w1.heap.size w1.heap.size _ Y hbu hne
      have HR : Hid ((⟨(bg ++ catP ((hLs h.f).zip h.l)).data.toList.toArray⟩ : ByteArray) = hB h) := Lib.hid (by rw [HF.out.1])
      rw [HR.out] at hStr
      have HE0 := Lib.hid HF.out.2
      generalize hrb : hB h = rB at hStr
      have HRb := Lib.hid hrb
      clear hrb
      have hstr := hI.str
      have herr := hI.err
      have hbel := hI.bel
      clear HF HR hbu hok hall hne HB
      gi_wp2_with fail
      refine ⟨trivial, (callsIn_wide.2 hStr).mono ?_⟩
      rintro e w8 ⟨rfl, hb8, hk8, hs8⟩
      have st8 := hk8.boxed hstr rfl
      have er8 := hk8.boxed herr rfl
      have hK8 : w8.heap[D]? = some (.deferred (some [])) := hk8 D _ hK (fun _ _ _ e => by cases e)
      have hne : w.heap.size + 1 + 1 ≠ w.heap.size + 1 := by omega
      have hB8 := hbel.trans (hb8.mono (by omega))
      have cS := st8.cell
      have fS := st8.frozen
      have cE : ∀ v, (w8.setCell ⟨w.heap.size + 1, 0, none⟩ v).cell? ⟨w.heap.size + 1 + 1, 0, none⟩ = some (.int .i64 0) := fun v => (er8.other hne v).cell
      have fE : ∀ v, (w8.setCell ⟨w.heap.size + 1, 0, none⟩ v).frozen? ⟨w.heap.size + 1 + 1, 0, none⟩ = false := fun v => (er8.other hne v).frozen
      have HZ : Hid (BZ w D rB 0 ((w8.setCell ⟨w.heap.size + 1, 0, none⟩ (.string rB)).setCell ⟨w.heap.size + 1 + 1, 0, none⟩ (.int .i64 0))) := Lib.hid
        ⟨(st8.set _).other hne.symm _, (er8.other hne _).set _, (hB8.setCell (p := ⟨w.heap.size + 1, 0, none⟩) (by simp) _).setCell (p := ⟨w.heap.size + 1 + 1, 0, none⟩) (by simp; omega) _, ((Keeps.setCell (p := fun _ => false) st8 rfl 0 _).trans (Keeps.setCell (er8.other hne _) rfl 0 _)) D _ hK8 (fun _ _ _ e => by cases e)⟩
      clear hk8 hb8 st8 er8 hK8 hB8 hstr herr hbel hI hStr hK
      gi_wp2
      refine ⟨by simp, .inl ⟨_, _, rfl, run_takeDeferred HZ.out.late, ?_⟩⟩
      refine ⟨.tuple #[.string rB, .int .i64 0], ?_, by rw [HRb.out, HE0.out], HZ.out.bel.trans (belowK_b (w := w) (Nat.le_refl _) _ D _ _ (by omega) HZ.out.late rfl rfl)⟩
      have r1 := boxed_put (.deferred none) HZ.out.str HZ.out.late rfl
      have r2 := boxed_put (.deferred none) HZ.out.err HZ.out.late rfl
      rw [results_cc rfl]
      simp [asAddr, Result.andThen, go_sem, r1, r2]
    case stop =>
      rintro D pre Y hD hSp hX hK
      have hr := gl_pre (l := h.l) hSp
      rw [gl_all h.f h.l HOk.out.2.2] at hr
      have HF : Hid (hB h = ⟨#[]⟩ ∧ hE h = erP (gl h.l pre)) := Lib.hid (by
        have e : hE h = erP (gl h.l pre) := by rw [hE, if_pos HSh.out, ← erP_zip, erP_pre hr hX.bad]
        exact ⟨by rw [HB.out, e, if_neg hX.bad], e⟩)
      gi_wp2
      refine ⟨by simp, .inl ⟨_, _, rfl, run_takeDeferred hK, ?_⟩⟩
      refine ⟨.tuple #[.string (hB h), .int .i64 (hE h)], ?_, rfl, hX.bel.trans (belowK_b (w := w) (Nat.le_refl _) _ D _ _ (by omega) hK rfl rfl)⟩
      have r1 := boxed_put (.deferred none) hX.str hK rfl
      have r2 := boxed_put (.deferred none) hX.err hK rfl
      rw [results_cc rfl, HF.out.1, HF.out.2]
      simp [asAddr, Result.andThen, go_sem, r1, r2]
  · have ts : (shE h != 0) = true := by simpa using hs
    have HF : Hid (hB h = ⟨#[]⟩ ∧ hE h = shE h) := Lib.hid (by
      have e : hE h = shE h := by rw [hE, if_neg hs]
      exact ⟨by rw [hB, e, if_neg hs], e⟩)
    have cS := bS1.cell
    have fS := bS1.frozen
    have cE : ∀ v, (w1.setCell ⟨w.heap.size + 1, 0, none⟩ v).cell? ⟨w.heap.size + 1 + 1, 0, none⟩ = some (.int .i64 0) := fun v => (bE1.other (by omega) v).cell
    have fE : ∀ v, (w1.setCell ⟨w.heap.size + 1, 0, none⟩ v).frozen? ⟨w.heap.size + 1 + 1, 0, none⟩ = false := fun v => (bE1.other (by omega) v).frozen
    have r1 : ∀ v u, ((w1.setCell ⟨w.heap.size + 1, 0, none⟩ v).setCell ⟨w.heap.size + 1 + 1, 0, none⟩ u).cell? ⟨w.heap.size + 1, 0, none⟩ = some v := fun v u => ((bS1.set v).other (by omega) u).cell
    have r2 : ∀ v u, ((w1.setCell ⟨w.heap.size + 1, 0, none⟩ v).setCell ⟨w.heap.size + 1 + 1, 0, none⟩ u).cell? ⟨w.heap.size + 1 + 1, 0, none⟩ = some u := fun v u => ((bE1.other (by omega) v).set u).cell
    have hBF : ∀ v u, Below w.heap.size w ((w1.setCell ⟨w.heap.size + 1, 0, none⟩ v).setCell ⟨w.heap.size + 1 + 1, 0, none⟩ u) := fun v u => (hB1.setCell (p := ⟨w.heap.size + 1, 0, none⟩) (by simp) v).setCell (p := ⟨w.heap.size + 1 + 1, 0, none⟩) (by simp; omega) u
    clear hBeg hPr hs
    gi_wp2
    refine ⟨.tuple #[.string (hB h), .int .i64 (hE h)], ?_, rfl, hBF _ _⟩
    rw [results_cc rfl, HF.out.1, HF.out.2]
    simp [asAddr, Result.andThen, go_sem, r1, r2]
end Go.Proofs.YtdgidbiolklneaaDoor
