/-
  PropsTwo's walk: two properties that are set hang on no order; one that is set twice has the later value. Conditions: the package num's table of widths holds 1, 2, 4, 8; the values lie in old memory, each number a uint64, each text shorter than 2^47 bytes.
-/
import Derived.Test.YtjpldfkhacchdaaDoorJSetL
import Derived.Test.YtjpldfkhacchdaaDoorJPSame
namespace Go.Proofs.YtjpldfkhacchdaaDoor
open Go.RowKit

/-- values lie in no block of four cells that hold no text -/
theorem vals_head4 {W : World} {B : Nat} {t : TypeId} {c z f : Int} {C : Option Addr} {n cp : Nat} (hB : Bx W B t [.int .i64 c, .int .u64 z, .int .u64 f, .slice C n cp]) {A : Option Addr} {m : List MV} (h : ValsAt W A (rowV m)) (a' b' c' d' : Value) :
    ValsAt ((((W.setCell ⟨B, 0, none⟩ a').setCell ⟨B, 1, none⟩ b').setCell ⟨B, 2, none⟩ c').setCell ⟨B, 3, none⟩ d') A (rowV m) := fun h0 => by
  obtain ⟨b, off, hA, hlt, hc⟩ := h h0
  have hne : B ≠ b := by
    rintro rfl
    cases m with
    | nil => exact absurd h0 (by simp [rowV])
    | cons x m =>
      have h1 := hc 1 (by rw [rowV_length, List.length_cons]; omega)
      have e1 : (rowV (x :: m))[1]'(by rw [rowV_length, List.length_cons]; omega) = .string x.s := rfl
      rw [e1] at h1
      have h2 : W.cell? ⟨B, off + 1, none⟩ = [Value.int .i64 c, .int .u64 z, .int .u64 f, .slice C n cp][off + 1]? := by
        simp [World.cell?, show W.heap[B]? = _ from hB]
      rw [h2] at h1
      match off, h1 with
      | 0, h1 => cases h1
      | 1, h1 => cases h1
      | 2, h1 => cases h1
      | k + 3, h1 => simp at h1
  have hk : ∀ (V : World) (i : Nat) (x : Value), V.heap[b]? = W.heap[b]? → (V.setCell ⟨B, i, none⟩ x).heap[b]? = W.heap[b]? := fun V i x hV => by
    show (V.heap.modify B _)[b]? = _
    rw [Array.getElem?_modify, if_neg hne]
    exact hV
  have hk4 := hk _ 3 d' (hk _ 2 c' (hk _ 1 b' (hk W 0 a' rfl)))
  refine ⟨b, off, hA, ?_, fun i hi => ?_⟩
  · rw [Array.getElem?_eq_getElem hlt] at hk4
    exact (Array.getElem?_eq_some_iff.1 hk4).1
  · rw [← hc i hi]
    simp only [World.cell?, hk4]
theorem set_wf {h : He} (hh : wfH h) (i : Int) {v : MV} (hv : wfV v) : wfH (setM h i v) := by
  by_cases h0 : setE h i v = 0
  · obtain ⟨p, rfl, he, hve, hm⟩ := set_ok h0
    rw [hm]
    exact put_wf hh p hv (hE_parts he).2.1.2.1
  · rw [set_no h0]; exact hh
theorem set_len {h : He} (hh : wfH h) (i : Int) (v : MV) (hl : h.l.length * 24 ≤ 140737488355328) : (setM h i v).l.length * 24 ≤ 140737488355328 := by
  by_cases h0 : setE h i v = 0
  · obtain ⟨p, rfl, he, hve, hm⟩ := set_ok h0
    have h2 := (hE_parts (put_right hh he p hve)).2.1.2.2.2
    have h3 := wh_le (putH h p v).f
    rw [hm]
    omega
  · rw [set_no h0]; exact hl

set_option maxRecDepth 100000 in
set_option maxHeartbeats 4000000 in
theorem propsTwo_walk (h : He) (A : Option Addr) (ca : Nat) (i : Int) (v : MV) (k : Int) (u : MV) (w : World) (hw : Wid w) (hA : ValsAt w A (rowV h.l)) (hA0 : A = none → h.l.length = 0 ∧ ca = 0) (hh : wfH h) (hv : wfV v) (hu : wfV u) (hl : h.l.length * 24 ≤ 140737488355328) :
    Calls Tryd.prog 7 #[.agg #[.int .i64 h.c, .int .u64 h.z, .int .u64 h.f, .slice A h.l.length ca, .int .i64 i, .int .u64 v.n, .string v.s, .int .i64 k, .int .u64 u.n, .string u.s]] w fun e w' => e = .returned (.bool true) ∧ Below w.heap.size w w' := by
  obtain ⟨W0, hW0⟩ : ∃ W0, W0 = ((((w.alloc (.cells #[.int .i64 h.c, .int .u64 h.z, .int .u64 h.f, .slice A h.l.length ca, .int .i64 i, .int .u64 v.n, .string v.s, .int .i64 k, .int .u64 u.n, .string u.s] 51)).alloc (.cells #[.int .i64 h.c, .int .u64 h.z, .int .u64 h.f, .slice A h.l.length ca] 25)).alloc (.cells #[.int .u64 v.n, .string v.s] 40)).alloc (.cells #[.int .u64 u.n, .string u.s] 40)) := ⟨_, rfl⟩
  have hb0 : Below w.heap.size w W0 := by rw [hW0]; exact ((((Below.refl _ w).alloc (Nat.le_refl _) _).alloc (by simp) _).alloc (by simp; omega) _).alloc (by simp; omega) _
  have hx0 : Bx W0 (w.heap.size + 1) 25 [.int .i64 h.c, .int .u64 h.z, .int .u64 h.f, .slice A h.l.length ca] := by
    have q := Bx.new (w.alloc (.cells #[.int .i64 h.c, .int .u64 h.z, .int .u64 h.f, .slice A h.l.length ca, .int .i64 i, .int .u64 v.n, .string v.s, .int .i64 k, .int .u64 u.n, .string u.s] 51)) 25 [.int .i64 h.c, .int .u64 h.z, .int .u64 h.f, .slice A h.l.length ca]
    rw [World.size_alloc] at q
    rw [hW0]
    exact (q.alloc _).alloc _
  have hv0 : Bx W0 (w.heap.size + 1 + 1) 40 [.int .u64 v.n, .string v.s] := by
    have q := Bx.new ((w.alloc (.cells #[.int .i64 h.c, .int .u64 h.z, .int .u64 h.f, .slice A h.l.length ca, .int .i64 i, .int .u64 v.n, .string v.s, .int .i64 k, .int .u64 u.n, .string u.s] 51)).alloc (.cells #[.int .i64 h.c, .int .u64 h.z, .int .u64 h.f, .slice A h.l.length ca] 25)) 40 [.int .u64 v.n, .string v.s]
    rw [World.size_alloc, World.size_alloc] at q
    rw [hW0]
    exact q.alloc _
  have hu0 : Bx W0 (w.heap.size + 1 + 1 + 1) 40 [.int .u64 u.n, .string u.s] := by
    have q := Bx.new (((w.alloc (.cells #[.int .i64 h.c, .int .u64 h.z, .int .u64 h.f, .slice A h.l.length ca, .int .i64 i, .int .u64 v.n, .string v.s, .int .i64 k, .int .u64 u.n, .string u.s] 51)).alloc (.cells #[.int .i64 h.c, .int .u64 h.z, .int .u64 h.f, .slice A h.l.length ca] 25)).alloc (.cells #[.int .u64 v.n, .string v.s] 40)) 40 [.int .u64 u.n, .string u.s]
    rw [World.size_alloc, World.size_alloc, World.size_alloc] at q
    rw [hW0]
    exact q
  have hSh := pshown_any W0 (hw.below hb0)
  have wf1 := set_wf hh i hv
  have wf2 := set_wf wf1 k hu
  have wf3 := set_wf hh k hu
  have len1 := set_len hh i v hl
  have len3 := set_len hh k u hl
  have len2 := set_len wf1 k u len1
  have hSet1 := fun W hW hV => pset_any h A ca i v W hW hh hv hV hA0 hl
  have hSet2 := fun A1 c1 W hW hV h0 => pset_any (setM h i v) A1 c1 k u W hW wf1 hu hV h0 len1
  have hSet3 := fun W hW hV => pset_any h A ca k u W hW hh hu hV hA0 hl
  have hSet4 := fun A1 c1 W hW hV h0 => pset_any (setM h k u) A1 c1 i v W hW wf3 hv hV h0 len3
  have hGet := fun A1 c1 W hW hV => pget_any (setM (setM h i v) k u) A1 c1 k W hW wf2 hV
  have hSame := fun A1 c1 B c2 W h1 h2 => rpsame_any (setM (setM h i v) k u) (setM (setM h k u) i v) A1 B c1 c2 W h1 h2 (by omega)
  have HOK : Hid (setE h i v = 0 → setE (setM h i v) k u = 0 → setE h k u = 0 → gV (setM (setM h i v) k u) k = u ∧ gIs (setM (setM h i v) k u) k = true ∧ (¬ i = k → sameH (setM (setM h i v) k u) (setM (setM h k u) i v) = true)) := Lib.hid (fun h1 h2 h3 => by
    obtain ⟨-, g, s⟩ := two_ok hh hv hu h1 h2 h3
    exact ⟨by rw [gV, g]; rfl, by rw [gIs, g]; rfl, fun hik => (sameH_iff _ _).2 (s hik)⟩)
  unfold SetPost at hSet1 hSet2 hSet3 hSet4
  clear wf1 wf2 wf3 len1 len2 len3 hl hA0 hh
  generalize sameH (setM (setM h i v) k u) (setM (setM h k u) i v) = sa at hSame HOK
  generalize gV (setM (setM h i v) k u) k = gv at hGet HOK
  generalize gIs (setM (setM h i v) k u) k = gi at hGet HOK
  generalize setE (setM h i v) k u = e2 at hSet2 HOK
  generalize setM (setM h i v) k u = s2 at hSet2 hGet hSame
  generalize setE (setM h k u) i v = e4 at hSet4
  generalize setM (setM h k u) i v = s4 at hSet4 hSame
  generalize setE h i v = e1 at hSet1 HOK
  generalize setM h i v = s1 at hSet1 hSet2
  generalize setE h k u = e3 at hSet3 HOK
  generalize setM h k u = s3 at hSet3 hSet4
  simp only [encH, encV] at hSet1 hSet2 hSet3 hSet4 hGet hSame
  go_enter Tryd.func7, Tryd.ntmps7
  go_wp2_with fail
  rw [← hW0]
  clear hW0
  refine hSh.mono ?_
  rintro e w1 ⟨rfl, hb1⟩
  have hB1 := hb0.trans (hb1.mono hb0.size)
  have hx1 := hx0.kept hb1
  have hv1 := hv0.kept hb1
  have hu1 := hu0.kept hb1
  clear hSh hb0 hb1 hx0 hv0 hu0
  have x0 := hx1.cell 0 (by simp)
  have x1 := hx1.cell 1 (by simp)
  have x2 := hx1.cell 2 (by simp)
  have x3 := hx1.cell 3 (by simp)
  dsimp only [List.getElem_cons_zero, List.getElem_cons_succ] at x0 x1 x2 x3
  have v0 := hv1.cell 0 (by simp)
  have v1 := hv1.cell 1 (by simp)
  dsimp only [List.getElem_cons_zero, List.getElem_cons_succ] at v0 v1
  go_wp2_with fail
  refine (hSet1 w1 (hw.below hB1) (hA.below hB1)).mono ?_
  rintro e w2 ⟨A1, c1, rfl, hV2, hn1, hb2⟩
  obtain ⟨W2, hW2⟩ : ∃ W2, W2 = w2.alloc (.cells #[.int .i64 s1.c, .int .u64 s1.z, .int .u64 s1.f, .slice A1 s1.l.length c1] 25) := ⟨_, rfl⟩
  have hbn : Below w2.heap.size w2 W2 := by rw [hW2]; exact (Below.refl _ w2).alloc (Nat.le_refl _) _
  have hp2 : Bx W2 w2.heap.size 25 [.int .i64 s1.c, .int .u64 s1.z, .int .u64 s1.f, .slice A1 s1.l.length c1] := by rw [hW2]; exact Bx.new w2 25 _
  have HN1 : Hid (A1 = none → s1.l.length = 0 ∧ c1 = 0) := Lib.hid hn1
  have hX2 := hB1.trans (hb2.mono hB1.size)
  have hB2 := hX2.trans (hbn.mono hX2.size)
  have hx2 := (hx1.kept hb2).kept hbn
  have hv2 := (hv1.kept hb2).kept hbn
  have hu2 := (hu1.kept hb2).kept hbn
  have hVx := hV2.below hbn
  have HP3 : Hid (w.heap.size + 1 + 1 + 1 < w2.heap.size) := Lib.hid (by have := hu1.lt; have := hb2.size; omega)
  clear hSet1 hB1 hx1 hv1 hu1 hb2 hV2 hX2 hbn hn1 x0 x1 x2 x3 v0 v1
  have y0 := hp2.cell 0 (by simp)
  have y1 := hp2.cell 1 (by simp)
  have y2 := hp2.cell 2 (by simp)
  have y3 := hp2.cell 3 (by simp)
  dsimp only [List.getElem_cons_zero, List.getElem_cons_succ] at y0 y1 y2 y3
  rw [hW2] at y0 y1 y2 y3
  have u0 := hu2.cell 0 (by simp)
  have u1 := hu2.cell 1 (by simp)
  dsimp only [List.getElem_cons_zero, List.getElem_cons_succ] at u0 u1
  rw [hW2] at u0 u1
  go_wp2_with fail
  rw [← hW2]
  clear hW2 y0 y1 y2 y3 u0 u1
  with_reducible refine (hSet2 A1 c1 W2 (hw.below hB2) hVx HN1.out).mono ?_
  rintro e w3 ⟨A2, c2, rfl, hV3, -, hb3⟩
  obtain ⟨a0, f0, a1, f1, a2, f2, a3, f3, bR⟩ := (hp2.kept hb3).store4 (.int .i64 s2.c) (.int .u64 s2.z) (.int .u64 s2.f) (.slice A2 s2.l.length c2)
  have hX3 := hB2.trans (hb3.mono hB2.size)
  have hB3 := below_store4 hX3 (B := w2.heap.size) (by have := HP3.out; omega) (.int .i64 s2.c) (.int .u64 s2.z) (.int .u64 s2.f) (.slice A2 s2.l.length c2)
  have hVy := vals_head4 (hp2.kept hb3) hV3 (.int .i64 s2.c) (.int .u64 s2.z) (.int .u64 s2.f) (.slice A2 s2.l.length c2)
  have o4 : ∀ {t : TypeId} {B : Nat} {l : List Value}, Bx W2 B t l → B ≠ w2.heap.size → Bx ((((w3.setCell ⟨w2.heap.size, 0, none⟩ (.int .i64 s2.c)).setCell ⟨w2.heap.size, 1, none⟩ (.int .u64 s2.z)).setCell ⟨w2.heap.size, 2, none⟩ (.int .u64 s2.f)).setCell ⟨w2.heap.size, 3, none⟩ (.slice A2 s2.l.length c2)) B t l := fun hb hne => ((((hb.kept hb3).other hne.symm 0 _).other hne.symm 1 _).other hne.symm 2 _).other hne.symm 3 _
  have hx3 := o4 hx2 (by have := HP3.out; omega)
  have hv3 := o4 hv2 (by have := HP3.out; omega)
  have hu3 := o4 hu2 (by have := HP3.out; omega)
  have HP4 := HP3
  clear hSet2 hB2 hx2 hv2 hu2 hVx HN1 hp2 hb3 hV3 hX3 o4
  have x0 := hx3.cell 0 (by simp)
  have x1 := hx3.cell 1 (by simp)
  have x2 := hx3.cell 2 (by simp)
  have x3 := hx3.cell 3 (by simp)
  dsimp only [List.getElem_cons_zero, List.getElem_cons_succ] at x0 x1 x2 x3
  have u0 := hu3.cell 0 (by simp)
  have u1 := hu3.cell 1 (by simp)
  dsimp only [List.getElem_cons_zero, List.getElem_cons_succ] at u0 u1
  go_wp2_with fail
  clear a0 f0 a1 f1 a2 f2 a3 f3 x0 x1 x2 x3 u0 u1
  generalize ((((w3.setCell ⟨w2.heap.size, 0, none⟩ (.int .i64 s2.c)).setCell ⟨w2.heap.size, 1, none⟩ (.int .u64 s2.z)).setCell ⟨w2.heap.size, 2, none⟩ (.int .u64 s2.f)).setCell ⟨w2.heap.size, 3, none⟩ (.slice A2 s2.l.length c2)) = W3 at hB3 hVy bR hx3 hv3 hu3 ⊢
  refine (hSet3 W3 (hw.below hB3) (hA.below hB3)).mono ?_
  rintro e w4 ⟨A3, c3, rfl, hV4, hn4, hb4⟩
  obtain ⟨W4, hW4⟩ : ∃ W4, W4 = w4.alloc (.cells #[.int .i64 s3.c, .int .u64 s3.z, .int .u64 s3.f, .slice A3 s3.l.length c3] 25) := ⟨_, rfl⟩
  have hbn : Below w4.heap.size w4 W4 := by rw [hW4]; exact (Below.refl _ w4).alloc (Nat.le_refl _) _
  have hq4 : Bx W4 w4.heap.size 25 [.int .i64 s3.c, .int .u64 s3.z, .int .u64 s3.f, .slice A3 s3.l.length c3] := by rw [hW4]; exact Bx.new w4 25 _
  have HN4 : Hid (A3 = none → s3.l.length = 0 ∧ c3 = 0) := Lib.hid hn4
  have hX4 := hB3.trans (hb4.mono hB3.size)
  have hB4 := hX4.trans (hbn.mono hX4.size)
  have hp4 := (bR.kept hb4).kept hbn
  have hv4 := (hv3.kept hb4).kept hbn
  have hu4 := (hu3.kept hb4).kept hbn
  have hVy4 := (hVy.below hb4).below hbn
  have hVz := hV4.below hbn
  have HP5 : Hid (w2.heap.size < w4.heap.size ∧ w.heap.size + 1 + 1 + 1 < w4.heap.size) := Lib.hid (by have := bR.lt; have := hb4.size; have := HP4.out; omega)
  clear hSet3 hA hB3 bR hx3 hv3 hu3 hVy hb4 hV4 hX4 hbn hn4 HP4
  have y0 := hq4.cell 0 (by simp)
  have y1 := hq4.cell 1 (by simp)
  have y2 := hq4.cell 2 (by simp)
  have y3 := hq4.cell 3 (by simp)
  dsimp only [List.getElem_cons_zero, List.getElem_cons_succ] at y0 y1 y2 y3
  rw [hW4] at y0 y1 y2 y3
  have v0 := hv4.cell 0 (by simp)
  have v1 := hv4.cell 1 (by simp)
  dsimp only [List.getElem_cons_zero, List.getElem_cons_succ] at v0 v1
  rw [hW4] at v0 v1
  go_wp2_with fail
  rw [← hW4]
  clear hW4 y0 y1 y2 y3 v0 v1
  with_reducible refine (hSet4 A3 c3 W4 (hw.below hB4) hVz HN4.out).mono ?_
  rintro e w5 ⟨A4, c4, rfl, hV5, -, hb5⟩
  obtain ⟨a0, f0, a1, f1, a2, f2, a3, f3, bR⟩ := (hq4.kept hb5).store4 (.int .i64 s4.c) (.int .u64 s4.z) (.int .u64 s4.f) (.slice A4 s4.l.length c4)
  have hX5 := hB4.trans (hb5.mono hB4.size)
  have hB5 := below_store4 hX5 (B := w4.heap.size) (by have := HP5.out; omega) (.int .i64 s4.c) (.int .u64 s4.z) (.int .u64 s4.f) (.slice A4 s4.l.length c4)
  have hVt := vals_head4 (hq4.kept hb5) hV5 (.int .i64 s4.c) (.int .u64 s4.z) (.int .u64 s4.f) (.slice A4 s4.l.length c4)
  have hVy5 := vals_head4 (hq4.kept hb5) (hVy4.below hb5) (.int .i64 s4.c) (.int .u64 s4.z) (.int .u64 s4.f) (.slice A4 s4.l.length c4)
  have o4 : ∀ {t : TypeId} {B : Nat} {l : List Value}, Bx W4 B t l → B ≠ w4.heap.size → Bx ((((w5.setCell ⟨w4.heap.size, 0, none⟩ (.int .i64 s4.c)).setCell ⟨w4.heap.size, 1, none⟩ (.int .u64 s4.z)).setCell ⟨w4.heap.size, 2, none⟩ (.int .u64 s4.f)).setCell ⟨w4.heap.size, 3, none⟩ (.slice A4 s4.l.length c4)) B t l := fun hb hne => ((((hb.kept hb5).other hne.symm 0 _).other hne.symm 1 _).other hne.symm 2 _).other hne.symm 3 _
  have hp5 := o4 hp4 (by have := HP5.out; omega)
  have hv5 := o4 hv4 (by have := HP5.out; omega)
  have hu5 := o4 hu4 (by have := HP5.out; omega)
  clear hSet4 hB4 hp4 hv4 hu4 hVz hVy4 HN4 hq4 hb5 hV5 hX5 o4 HP5
  by_cases t1 : e1 = 0
  · by_cases t2 : e2 = 0
    · by_cases t3 : e3 = 0
      · by_cases t4 : e4 = 0
        · obtain ⟨g1, g2, g3⟩ := HOK.out t1 t2 t3
          have HS : Hid (¬ i = k → sa = true) := Lib.hid g3
          subst t1 t2 t3 t4 g1 g2
          clear HOK g3
          have x0 := hp5.cell 0 (by simp)
          have x1 := hp5.cell 1 (by simp)
          have x2 := hp5.cell 2 (by simp)
          have x3 := hp5.cell 3 (by simp)
          dsimp only [List.getElem_cons_zero, List.getElem_cons_succ] at x0 x1 x2 x3
          go_wp2_with fail
          clear a0 f0 a1 f1 a2 f2 a3 f3 x0 x1 x2 x3
          generalize ((((w5.setCell ⟨w4.heap.size, 0, none⟩ (.int .i64 s4.c)).setCell ⟨w4.heap.size, 1, none⟩ (.int .u64 s4.z)).setCell ⟨w4.heap.size, 2, none⟩ (.int .u64 s4.f)).setCell ⟨w4.heap.size, 3, none⟩ (.slice A4 s4.l.length c4)) = W5 at hB5 hVt hVy5 bR hp5 hv5 hu5 ⊢
          refine (hGet A2 c2 W5 (hw.below hB5) hVy5).mono ?_
          rintro e w6 ⟨rfl, hb6⟩
          have hq6 := Bx.new w6 40 [.int .u64 gv.n, .string gv.s]
          have hbn : Below w6.heap.size w6 (w6.alloc (.cells #[.int .u64 gv.n, .string gv.s] 40)) := (Below.refl _ w6).alloc (Nat.le_refl _) _
          have hX6 := hB5.trans (hb6.mono hB5.size)
          have hB6 := hX6.trans (hbn.mono hX6.size)
          have hp6 := (hp5.kept hb6).kept hbn
          have hr6 := (bR.kept hb6).kept hbn
          have hu6 := (hu5.kept hb6).kept hbn
          have hVy6 := (hVy5.below hb6).below hbn
          have hVt6 := (hVt.below hb6).below hbn
          clear hGet hB5 hp5 hv5 hu5 bR hVy5 hVt hb6 hbn hX6
          have x0 := hp6.cell 0 (by simp)
          have x1 := hp6.cell 1 (by simp)
          have x2 := hp6.cell 2 (by simp)
          have x3 := hp6.cell 3 (by simp)
          have y0 := hr6.cell 0 (by simp)
          have y1 := hr6.cell 1 (by simp)
          have y2 := hr6.cell 2 (by simp)
          have y3 := hr6.cell 3 (by simp)
          dsimp only [List.getElem_cons_zero, List.getElem_cons_succ] at x0 x1 x2 x3 y0 y1 y2 y3
          go_wp2_with fail
          refine (hSame A2 c2 A4 c4 _ hVy6 hVt6).mono ?_
          rintro e w7 ⟨rfl, hb7⟩
          have hB7 := hB6.trans (hb7.mono hB6.size)
          have a0 := (hq6.kept hb7).cell 0 (by simp)
          have a1 := (hq6.kept hb7).cell 1 (by simp)
          have u0 := (hu6.kept hb7).cell 0 (by simp)
          have u1 := (hu6.kept hb7).cell 1 (by simp)
          dsimp only [List.getElem_cons_zero, List.getElem_cons_succ] at a0 a1 u0 u1
          clear hSame hB6 hp6 hr6 hu6 hq6 hVy6 hVt6 hb7 x0 x1 x2 x3 y0 y1 y2 y3
          by_cases hik : i = k
          · subst hik
            clear HS
            go_wp2
            go_ret
            exact ⟨rfl, hB7⟩
          · obtain rfl := HS.out hik
            have tk : (i == k) = false := by simpa using hik
            clear HS hik
            go_wp2
            go_ret
            exact ⟨rfl, hB7⟩
        · subst t1 t2 t3
          have t : (e4 != 0) = true := by simpa using t4
          clear HOK t4
          go_wp2
          go_ret
          exact ⟨rfl, hB5⟩
      · subst t1 t2
        have t : (e3 != 0) = true := by simpa using t3
        clear HOK t3
        go_wp2
        go_ret
        exact ⟨rfl, hB5⟩
    · subst t1
      have t : (e2 != 0) = true := by simpa using t2
      clear HOK t2
      go_wp2
      go_ret
      exact ⟨rfl, hB5⟩
  · have t : (e1 != 0) = true := by simpa using t1
    clear HOK t1
    go_wp2
    go_ret
    exact ⟨rfl, hB5⟩
end Go.Proofs.YtjpldfkhacchdaaDoor
