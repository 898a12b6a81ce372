/-
  PropsSet's walk: a property that was set is got; all others are as they were; the head stays right. Conditions: the package num's table of widths holds 1, 2, 4, 8; the values lie in old memory, each number a uint64, each text shorter than 2^47 bytes.
-/
import Derived.Test.YtjpldfkhacchdaaDoorJSetL
import Derived.Test.YtjpldfkhacchdaaDoorJPSame
namespace Go.Proofs.YtjpldfkhacchdaaDoor
open Go.RowKit

set_option maxRecDepth 100000 in
set_option maxHeartbeats 4000000 in
theorem propsSet_walk (h : He) (A : Option Addr) (ca : Nat) (i : Int) (v : MV) (k : Int) (w : World) (hw : Wid w) (hA : ValsAt w A (rowV h.l)) (hA0 : A = none → h.l.length = 0 ∧ ca = 0) (hh : wfH h) (hv : wfV v) (hl : h.l.length * 24 ≤ 140737488355328) :
    Calls Tryd.prog 6 #[.agg #[.int .i64 h.c, .int .u64 h.z, .int .u64 h.f, .slice A h.l.length ca, .int .i64 i, .int .u64 v.n, .string v.s, .int .i64 k]] w fun e w' => e = .returned (.bool true) ∧ Below w.heap.size w w' := by
  obtain ⟨W0, hW0⟩ : ∃ W0, W0 = ((w.alloc (.cells #[.int .i64 h.c, .int .u64 h.z, .int .u64 h.f, .slice A h.l.length ca, .int .i64 i, .int .u64 v.n, .string v.s, .int .i64 k] 48)).alloc (.cells #[.int .i64 h.c, .int .u64 h.z, .int .u64 h.f, .slice A h.l.length ca] 25)).alloc (.cells #[.int .u64 v.n, .string v.s] 40) := ⟨_, rfl⟩
  have hb0 : Below w.heap.size w W0 := by rw [hW0]; exact (((Below.refl _ w).alloc (Nat.le_refl _) _).alloc (by simp) _).alloc (by simp; omega) _
  have hx0 : Bx W0 (w.heap.size + 1) 25 [.int .i64 h.c, .int .u64 h.z, .int .u64 h.f, .slice A h.l.length ca] := by
    have q := Bx.new (w.alloc (.cells #[.int .i64 h.c, .int .u64 h.z, .int .u64 h.f, .slice A h.l.length ca, .int .i64 i, .int .u64 v.n, .string v.s, .int .i64 k] 48)) 25 [.int .i64 h.c, .int .u64 h.z, .int .u64 h.f, .slice A h.l.length ca]
    rw [World.size_alloc] at q
    rw [hW0]
    exact q.alloc _
  have hv0 : Bx W0 (w.heap.size + 1 + 1) 40 [.int .u64 v.n, .string v.s] := by
    have q := Bx.new ((w.alloc (.cells #[.int .i64 h.c, .int .u64 h.z, .int .u64 h.f, .slice A h.l.length ca, .int .i64 i, .int .u64 v.n, .string v.s, .int .i64 k] 48)).alloc (.cells #[.int .i64 h.c, .int .u64 h.z, .int .u64 h.f, .slice A h.l.length ca] 25)) 40 [.int .u64 v.n, .string v.s]
    rw [World.size_alloc, World.size_alloc] at q
    rw [hW0]
    exact q
  have hSh := pshown_any W0 (hw.below hb0)
  have hSet := fun W hW hV => pset_any h A ca i v W hW hh hv hV hA0 hl
  have hSame := fun B cb W h1 h2 => rpsame_any h h B A cb ca W h1 h2 (by omega)
  rw [(sameH_iff h h).2 rfl] at hSame
  have hGh := fun W hW hV => pget_any h A ca k W hW hh hV
  have HOK : Hid (setE h i v = 0 → hE (setM h i v) = 0 ∧ wfH (setM h i v) ∧ (setM h i v).z = h.z ∧ gotV (setM h i v) i = some v ∧ (¬ k = i → gotV (setM h i v) k = gotV h k)) := Lib.hid (fun h0 => by
    obtain ⟨p, rfl, he, hve, hm⟩ := set_ok h0
    rw [hm]
    refine ⟨put_right hh he p hve, put_wf hh p hv (hE_parts he).2.1.2.1, rfl, ?_, fun hk => ?_⟩
    · rw [put_got hh he p hve, if_pos rfl]
    · rw [put_got hh he p hve, if_neg hk])
  have HNO : Hid (¬ setE h i v = 0 → setM h i v = h) := Lib.hid set_no
  unfold SetPost at hSet
  generalize setE h i v = se at hSet HOK HNO
  generalize setM h i v = sm at hSet HOK HNO
  simp only [encH, encV] at hSet hSame hGh
  go_enter Tryd.func6, Tryd.ntmps6
  go_wp2_with fail
  rw [← hW0]
  clear hW0
  refine hSh.mono ?_
  rintro e w1 ⟨rfl, hb1⟩
  have hB1 := hb0.trans (hb1.mono hb0.size)
  have hx1 := hx0.kept hb1
  have hv1 := hv0.kept hb1
  clear hSh hb0 hb1 hx0 hv0
  have x0 := hx1.cell 0 (by simp)
  have x1 := hx1.cell 1 (by simp)
  have x2 := hx1.cell 2 (by simp)
  have x3 := hx1.cell 3 (by simp)
  have v0 := hv1.cell 0 (by simp)
  have v1 := hv1.cell 1 (by simp)
  dsimp only [List.getElem_cons_zero, List.getElem_cons_succ] at x0 x1 x2 x3 v0 v1
  go_wp2_with fail
  refine (hSet w1 (hw.below hB1) (hA.below hB1)).mono ?_
  rintro e w2 ⟨A1, c1, rfl, hV2, -, hb2⟩
  obtain ⟨W2, hW2⟩ : ∃ W2, W2 = w2.alloc (.cells #[.int .i64 sm.c, .int .u64 sm.z, .int .u64 sm.f, .slice A1 sm.l.length c1] 25) := ⟨_, rfl⟩
  have hbn : Below w2.heap.size w2 W2 := by rw [hW2]; exact (Below.refl _ w2).alloc (Nat.le_refl _) _
  have hp : Bx W2 w2.heap.size 25 [.int .i64 sm.c, .int .u64 sm.z, .int .u64 sm.f, .slice A1 sm.l.length c1] := by rw [hW2]; exact Bx.new w2 25 _
  have hX2 := hB1.trans (hb2.mono hB1.size)
  have hB2 := hX2.trans (hbn.mono hX2.size)
  have hx2 := (hx1.kept hb2).kept hbn
  have hv2 := (hv1.kept hb2).kept hbn
  have hVx := hV2.below hbn
  clear hSet hB1 hx1 hv1 hb2 hV2 hX2 hbn x0 x1 x2 x3 v0 v1
  by_cases hs : se = 0
  · obtain ⟨g1, g2, g3, g4, g5⟩ := HOK.out hs
    subst hs
    have hGi := fun W hW hV => pget_any sm A1 c1 i W hW g2 hV
    have hGk := fun W hW hV => pget_any sm A1 c1 k W hW g2 hV
    have hR := fun W hW hV => pright_any sm A1 c1 W hW g2 hV
    have e1 : gV sm i = v := by rw [gV, g4]; rfl
    have e2 : gIs sm i = true := by rw [gIs, g4]; rfl
    rw [e1, e2] at hGi
    rw [g1] at hR
    have HK : Hid (¬ k = i → gV sm k = gV h k ∧ gIs sm k = gIs h k) := Lib.hid (fun hk => ⟨by rw [gV, g5 hk, gV], by rw [gIs, g5 hk, gIs]⟩)
    have HZ : Hid ((sm.z == h.z) = true) := Lib.hid (by rw [g3]; exact beq_self_eq_true _)
    simp only [encH, encV] at hGi hGk hR
    generalize gV h k = bv at hGh HK
    generalize gIs h k = bi at hGh HK
    generalize gV sm k = cv at hGk HK
    generalize gIs sm k = ci at hGk HK
    clear HOK HNO g1 g2 g3 g4 g5 e1 e2 hSame
    subst hW2
    have x0 := hp.cell 0 (by simp)
    have x1 := hp.cell 1 (by simp)
    have x2 := hp.cell 2 (by simp)
    have x3 := hp.cell 3 (by simp)
    dsimp only [List.getElem_cons_zero, List.getElem_cons_succ] at x0 x1 x2 x3
    go_wp2_with fail
    with_reducible refine (hGi _ (hw.below hB2) hVx).mono ?_
    rintro e w3 ⟨rfl, hb3⟩
    have hq3 := Bx.new w3 40 [.int .u64 v.n, .string v.s]
    have hb3n : Below w3.heap.size w3 (w3.alloc (.cells #[.int .u64 v.n, .string v.s] 40)) := (Below.refl _ w3).alloc (Nat.le_refl _) _
    have hX3 := hB2.trans (hb3.mono hB2.size)
    have hB3 := hX3.trans (hb3n.mono hX3.size)
    have hp3 := (hp.kept hb3).kept hb3n
    have hx3 := (hx2.kept hb3).kept hb3n
    have hv3 := (hv2.kept hb3).kept hb3n
    have hV3 := (hVx.below hb3).below hb3n
    clear hGi hB2 hp hx2 hv2 hVx hb3 hb3n hX3 x0 x1 x2 x3
    have x0 := hx3.cell 0 (by simp)
    have x1 := hx3.cell 1 (by simp)
    have x2 := hx3.cell 2 (by simp)
    have x3 := hx3.cell 3 (by simp)
    dsimp only [List.getElem_cons_zero, List.getElem_cons_succ] at x0 x1 x2 x3
    go_wp2_with fail
    with_reducible refine (hGh _ (hw.below hB3) (hA.below hB3)).mono ?_
    rintro e w4 ⟨rfl, hb4⟩
    have hq4 := Bx.new w4 40 [.int .u64 bv.n, .string bv.s]
    have hb4n : Below w4.heap.size w4 (w4.alloc (.cells #[.int .u64 bv.n, .string bv.s] 40)) := (Below.refl _ w4).alloc (Nat.le_refl _) _
    have hX4 := hB3.trans (hb4.mono hB3.size)
    have hB4 := hX4.trans (hb4n.mono hX4.size)
    have hp4 := (hp3.kept hb4).kept hb4n
    have hx4 := (hx3.kept hb4).kept hb4n
    have hv4 := (hv3.kept hb4).kept hb4n
    have hq3' := (hq3.kept hb4).kept hb4n
    have hV4 := (hV3.below hb4).below hb4n
    clear hGh hB3 hp3 hx3 hv3 hq3 hV3 hb4 hb4n hX4 x0 x1 x2 x3 hA
    have x0 := hp4.cell 0 (by simp)
    have x1 := hp4.cell 1 (by simp)
    have x2 := hp4.cell 2 (by simp)
    have x3 := hp4.cell 3 (by simp)
    dsimp only [List.getElem_cons_zero, List.getElem_cons_succ] at x0 x1 x2 x3
    go_wp2_with fail
    with_reducible refine (hGk _ (hw.below hB4) hV4).mono ?_
    rintro e w5 ⟨rfl, hb5⟩
    have hq5 := Bx.new w5 40 [.int .u64 cv.n, .string cv.s]
    have hb5n : Below w5.heap.size w5 (w5.alloc (.cells #[.int .u64 cv.n, .string cv.s] 40)) := (Below.refl _ w5).alloc (Nat.le_refl _) _
    have hX5 := hB4.trans (hb5.mono hB4.size)
    have hB5 := hX5.trans (hb5n.mono hX5.size)
    have hp5 := (hp4.kept hb5).kept hb5n
    have hx5 := (hx4.kept hb5).kept hb5n
    have hv5 := (hv4.kept hb5).kept hb5n
    have hq3'' := (hq3'.kept hb5).kept hb5n
    have hq4' := (hq4.kept hb5).kept hb5n
    have hV5 := (hV4.below hb5).below hb5n
    clear hGk hB4 hp4 hx4 hv4 hq3' hq4 hV4 hb5 hb5n hX5 x0 x1 x2 x3
    have x0 := hp5.cell 0 (by simp)
    have x1 := hp5.cell 1 (by simp)
    have x2 := hp5.cell 2 (by simp)
    have x3 := hp5.cell 3 (by simp)
    dsimp only [List.getElem_cons_zero, List.getElem_cons_succ] at x0 x1 x2 x3
    go_wp2_with fail
    with_reducible refine (hR _ (hw.below hB5) hV5).mono ?_
    rintro e w6 ⟨rfl, hb6⟩
    have hB6 := hB5.trans (hb6.mono hB5.size)
    have y1 := (hp5.kept hb6).cell 1 (by simp)
    have z1 := (hx5.kept hb6).cell 1 (by simp)
    have v0 := (hv5.kept hb6).cell 0 (by simp)
    have v1 := (hv5.kept hb6).cell 1 (by simp)
    have a0 := (hq3''.kept hb6).cell 0 (by simp)
    have a1 := (hq3''.kept hb6).cell 1 (by simp)
    have b0 := (hq4'.kept hb6).cell 0 (by simp)
    have b1 := (hq4'.kept hb6).cell 1 (by simp)
    have c0 := (hq5.kept hb6).cell 0 (by simp)
    have c1' := (hq5.kept hb6).cell 1 (by simp)
    dsimp only [List.getElem_cons_zero, List.getElem_cons_succ] at y1 z1 v0 v1 a0 a1 b0 b1 c0 c1'
    clear hR hB5 hp5 hx5 hv5 hq3'' hq4' hq5 hV5 hb6 x0 x1 x2 x3
    have tz := HZ.out
    clear HZ
    by_cases hk : k = i
    · subst hk
      clear HK
      go_wp2
      go_ret
      exact ⟨rfl, hB6⟩
    · obtain ⟨rfl, rfl⟩ := HK.out hk
      have tk : (k == i) = false := by simpa using hk
      clear HK hk
      go_wp2
      go_ret
      exact ⟨rfl, hB6⟩
  · obtain rfl := HNO.out hs
    have t : (se != 0) = true := by simpa using hs
    clear HOK HNO hs hGh hv2
    subst hW2
    have x0 := hx2.cell 0 (by simp)
    have x1 := hx2.cell 1 (by simp)
    have x2 := hx2.cell 2 (by simp)
    have x3 := hx2.cell 3 (by simp)
    dsimp only [List.getElem_cons_zero, List.getElem_cons_succ] at x0 x1 x2 x3
    go_wp2_with fail
    refine (hSame A1 c1 _ hVx (hA.below hB2)).mono ?_
    rintro e w3 ⟨rfl, hb3⟩
    go_wp2
    go_ret
    exact ⟨rfl, hB2.trans (hb3.mono hB2.size)⟩
end Go.Proofs.YtjpldfkhacchdaaDoor
