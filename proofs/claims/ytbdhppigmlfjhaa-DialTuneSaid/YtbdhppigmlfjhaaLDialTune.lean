/-
  DialTune's walk: what is agreed on may be, and is above neither's; with itself a tune is itself. No condition.
-/
import Derived.Test.YtbdhppigmlfjhaaWDShown
namespace Go.Proofs.Ytbdhppigmlfjhaa
open Go.RowKit

theorem dgE_zero {mc mf mb tc tf tb : Int} (h : dgE mc mf mb tc tf tb = 0) : tRight mc mf mb = true ∧ tRight (lessN mc tc) (lessN mf tf) (min mb tb) = true ∧ lessN mc tc ≤ mc ∧ lessN mf tf ≤ mf ∧ min mb tb ≤ mb ∧ (tc ≠ 0 → lessN mc tc ≤ tc) ∧ (tf ≠ 0 → lessN mf tf ≤ tf) ∧ min mb tb ≤ tb := by
  rw [dgE] at h
  by_cases hq : tRight mc mf mb = true
  · rw [if_pos hq] at h
    by_cases hn : tc < 0 ∨ tf < 0 ∨ tb < 0
    · rw [if_pos hn] at h; cases h
    rw [if_neg hn] at h
    by_cases hf : 0 < tf ∧ tf < 4096
    · rw [if_pos hf] at h; cases h
    have hq2 := (tRight_iff mc mf mb).1 hq
    refine ⟨hq, (tRight_iff _ _ _).2 ?_, ?_⟩
    · unfold lessN
      split <;> split <;> omega
    · unfold lessN
      refine ⟨?_, ?_, ?_, ?_, ?_, ?_⟩ <;> (try split) <;> (try intro) <;> omega
  · rw [if_neg hq] at h; cases h
theorem dgE_self {mc mf mb : Int} (hq : tRight mc mf mb = true) : dgE mc mf mb mc mf mb = 0 := by
  have hq2 := (tRight_iff mc mf mb).1 hq
  rw [dgE, if_pos hq, if_neg (by omega), if_neg (by omega)]
theorem lessN_self (a : Int) : lessN a a = a := by
  unfold lessN
  split <;> omega
theorem dgE_not {mc mf mb tc tf tb : Int} (hq : tRight mc mf mb = false) : dgE mc mf mb tc tf tb = 1 := by
  rw [dgE, if_neg (by rw [hq]; decide)]
set_option maxRecDepth 100000 in
set_option maxHeartbeats 8000000 in
theorem dialTune_walk (mc mf mb tc tf tb : Int) (w : World) : Calls Try.prog 4 #[.agg #[.int .i64 mc, .int .i64 mf, .int .i64 mb], .agg #[.int .i64 tc, .int .i64 tf, .int .i64 tb]] w fun e w' => e = .returned (.bool true) ∧ Below w.heap.size w w' := by
  obtain ⟨W0, hW0⟩ : ∃ W0, W0 = (w.alloc (.cells #[.int .i64 mc, .int .i64 mf, .int .i64 mb] 23)).alloc (.cells #[.int .i64 tc, .int .i64 tf, .int .i64 tb] 23) := ⟨_, rfl⟩
  have hb0 : Below w.heap.size w W0 := by rw [hW0]; exact ((Below.refl _ w).alloc (Nat.le_refl _) _).alloc (by simp) _
  have hm : Bx W0 w.heap.size 23 [.int .i64 mc, .int .i64 mf, .int .i64 mb] := by rw [hW0]; exact (Bx.new w _ _).alloc _
  have ht : Bx W0 (w.heap.size + 1) 23 [.int .i64 tc, .int .i64 tf, .int .i64 tb] := by
    have h := Bx.new (w.alloc (.cells #[.int .i64 mc, .int .i64 mf, .int .i64 mb] 23)) 23 [.int .i64 tc, .int .i64 tf, .int .i64 tb]
    rw [World.size_alloc] at h
    rw [hW0]; exact h
  have hSh := dshown_any W0
  have hA := fun W => dAgree_any mc mf mb tc tf tb W
  have hA2 := fun W => dAgree_any mc mf mb mc mf mb W
  have hR := fun W => sRight_any mc mf mb W
  have hR2 := fun W => sRight_any (lessN mc tc) (lessN mf tf) (min mb tb) W
  have H0 : Hid (∀ _ : dgE mc mf mb tc tf tb = 0, _) := Lib.hid (fun h => dgE_zero h)
  have H1 : Hid (∀ _ : tRight mc mf mb = true, dgE mc mf mb mc mf mb = 0) := Lib.hid (fun h => dgE_self h)
  have H2 : Hid (∀ _ : tRight mc mf mb = false, dgE mc mf mb tc tf tb = 1 ∧ dgE mc mf mb mc mf mb = 1) := Lib.hid (fun h => ⟨dgE_not h, dgE_not h⟩)
  simp only [lessN_self, Int.min_self] at hA2
  generalize dgE mc mf mb tc tf tb = E at *
  generalize dgE mc mf mb mc mf mb = F at *
  generalize tRight mc mf mb = q at *
  generalize tRight (lessN mc tc) (lessN mf tf) (min mb tb) = q2 at *
  generalize lessN mc tc = l1 at *
  generalize lessN mf tf = l2 at *
  generalize min mb tb = l3 at *
  go_enter Try.func4, Try.ntmps4
  go_upto_region 1 with fail
  rw [← hW0]
  clear hW0
  go_wp2_with fail
  with_reducible refine hSh.mono ?_
  rintro e w1 ⟨rfl, hb1⟩
  have hB1 := hb0.trans (hb1.mono hb0.size)
  replace hm := hm.kept hb1
  replace ht := ht.kept hb1
  clear hSh hb0 hb1
  obtain ⟨x0, x1, x2⟩ := hm.three
  obtain ⟨y0, y1, y2⟩ := ht.three
  go_wp2_with fail
  with_reducible refine (hA _).mono ?_
  rintro e w2 ⟨rfl, hb2⟩
  have hB2 := hB1.trans (hb2.mono hB1.size)
  replace hm := hm.kept hb2
  replace ht := ht.kept hb2
  clear hA hB1 hb2 x0 x1 x2 y0 y1 y2
  obtain ⟨d1, hd1⟩ : ∃ d, dgV E l1 = d := ⟨_, rfl⟩
  obtain ⟨d2, hd2⟩ : ∃ d, dgV E l2 = d := ⟨_, rfl⟩
  obtain ⟨d3, hd3⟩ : ∃ d, dgV E l3 = d := ⟨_, rfl⟩
  rw [hd1, hd2, hd3]
  have HD := Lib.hid (And.intro hd1 (And.intro hd2 hd3))
  clear hd1 hd2 hd3
  obtain ⟨W3, hW3⟩ : ∃ W3, W3 = w2.alloc (.cells #[.int .i64 d1, .int .i64 d2, .int .i64 d3] 23) := ⟨_, rfl⟩
  have hb3 : Below w2.heap.size w2 W3 := by rw [hW3]; exact (Below.refl _ w2).alloc (Nat.le_refl _) _
  have hx : Bx W3 w2.heap.size 23 [.int .i64 d1, .int .i64 d2, .int .i64 d3] := by rw [hW3]; exact Bx.new w2 _ _
  go_upto_region 3 with fail
  rw [← hW3]
  clear hW3
  have hB3 := hB2.trans (hb3.mono hB2.size)
  replace hm := hm.kept hb3
  replace ht := ht.kept hb3
  clear hB2 hb3
  obtain ⟨x0, x1, x2⟩ := hm.three
  go_wp2_with fail
  with_reducible refine (hA2 _).mono ?_
  rintro e w4 ⟨rfl, hb4⟩
  have hB4 := hB3.trans (hb4.mono hB3.size)
  replace hm := hm.kept hb4
  replace ht := ht.kept hb4
  replace hx := hx.kept hb4
  clear hA2 hB3 hb4 x0 x1 x2
  obtain ⟨d4, hd4⟩ : ∃ d, dgV F mc = d := ⟨_, rfl⟩
  obtain ⟨d5, hd5⟩ : ∃ d, dgV F mf = d := ⟨_, rfl⟩
  obtain ⟨d6, hd6⟩ : ∃ d, dgV F mb = d := ⟨_, rfl⟩
  rw [hd4, hd5, hd6]
  have HE := Lib.hid (And.intro hd4 (And.intro hd5 hd6))
  clear hd4 hd5 hd6
  obtain ⟨W5, hW5⟩ : ∃ W5, W5 = w4.alloc (.cells #[.int .i64 d4, .int .i64 d5, .int .i64 d6] 23) := ⟨_, rfl⟩
  have hb5 : Below w4.heap.size w4 W5 := by rw [hW5]; exact (Below.refl _ w4).alloc (Nat.le_refl _) _
  have hy : Bx W5 w4.heap.size 23 [.int .i64 d4, .int .i64 d5, .int .i64 d6] := by rw [hW5]; exact Bx.new w4 _ _
  go_upto_region 4 with fail
  rw [← hW5]
  clear hW5
  have hB5 := hB4.trans (hb5.mono hB4.size)
  replace hm := hm.kept hb5
  replace ht := ht.kept hb5
  replace hx := hx.kept hb5
  clear hB4 hb5
  obtain ⟨x0, x1, x2⟩ := hm.three
  go_wp2_with fail
  with_reducible refine (hR _).mono ?_
  rintro e w6 ⟨rfl, hb6⟩
  have hB6 := hB5.trans (hb6.mono hB5.size)
  replace hm := hm.kept hb6
  replace ht := ht.kept hb6
  replace hx := hx.kept hb6
  replace hy := hy.kept hb6
  clear hR hB5 hb6 x0 x1 x2
  obtain ⟨e1, e2, e3⟩ := HD.out
  obtain ⟨e4, e5, e6⟩ := HE.out
  cases q
  · obtain ⟨rfl, rfl⟩ := H2.out rfl
    obtain rfl : d1 = 0 := e1.symm
    obtain rfl : d2 = 0 := e2.symm
    obtain rfl : d3 = 0 := e3.symm
    obtain ⟨z0, z1, z2⟩ := hx.three
    clear H0 H1 H2 HD HE hm ht hx hy hR2 e1 e2 e3 e4 e5 e6
    go_wp2
    go_ret
    exact ⟨rfl, hB6⟩
  · obtain rfl := H1.out rfl
    obtain rfl : d4 = mc := e4.symm
    obtain rfl : d5 = mf := e5.symm
    obtain rfl : d6 = mb := e6.symm
    obtain ⟨m0, m1, m2⟩ := hm.three
    obtain ⟨n0, n1, n2⟩ := hy.three
    by_cases hE : E = 0
    · subst hE
      obtain ⟨-, rfl, k1, k2, k3, k4, k5, k6⟩ := H0.out rfl
      obtain rfl : d1 = l1 := e1.symm
      obtain rfl : d2 = l2 := e2.symm
      obtain rfl : d3 = l3 := e3.symm
      obtain ⟨z0, z1, z2⟩ := hx.three
      clear H0 H1 H2 HD HE e1 e2 e3 e4 e5 e6
      go_wp2_with fail
      with_reducible refine (hR2 _).mono ?_
      rintro e w7 ⟨rfl, hb7⟩
      have hB7 := hB6.trans (hb7.mono hB6.size)
      replace hm := hm.kept hb7
      replace ht := ht.kept hb7
      replace hx := hx.kept hb7
      clear hR2 hB6 hb7 m0 m1 m2 n0 n1 n2 z0 z1 z2 hy
      obtain ⟨m0, m1, m2⟩ := hm.three
      obtain ⟨y0, y1, y2⟩ := ht.three
      obtain ⟨z0, z1, z2⟩ := hx.three
      clear hm ht hx
      by_cases t1 : tc = 0
      · subst t1
        clear k4
        by_cases t2 : tf = 0
        · subst t2
          clear k5
          go_wp2
          go_ret
          exact ⟨rfl, hB7⟩
        · have k5 := k5 t2
          have g2 : (tf == 0) = false := by simpa using t2
          clear t2
          go_wp2
          go_ret
          exact ⟨rfl, hB7⟩
      · have k4 := k4 t1
        have g1 : (tc == 0) = false := by simpa using t1
        clear t1
        by_cases t2 : tf = 0
        · subst t2
          clear k5
          go_wp2
          go_ret
          exact ⟨rfl, hB7⟩
        · have k5 := k5 t2
          have g2 : (tf == 0) = false := by simpa using t2
          clear t2
          go_wp2
          go_ret
          exact ⟨rfl, hB7⟩
    · obtain rfl : d1 = 0 := by rw [← e1, dgV, if_neg hE]
      obtain rfl : d2 = 0 := by rw [← e2, dgV, if_neg hE]
      obtain rfl : d3 = 0 := by rw [← e3, dgV, if_neg hE]
      obtain ⟨z0, z1, z2⟩ := hx.three
      have g0 : (E == 0) = false := by simpa using hE
      clear H0 H1 H2 HD HE hm ht hx hy hR2 e1 e2 e3 e4 e5 e6 hE
      go_wp2
      go_ret
      exact ⟨rfl, hB6⟩
end Go.Proofs.Ytbdhppigmlfjhaa
