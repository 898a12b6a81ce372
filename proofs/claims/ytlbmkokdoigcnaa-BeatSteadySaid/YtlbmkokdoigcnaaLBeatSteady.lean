/-
  BeatSteady answers true, whatever the beat and the two numbers; nothing that was there is changed. No condition.
-/
import Derived.Test.YtlbmkokdoigcnaaLBeatNone
namespace Go.Proofs.Ytlbmkokdoigcnaa
open Go.RowKit Go.Shelf

/-- plain: within the times that count, something is to be done just if there are beats and it is told so -/
theorem steady_when (k : BT) (h : wfB k) (t : Int) (ht : 0 ≤ t) : (!(k.e == 0)) = (sendK k t || goneK k t || decide (t < whenK k)) ∧ (k.e ≠ 0 → decide (whenK k ≤ t) = (sendK k t || goneK k t)) := by
  obtain ⟨e, i, o⟩ := k
  obtain ⟨h1, h2, h3, h4, h5, h6⟩ := h
  unfold sendK goneK whenK
  dsimp only at *
  by_cases h0 : e = 0
  · subst h0
    constructor
    · simp; omega
    · intro h; exact absurd rfl h
  · have e0 : (e == 0) = false := by simpa using h0
    rw [e0, if_neg h0]
    simp only [Bool.not_false, Bool.true_and]
    constructor
    · cases hx : decide (o + e ≤ t) <;> cases hy : decide (i + 2 * e ≤ t) <;> simp at hx hy ⊢
      omega
    · intro _
      cases hx : decide (o + e ≤ t) <;> cases hy : decide (i + 2 * e ≤ t) <;> simp at hx hy ⊢ <;> omega
theorem tick_wf (k : BT) (h : wfB k) (t : Int) (h0 : 0 ≤ t) (h1 : t ≤ 1099511627776) : wfB (tickK k t) := by
  unfold tickK
  split
  · exact ⟨h.1, h.2.1, h.2.2.1, h.2.2.2.1, h0, h1⟩
  · exact h
theorem steady_again (k : BT) (t l : Int) (h0 : k.e ≠ 0) (hs : sendK k t = true) : sendK (tickK k t) l = decide (k.e ≤ l - t) := by
  have e0 : (k.e == 0) = false := by simpa using h0
  rw [tickK, hs]
  simp only [sendK, if_true, e0, Bool.not_false, Bool.true_and]
  congr 1
  apply propext
  omega
theorem steady_lost (k : BT) (b t l : Int) (h0 : k.e ≠ 0) (hb : b ≤ t) (hk : k.i = heldN b 1099511627776) (ht : 0 ≤ t) : goneK (gotK k t) l = decide (2 * k.e ≤ l - t) := by
  have e0 : (k.e == 0) = false := by simpa using h0
  have hm : max k.i t = t := by rw [hk]; unfold heldN; omega
  simp only [goneK, gotK, e0, hm, Bool.not_false, Bool.true_and]
  congr 1
  apply propext
  omega
theorem tick_e (k : BT) (t : Int) : (tickK k t).e = k.e := by unfold tickK; split <;> rfl
theorem got_wf (k : BT) (h : wfB k) (t : Int) (h0 : 0 ≤ t) (h1 : t ≤ 1099511627776) : wfB (gotK k t) := by
  obtain ⟨a, b, c, d, e, f⟩ := h
  exact ⟨a, b, by show 0 ≤ max k.i t; omega, by show max k.i t ≤ _; omega, e, f⟩

set_option maxRecDepth 100000 in
set_option maxHeartbeats 4000000 in
theorem beatSteady_walk (b : BT) (now later : Int) (w : World) (hnow : -9223372036854775808 ≤ now ∧ now ≤ 9223372036854775807) (hlat : -9223372036854775808 ≤ later ∧ later ≤ 9223372036854775807) :
    Calls Try.prog 6 #[encB b, .int .i64 now, .int .i64 later] w fun e w' => e = .returned (.bool true) ∧ Below w.heap.size w w' := by
  have hT := tick_any b now
  have hW := when_any b
  have hG := got_any b now
  have hwf := cnt_wf b
  have hci : (cnt b).i = heldN b.i 1099511627776 := rfl
  generalize cnt b = c at *
  obtain ⟨be, bi, bo⟩ := b
  dsimp only at hci
  -- the beat's own box
  obtain ⟨W0, hW0⟩ : ∃ W0, W0 = w.alloc (.cells #[.int .i64 be, .int .i64 bi, .int .i64 bo] 41) := ⟨_, rfl⟩
  have hb0 : Below w.heap.size w W0 := by rw [hW0]; exact (Below.refl _ w).alloc (Nat.le_refl _) _
  have hx0 : Bx W0 w.heap.size 41 [.int .i64 be, .int .i64 bi, .int .i64 bo] := by rw [hW0]; exact Bx.new w _ _
  by_cases hin : 0 ≤ now ∧ now ≤ 1099511627776
  · have ht : heldN now 1099511627776 = now := held_in _ _ hin.1 hin.2
    rw [ht] at hT hG
    obtain ⟨hw1, hw2⟩ := steady_when c hwf now hin.1
    have hkw := tick_wf c hwf now hin.1 hin.2
    have hke := tick_e c now
    have n1 : decide (0 ≤ now) = true := by simpa using hin.1
    have n2 : decide (now ≤ 1099511627776) = true := by simpa using hin.2
    have n3 : decide (now < 0) = false := by simp; omega
    have n4 : decide (1099511627776 < now) = false := by simp; omega
    by_cases h0 : c.e = 0
    · have hq : (!(c.e == 0)) = false := by simp [h0]
      have hs : sendK c now = false := by simp [sendK, h0]
      have hg : goneK c now = false := by simp [goneK, h0]
      rw [hs, hg] at hT
      rw [hq] at hW hw1
      rw [hs, hg] at hw1
      have r2 : decide (now < whenK c) = false := hw1.symm
      generalize tickK c now = k at *
      generalize whenK c = z at *
      obtain ⟨ke, ki, ko⟩ := k
      unfold encB at *
      dsimp only at *
      clear hG hwf hci hw1 hw2 hkw hke ht hin hnow hlat h0 hq hs hg
      obtain ⟨x0, x1, x2⟩ := hx0.threeB
      go_enter Try.func6, Try.ntmps6
      go_wp2_with fail
      rw [← hW0]
      clear hW0
      go_wp2_with fail
      refine (bshown_any W0).mono ?_
      rintro e w1 ⟨rfl, hb1⟩
      have hB1 := hb0.trans (hb1.mono hb0.size)
      have hx1 := hx0.kept hb1
      clear x0 x1 x2
      obtain ⟨x0, x1, x2⟩ := hx1.threeB
      clear hx0 hb0 hb1
      go_wp2_with fail
      refine (hT _).mono ?_
      rintro e w2 ⟨rfl, hb2⟩
      have hB2 := hB1.trans (hb2.mono hB1.size)
      have hx2 := hx1.kept hb2
      have hx2 := hx2.alloc (.cells #[.int .i64 ke, .int .i64 ki, .int .i64 ko] 41)
      have hz2 := Bx.new w2 41 [.int .i64 ke, .int .i64 ki, .int .i64 ko]
      clear x0 x1 x2
      obtain ⟨x0, x1, x2⟩ := hx2.threeB
      have hB3 := hB2.alloc hB2.size (.cells #[.int .i64 ke, .int .i64 ki, .int .i64 ko] 41)
      have hs3 := hB3.size
      clear hx1 hb2 hB1 hB2 hT
      go_wp2_with fail
      refine (hW _).mono ?_
      rintro e w4 ⟨rfl, hb4⟩
      have hB4 := hB3.trans (hb4.mono hs3)
      have hx4 := hx2.kept hb4
      have hz4 := hz2.kept hb4
      clear hW hb4 hB3 x0 x1 x2 hs3 hx2 hz2
      clear hx4 hz4
      go_wp2
      all_goals (go_ret; exact ⟨rfl, hB4⟩)
    · have hq : (!(c.e == 0)) = true := by simp [h0]
      have hw2 := hw2 h0
      rw [hq] at hW hw1
      -- what the two later ticks tell
      have hA : sendK c now = true → sendK (tickK c now) later = decide (c.e ≤ later - now) := steady_again c now later h0
      have hL : bi ≤ now → goneK (gotK c now) later = decide (2 * c.e ≤ later - now) := fun hb => steady_lost c bi now later h0 hb hci hin.1
      have hgw := got_wf c hwf now hin.1 hin.2
      have hs3 : (decide (later < now) = true) ∨ (decide (later < now) = false ∧ decide (1099511627776 < later) = true) ∨ (decide (later < now) = false ∧ decide (1099511627776 < later) = false ∧ now ≤ later ∧ later ≤ 1099511627776) := by
        simp; omega
      have hr : (sendK c now = true ∧ goneK c now = true ∧ decide (whenK c ≤ now) = true ∧ decide (now < whenK c) = false) ∨ (sendK c now = true ∧ goneK c now = false ∧ decide (whenK c ≤ now) = true ∧ decide (now < whenK c) = false) ∨
          (sendK c now = false ∧ goneK c now = true ∧ decide (whenK c ≤ now) = true ∧ decide (now < whenK c) = false) ∨ (sendK c now = false ∧ goneK c now = false ∧ decide (whenK c ≤ now) = false ∧ decide (now < whenK c) = true) := by
        have hd : decide (now < whenK c) = !(decide (whenK c ≤ now)) := by
          by_cases hx : whenK c ≤ now
          · have : ¬ (now < whenK c) := by omega
            simp [hx, this]
          · have : now < whenK c := by omega
            simp [hx, this]
        rw [hd, hw2]
        cases sendK c now <;> cases goneK c now <;> simp
      clear hw1 hw2
      rcases hs3 with u3 | ⟨u3, u4⟩ | ⟨u3, u4, hnl, hlt⟩
      · rcases hr with ⟨v1, v2, v3, v4⟩ | ⟨v1, v2, v3, v4⟩ | ⟨v1, v2, v3, v4⟩ | ⟨v1, v2, v3, v4⟩
        all_goals (
          rw [v1, v2] at hT
          clear hA hL hgw v1 v2
          generalize tickK c now = k at *
          generalize whenK c = z at *
          obtain ⟨ke, ki, ko⟩ := k
          unfold encB at *
          dsimp only at *
          clear hG hwf hci hkw hke ht hin hnow hlat h0 hq
          obtain ⟨x0, x1, x2⟩ := hx0.threeB
          go_enter Try.func6, Try.ntmps6
          go_wp2_with fail
          rw [← hW0]
          clear hW0
          go_wp2_with fail
          refine (bshown_any W0).mono ?_
          rintro e w1 ⟨rfl, hb1⟩
          have hB1 := hb0.trans (hb1.mono hb0.size)
          have hx1 := hx0.kept hb1
          clear x0 x1 x2
          obtain ⟨x0, x1, x2⟩ := hx1.threeB
          clear hx0 hb0 hb1
          go_wp2_with fail
          refine (hT _).mono ?_
          rintro e w2 ⟨rfl, hb2⟩
          have hB2 := hB1.trans (hb2.mono hB1.size)
          have hx2 := hx1.kept hb2
          have hx2 := hx2.alloc (.cells #[.int .i64 ke, .int .i64 ki, .int .i64 ko] 41)
          have hz2 := Bx.new w2 41 [.int .i64 ke, .int .i64 ki, .int .i64 ko]
          clear x0 x1 x2
          obtain ⟨x0, x1, x2⟩ := hx2.threeB
          have hB3 := hB2.alloc hB2.size (.cells #[.int .i64 ke, .int .i64 ki, .int .i64 ko] 41)
          have hs3 := hB3.size
          clear hx1 hb2 hB1 hB2 hT
          go_wp2_with fail
          refine (hW _).mono ?_
          rintro e w4 ⟨rfl, hb4⟩
          have hB4 := hB3.trans (hb4.mono hs3)
          have hx4 := hx2.kept hb4
          have hz4 := hz2.kept hb4
          clear hW hb4 hB3 x0 x1 x2 hs3 hx2 hz2
          clear hx4 hz4
          go_wp2
          go_ret
          exact ⟨rfl, hB4⟩)
      · rcases hr with ⟨v1, v2, v3, v4⟩ | ⟨v1, v2, v3, v4⟩ | ⟨v1, v2, v3, v4⟩ | ⟨v1, v2, v3, v4⟩
        all_goals (
          rw [v1, v2] at hT
          clear hA hL hgw v1 v2
          generalize tickK c now = k at *
          generalize whenK c = z at *
          obtain ⟨ke, ki, ko⟩ := k
          unfold encB at *
          dsimp only at *
          clear hG hwf hci hkw hke ht hin hnow hlat h0 hq
          obtain ⟨x0, x1, x2⟩ := hx0.threeB
          go_enter Try.func6, Try.ntmps6
          go_wp2_with fail
          rw [← hW0]
          clear hW0
          go_wp2_with fail
          refine (bshown_any W0).mono ?_
          rintro e w1 ⟨rfl, hb1⟩
          have hB1 := hb0.trans (hb1.mono hb0.size)
          have hx1 := hx0.kept hb1
          clear x0 x1 x2
          obtain ⟨x0, x1, x2⟩ := hx1.threeB
          clear hx0 hb0 hb1
          go_wp2_with fail
          refine (hT _).mono ?_
          rintro e w2 ⟨rfl, hb2⟩
          have hB2 := hB1.trans (hb2.mono hB1.size)
          have hx2 := hx1.kept hb2
          have hx2 := hx2.alloc (.cells #[.int .i64 ke, .int .i64 ki, .int .i64 ko] 41)
          have hz2 := Bx.new w2 41 [.int .i64 ke, .int .i64 ki, .int .i64 ko]
          clear x0 x1 x2
          obtain ⟨x0, x1, x2⟩ := hx2.threeB
          have hB3 := hB2.alloc hB2.size (.cells #[.int .i64 ke, .int .i64 ki, .int .i64 ko] 41)
          have hs3 := hB3.size
          clear hx1 hb2 hB1 hB2 hT
          go_wp2_with fail
          refine (hW _).mono ?_
          rintro e w4 ⟨rfl, hb4⟩
          have hB4 := hB3.trans (hb4.mono hs3)
          have hx4 := hx2.kept hb4
          have hz4 := hz2.kept hb4
          clear hW hb4 hB3 x0 x1 x2 hs3 hx2 hz2
          clear hx4 hz4
          go_wp2
          go_ret
          exact ⟨rfl, hB4⟩)
      · have hT2 := tick_any (tickK c now) later
        have hT3 := tick_any (gotK c now) later
        rw [cnt_in _ hkw, held_in later _ (by omega) hlt] at hT2
        rw [cnt_in _ hgw, held_in later _ (by omega) hlt] at hT3
        obtain ⟨D, hD⟩ : ∃ D, D = later - now := ⟨_, rfl⟩
        have e1 : IntKind.i64.wrap (later - now) = D := by simp only [IntKind.wrap_i64]; omega
        obtain ⟨E2, hE2⟩ : ∃ E2, E2 = 2 * c.e := ⟨_, rfl⟩
        have e2 : IntKind.i64.wrap (2 * c.e) = E2 := by have := hwf.1; have := hwf.2.1; simp only [IntKind.wrap_i64]; omega
        rw [← hD] at hA hL
        rw [← hE2] at hL
        rw [← hke] at hA e2
        generalize tickK (tickK c now) later = k2 at *
        generalize tickK (gotK c now) later = k3 at *
        generalize goneK (tickK c now) later = g2 at *
        generalize sendK (gotK c now) later = s3 at *
        generalize goneK (gotK c now) later = L at *
        generalize sendK (tickK c now) later = A at *
        generalize gotK c now = gk at *
        have hbb : (decide (now < bi) = true) ∨ (decide (now < bi) = false ∧ L = decide (E2 ≤ D)) := by
          by_cases hx : bi ≤ now
          · exact .inr ⟨by simp; omega, hL hx⟩
          · exact .inl (by simp; omega)
        rcases hr with ⟨v1, v2, v3, v4⟩ | ⟨v1, v2, v3, v4⟩ | ⟨v1, v2, v3, v4⟩ | ⟨v1, v2, v3, v4⟩
        · have hA1 := hA v1
          rw [v1, v2] at hT
          clear hA hL hgw v1 v2
          generalize tickK c now = k at *
          generalize whenK c = z at *
          obtain ⟨ke, ki, ko⟩ := k
          obtain ⟨ae, ai, ao⟩ := k2
          obtain ⟨ce, ci, co⟩ := k3
          obtain ⟨ge, gi, go⟩ := gk
          unfold encB at *
          dsimp only at *
          clear hwf hci hkw hke ht hin hnow hlat h0 hq hD hE2 hnl hlt
          obtain ⟨x0, x1, x2⟩ := hx0.threeB
          go_enter Try.func6, Try.ntmps6
          go_wp2_with fail
          rw [← hW0]
          clear hW0
          go_wp2_with fail
          refine (bshown_any W0).mono ?_
          rintro e w1 ⟨rfl, hb1⟩
          have hB1 := hb0.trans (hb1.mono hb0.size)
          have hx1 := hx0.kept hb1
          clear x0 x1 x2
          obtain ⟨x0, x1, x2⟩ := hx1.threeB
          clear hx0 hb0 hb1
          go_wp2_with fail
          refine (hT _).mono ?_
          rintro e w2 ⟨rfl, hb2⟩
          have hB2 := hB1.trans (hb2.mono hB1.size)
          have hx2 := hx1.kept hb2
          have hx2 := hx2.alloc (.cells #[.int .i64 ke, .int .i64 ki, .int .i64 ko] 41)
          have hz2 := Bx.new w2 41 [.int .i64 ke, .int .i64 ki, .int .i64 ko]
          clear x0 x1 x2
          obtain ⟨x0, x1, x2⟩ := hx2.threeB
          have hB3 := hB2.alloc hB2.size (.cells #[.int .i64 ke, .int .i64 ki, .int .i64 ko] 41)
          have hs3 := hB3.size
          clear hx1 hb2 hB1 hB2 hT
          go_wp2_with fail
          refine (hW _).mono ?_
          rintro e w4 ⟨rfl, hb4⟩
          have hB4 := hB3.trans (hb4.mono hs3)
          have hx4 := hx2.kept hb4
          have hz4 := hz2.kept hb4
          clear hW hb4 hB3 x0 x1 x2 hs3 hx2 hz2
          obtain ⟨x0, x1, x2⟩ := hx4.threeB
          obtain ⟨y0, y1, y2⟩ := hz4.threeB
          clear hw2
          subst hA1
          go_wp2_with fail
          refine (hT2 _).mono ?_
          rintro e w5 ⟨rfl, hb5⟩
          have hx5 := (hx4.kept hb5).alloc (.cells #[.int .i64 ae, .int .i64 ai, .int .i64 ao] 41)
          have hz5 := (hz4.kept hb5).alloc (.cells #[.int .i64 ae, .int .i64 ai, .int .i64 ao] 41)
          have hB5 := hB4.trans (hb5.mono hB4.size)
          have hB5 := hB5.alloc hB5.size (.cells #[.int .i64 ae, .int .i64 ai, .int .i64 ao] 41)
          clear x0 x1 x2 y0 y1 y2 hx4 hz4 hB4 hb5 hT2
          obtain ⟨x0, x1, x2⟩ := hx5.threeB
          go_wp2_with fail
          refine (hG _).mono ?_
          rintro e w6 ⟨rfl, hb6⟩
          have hx6 := hx5.kept hb6
          have hz6 := hz5.kept hb6
          have hB6 := hB5.trans (hb6.mono hB5.size)
          clear x0 x1 x2 hx5 hz5 hB5 hb6 hG
          go_wp2_with fail
          refine (hT3 _).mono ?_
          rintro e w7 ⟨rfl, hb7⟩
          have hx7 := (hx6.kept hb7).alloc (.cells #[.int .i64 ce, .int .i64 ci, .int .i64 co] 41)
          have hz7 := (hz6.kept hb7).alloc (.cells #[.int .i64 ce, .int .i64 ci, .int .i64 co] 41)
          have hB7 := hB6.trans (hb7.mono hB6.size)
          have hB7 := hB7.alloc hB7.size (.cells #[.int .i64 ce, .int .i64 ci, .int .i64 co] 41)
          clear hx6 hz6 hB6 hb7 hT3
          obtain ⟨x0, x1, x2⟩ := hx7.threeB
          obtain ⟨y0, y1, y2⟩ := hz7.threeB
          have HB := Lib.hid hB7
          clear hx7 hz7 hB7 n1 n2 n3 n4 u3 u4 v3 v4
          rcases hbb with hbi | ⟨hbi, rfl⟩
          · go_wp2
            go_ret
            exact ⟨rfl, HB.out⟩
          · go_wp2
            go_ret
            exact ⟨rfl, HB.out⟩
        · have hA1 := hA v1
          rw [v1, v2] at hT
          clear hA hL hgw v1 v2
          generalize tickK c now = k at *
          generalize whenK c = z at *
          obtain ⟨ke, ki, ko⟩ := k
          obtain ⟨ae, ai, ao⟩ := k2
          obtain ⟨ce, ci, co⟩ := k3
          obtain ⟨ge, gi, go⟩ := gk
          unfold encB at *
          dsimp only at *
          clear hwf hci hkw hke ht hin hnow hlat h0 hq hD hE2 hnl hlt
          obtain ⟨x0, x1, x2⟩ := hx0.threeB
          go_enter Try.func6, Try.ntmps6
          go_wp2_with fail
          rw [← hW0]
          clear hW0
          go_wp2_with fail
          refine (bshown_any W0).mono ?_
          rintro e w1 ⟨rfl, hb1⟩
          have hB1 := hb0.trans (hb1.mono hb0.size)
          have hx1 := hx0.kept hb1
          clear x0 x1 x2
          obtain ⟨x0, x1, x2⟩ := hx1.threeB
          clear hx0 hb0 hb1
          go_wp2_with fail
          refine (hT _).mono ?_
          rintro e w2 ⟨rfl, hb2⟩
          have hB2 := hB1.trans (hb2.mono hB1.size)
          have hx2 := hx1.kept hb2
          have hx2 := hx2.alloc (.cells #[.int .i64 ke, .int .i64 ki, .int .i64 ko] 41)
          have hz2 := Bx.new w2 41 [.int .i64 ke, .int .i64 ki, .int .i64 ko]
          clear x0 x1 x2
          obtain ⟨x0, x1, x2⟩ := hx2.threeB
          have hB3 := hB2.alloc hB2.size (.cells #[.int .i64 ke, .int .i64 ki, .int .i64 ko] 41)
          have hs3 := hB3.size
          clear hx1 hb2 hB1 hB2 hT
          go_wp2_with fail
          refine (hW _).mono ?_
          rintro e w4 ⟨rfl, hb4⟩
          have hB4 := hB3.trans (hb4.mono hs3)
          have hx4 := hx2.kept hb4
          have hz4 := hz2.kept hb4
          clear hW hb4 hB3 x0 x1 x2 hs3 hx2 hz2
          obtain ⟨x0, x1, x2⟩ := hx4.threeB
          obtain ⟨y0, y1, y2⟩ := hz4.threeB
          clear hw2
          subst hA1
          go_wp2_with fail
          refine (hT2 _).mono ?_
          rintro e w5 ⟨rfl, hb5⟩
          have hx5 := (hx4.kept hb5).alloc (.cells #[.int .i64 ae, .int .i64 ai, .int .i64 ao] 41)
          have hz5 := (hz4.kept hb5).alloc (.cells #[.int .i64 ae, .int .i64 ai, .int .i64 ao] 41)
          have hB5 := hB4.trans (hb5.mono hB4.size)
          have hB5 := hB5.alloc hB5.size (.cells #[.int .i64 ae, .int .i64 ai, .int .i64 ao] 41)
          clear x0 x1 x2 y0 y1 y2 hx4 hz4 hB4 hb5 hT2
          obtain ⟨x0, x1, x2⟩ := hx5.threeB
          go_wp2_with fail
          refine (hG _).mono ?_
          rintro e w6 ⟨rfl, hb6⟩
          have hx6 := hx5.kept hb6
          have hz6 := hz5.kept hb6
          have hB6 := hB5.trans (hb6.mono hB5.size)
          clear x0 x1 x2 hx5 hz5 hB5 hb6 hG
          go_wp2_with fail
          refine (hT3 _).mono ?_
          rintro e w7 ⟨rfl, hb7⟩
          have hx7 := (hx6.kept hb7).alloc (.cells #[.int .i64 ce, .int .i64 ci, .int .i64 co] 41)
          have hz7 := (hz6.kept hb7).alloc (.cells #[.int .i64 ce, .int .i64 ci, .int .i64 co] 41)
          have hB7 := hB6.trans (hb7.mono hB6.size)
          have hB7 := hB7.alloc hB7.size (.cells #[.int .i64 ce, .int .i64 ci, .int .i64 co] 41)
          clear hx6 hz6 hB6 hb7 hT3
          obtain ⟨x0, x1, x2⟩ := hx7.threeB
          obtain ⟨y0, y1, y2⟩ := hz7.threeB
          have HB := Lib.hid hB7
          clear hx7 hz7 hB7 n1 n2 n3 n4 u3 u4 v3 v4
          rcases hbb with hbi | ⟨hbi, rfl⟩
          · go_wp2
            go_ret
            exact ⟨rfl, HB.out⟩
          · go_wp2
            go_ret
            exact ⟨rfl, HB.out⟩
        · rw [v1, v2] at hT
          clear hA hL hgw v1 v2
          generalize tickK c now = k at *
          generalize whenK c = z at *
          obtain ⟨ke, ki, ko⟩ := k
          obtain ⟨ae, ai, ao⟩ := k2
          obtain ⟨ce, ci, co⟩ := k3
          obtain ⟨ge, gi, go⟩ := gk
          unfold encB at *
          dsimp only at *
          clear hwf hci hkw hke ht hin hnow hlat h0 hq hD hE2 hnl hlt
          obtain ⟨x0, x1, x2⟩ := hx0.threeB
          go_enter Try.func6, Try.ntmps6
          go_wp2_with fail
          rw [← hW0]
          clear hW0
          go_wp2_with fail
          refine (bshown_any W0).mono ?_
          rintro e w1 ⟨rfl, hb1⟩
          have hB1 := hb0.trans (hb1.mono hb0.size)
          have hx1 := hx0.kept hb1
          clear x0 x1 x2
          obtain ⟨x0, x1, x2⟩ := hx1.threeB
          clear hx0 hb0 hb1
          go_wp2_with fail
          refine (hT _).mono ?_
          rintro e w2 ⟨rfl, hb2⟩
          have hB2 := hB1.trans (hb2.mono hB1.size)
          have hx2 := hx1.kept hb2
          have hx2 := hx2.alloc (.cells #[.int .i64 ke, .int .i64 ki, .int .i64 ko] 41)
          have hz2 := Bx.new w2 41 [.int .i64 ke, .int .i64 ki, .int .i64 ko]
          clear x0 x1 x2
          obtain ⟨x0, x1, x2⟩ := hx2.threeB
          have hB3 := hB2.alloc hB2.size (.cells #[.int .i64 ke, .int .i64 ki, .int .i64 ko] 41)
          have hs3 := hB3.size
          clear hx1 hb2 hB1 hB2 hT
          go_wp2_with fail
          refine (hW _).mono ?_
          rintro e w4 ⟨rfl, hb4⟩
          have hB4 := hB3.trans (hb4.mono hs3)
          have hx4 := hx2.kept hb4
          have hz4 := hz2.kept hb4
          clear hW hb4 hB3 x0 x1 x2 hs3 hx2 hz2
          obtain ⟨x0, x1, x2⟩ := hx4.threeB
          obtain ⟨y0, y1, y2⟩ := hz4.threeB
          clear hw2
          go_wp2_with fail
          refine (hT2 _).mono ?_
          rintro e w5 ⟨rfl, hb5⟩
          have hx5 := (hx4.kept hb5).alloc (.cells #[.int .i64 ae, .int .i64 ai, .int .i64 ao] 41)
          have hz5 := (hz4.kept hb5).alloc (.cells #[.int .i64 ae, .int .i64 ai, .int .i64 ao] 41)
          have hB5 := hB4.trans (hb5.mono hB4.size)
          have hB5 := hB5.alloc hB5.size (.cells #[.int .i64 ae, .int .i64 ai, .int .i64 ao] 41)
          clear x0 x1 x2 y0 y1 y2 hx4 hz4 hB4 hb5 hT2
          obtain ⟨x0, x1, x2⟩ := hx5.threeB
          go_wp2_with fail
          refine (hG _).mono ?_
          rintro e w6 ⟨rfl, hb6⟩
          have hx6 := hx5.kept hb6
          have hz6 := hz5.kept hb6
          have hB6 := hB5.trans (hb6.mono hB5.size)
          clear x0 x1 x2 hx5 hz5 hB5 hb6 hG
          go_wp2_with fail
          refine (hT3 _).mono ?_
          rintro e w7 ⟨rfl, hb7⟩
          have hx7 := (hx6.kept hb7).alloc (.cells #[.int .i64 ce, .int .i64 ci, .int .i64 co] 41)
          have hz7 := (hz6.kept hb7).alloc (.cells #[.int .i64 ce, .int .i64 ci, .int .i64 co] 41)
          have hB7 := hB6.trans (hb7.mono hB6.size)
          have hB7 := hB7.alloc hB7.size (.cells #[.int .i64 ce, .int .i64 ci, .int .i64 co] 41)
          clear hx6 hz6 hB6 hb7 hT3
          obtain ⟨x0, x1, x2⟩ := hx7.threeB
          obtain ⟨y0, y1, y2⟩ := hz7.threeB
          have HB := Lib.hid hB7
          clear hx7 hz7 hB7 n1 n2 n3 n4 u3 u4 v3 v4
          rcases hbb with hbi | ⟨hbi, rfl⟩
          · go_wp2
            go_ret
            exact ⟨rfl, HB.out⟩
          · go_wp2
            go_ret
            exact ⟨rfl, HB.out⟩
        · rw [v1, v2] at hT
          clear hA hL hgw v1 v2
          generalize tickK c now = k at *
          generalize whenK c = z at *
          obtain ⟨ke, ki, ko⟩ := k
          obtain ⟨ae, ai, ao⟩ := k2
          obtain ⟨ce, ci, co⟩ := k3
          obtain ⟨ge, gi, go⟩ := gk
          unfold encB at *
          dsimp only at *
          clear hwf hci hkw hke ht hin hnow hlat h0 hq hD hE2 hnl hlt
          obtain ⟨x0, x1, x2⟩ := hx0.threeB
          go_enter Try.func6, Try.ntmps6
          go_wp2_with fail
          rw [← hW0]
          clear hW0
          go_wp2_with fail
          refine (bshown_any W0).mono ?_
          rintro e w1 ⟨rfl, hb1⟩
          have hB1 := hb0.trans (hb1.mono hb0.size)
          have hx1 := hx0.kept hb1
          clear x0 x1 x2
          obtain ⟨x0, x1, x2⟩ := hx1.threeB
          clear hx0 hb0 hb1
          go_wp2_with fail
          refine (hT _).mono ?_
          rintro e w2 ⟨rfl, hb2⟩
          have hB2 := hB1.trans (hb2.mono hB1.size)
          have hx2 := hx1.kept hb2
          have hx2 := hx2.alloc (.cells #[.int .i64 ke, .int .i64 ki, .int .i64 ko] 41)
          have hz2 := Bx.new w2 41 [.int .i64 ke, .int .i64 ki, .int .i64 ko]
          clear x0 x1 x2
          obtain ⟨x0, x1, x2⟩ := hx2.threeB
          have hB3 := hB2.alloc hB2.size (.cells #[.int .i64 ke, .int .i64 ki, .int .i64 ko] 41)
          have hs3 := hB3.size
          clear hx1 hb2 hB1 hB2 hT
          go_wp2_with fail
          refine (hW _).mono ?_
          rintro e w4 ⟨rfl, hb4⟩
          have hB4 := hB3.trans (hb4.mono hs3)
          have hx4 := hx2.kept hb4
          have hz4 := hz2.kept hb4
          clear hW hb4 hB3 x0 x1 x2 hs3 hx2 hz2
          obtain ⟨x0, x1, x2⟩ := hx4.threeB
          obtain ⟨y0, y1, y2⟩ := hz4.threeB
          clear hw2
          go_wp2_with fail
          refine (hT2 _).mono ?_
          rintro e w5 ⟨rfl, hb5⟩
          have hx5 := (hx4.kept hb5).alloc (.cells #[.int .i64 ae, .int .i64 ai, .int .i64 ao] 41)
          have hz5 := (hz4.kept hb5).alloc (.cells #[.int .i64 ae, .int .i64 ai, .int .i64 ao] 41)
          have hB5 := hB4.trans (hb5.mono hB4.size)
          have hB5 := hB5.alloc hB5.size (.cells #[.int .i64 ae, .int .i64 ai, .int .i64 ao] 41)
          clear x0 x1 x2 y0 y1 y2 hx4 hz4 hB4 hb5 hT2
          obtain ⟨x0, x1, x2⟩ := hx5.threeB
          go_wp2_with fail
          refine (hG _).mono ?_
          rintro e w6 ⟨rfl, hb6⟩
          have hx6 := hx5.kept hb6
          have hz6 := hz5.kept hb6
          have hB6 := hB5.trans (hb6.mono hB5.size)
          clear x0 x1 x2 hx5 hz5 hB5 hb6 hG
          go_wp2_with fail
          refine (hT3 _).mono ?_
          rintro e w7 ⟨rfl, hb7⟩
          have hx7 := (hx6.kept hb7).alloc (.cells #[.int .i64 ce, .int .i64 ci, .int .i64 co] 41)
          have hz7 := (hz6.kept hb7).alloc (.cells #[.int .i64 ce, .int .i64 ci, .int .i64 co] 41)
          have hB7 := hB6.trans (hb7.mono hB6.size)
          have hB7 := hB7.alloc hB7.size (.cells #[.int .i64 ce, .int .i64 ci, .int .i64 co] 41)
          clear hx6 hz6 hB6 hb7 hT3
          obtain ⟨x0, x1, x2⟩ := hx7.threeB
          obtain ⟨y0, y1, y2⟩ := hz7.threeB
          have HB := Lib.hid hB7
          clear hx7 hz7 hB7 n1 n2 n3 n4 u3 u4 v3 v4
          rcases hbb with hbi | ⟨hbi, rfl⟩
          · go_wp2
            go_ret
            exact ⟨rfl, HB.out⟩
          · go_wp2
            go_ret
            exact ⟨rfl, HB.out⟩
  · -- the time doesn't count
    generalize sendK c (heldN now 1099511627776) = s at *
    generalize goneK c (heldN now 1099511627776) = g at *
    generalize tickK c (heldN now 1099511627776) = k at *
    generalize whenK c = z at *
    generalize (!(c.e == 0)) = q at *
    obtain ⟨ke, ki, ko⟩ := k
    unfold encB at *
    dsimp only at *
    clear hG hwf hci
    have tests : (decide (0 ≤ now) = false ∧ decide (now < 0) = true) ∨ (decide (0 ≤ now) = true ∧ decide (now < 0) = false ∧ decide (now ≤ 1099511627776) = false ∧ decide (1099511627776 < now) = true) := by
      simp
      omega
    clear hnow hlat hin
    rcases tests with ⟨t1, t2⟩ | ⟨t1, t2, t3, t4⟩
    all_goals (
      obtain ⟨x0, x1, x2⟩ := hx0.threeB
      go_enter Try.func6, Try.ntmps6
      go_wp2_with fail
      rw [← hW0]
      clear hW0
      go_wp2_with fail
      refine (bshown_any W0).mono ?_
      rintro e w1 ⟨rfl, hb1⟩
      have hB1 := hb0.trans (hb1.mono hb0.size)
      have hx1 := hx0.kept hb1
      clear x0 x1 x2
      obtain ⟨x0, x1, x2⟩ := hx1.threeB
      clear hx0 hb0 hb1
      go_wp2_with fail
      refine (hT _).mono ?_
      rintro e w2 ⟨rfl, hb2⟩
      have hB2 := hB1.trans (hb2.mono hB1.size)
      have hx2 := hx1.kept hb2
      have hx2 := hx2.alloc (.cells #[.int .i64 ke, .int .i64 ki, .int .i64 ko] 41)
      clear x0 x1 x2
      obtain ⟨x0, x1, x2⟩ := hx2.threeB
      have hB3 := hB2.alloc hB2.size (.cells #[.int .i64 ke, .int .i64 ki, .int .i64 ko] 41)
      have hs3 := hB3.size
      clear hx1 hx2 hb2 hB1 hB2 hT
      go_wp2_with fail
      refine (hW _).mono ?_
      rintro e w4 ⟨rfl, hb4⟩
      have hB4 := hB3.trans (hb4.mono hs3)
      clear hW hb4 hB3 x0 x1 x2 hs3
      go_wp2
      go_ret
      exact ⟨rfl, hB4⟩)
end Go.Proofs.Ytlbmkokdoigcnaa
