/-
  container/heap: going down and up, as the plain functions say; nothing but the row is changed. Conditions: the row has less than a million places.
-/
import Derived.WalkMore
import Derived.Test.YtlbmkokdoigcnaaWQPush
namespace Go.Proofs.Ytlbmkokdoigcnaa
open Go.RowKit

/-- the heap as an interface value -/
abbrev ifQ (b : Nat) : Value := .iface 51 (.pointer (some ⟨b, 0, none⟩))
theorem qswap_n (g cap i j N : Nat) (l : List DP) (w : World) (hl : l.length = N) (hR : RowD w g cap l) (hi : i < N) (hj : j < N) :
    Calls Try.prog 66 #[.slice (some ⟨g, 0, none⟩) N cap, .int .i64 i, .int .i64 j] w fun e w' => e = .returned (.tuple #[]) ∧ RowD w' g cap (swp l i j) ∧ Fr1 g w w' := by
  subst hl
  exact qswap_any g cap i j l w hR hi hj
theorem qless_n (g cap i j N : Nat) (l : List DP) (w : World) (hl : l.length = N) (hR : RowD w g cap l) (hi : i < N) (hj : j < N) :
    Calls Try.prog 30 #[.slice (some ⟨g, 0, none⟩) N cap, .int .i64 i, .int .i64 j] w fun e w' => e = .returned (.bool (ltD (atD l i) (atD l j))) ∧ Below w.heap.size w w' := by
  subst hl
  obtain ⟨a1, a2, -⟩ := hR.at i hi
  obtain ⟨b1, b2, -⟩ := hR.at j hj
  exact qless_any g l.length cap i j (atD l i) (atD l j) w (by omega) (by omega) a1 a2 b1 b2

set_option maxRecDepth 100000 in
set_option maxHeartbeats 4000000 in
theorem down_any (b g cap n i N : Nat) (l : List DP) (w : World) (hx : BoxQ w b (.slice (some ⟨g, 0, none⟩) N cap)) (hR : RowD w g cap l) (hl : l.length = N) (hn : n ≤ N) (hN : N < 1000000) (hi : i < 1000000) :
    Calls Try.prog 47 #[ifQ b, .int .i64 i, .int .i64 n] w fun e w' => ∃ q, e = .returned (.bool q) ∧ RowD w' g cap (downF l i n) ∧ Fr1 g w w' := by
  have hgb : b ≠ g := by obtain ⟨cur, h1, -⟩ := hR; exact bx_apart hx h1 (by decide)
  go_enter Try.func47, Try.ntmps47
  go_wp2_with fail
  go_loopw [7] (fun v wr => ∃ (i' : Nat) (l' : List DP), v = .int .i64 i' ∧ i' < 1000000 ∧ l'.length = N ∧ RowD wr g cap l' ∧ Fr1 g w wr ∧ Hid (downF l' i' n = downF l i n)) (fun v _ => n - (intOf v).toNat)
  case atStart => exact ⟨i, l, rfl, hi, hl, hR, Fr1.refl _ _, Lib.hid rfl⟩
  case round =>
    obtain ⟨k, m, rfl, hk, hm, hRm, hF, HD⟩ := hrel
    have HXm : Hid (BoxQ wr b (.slice (some ⟨g, 0, none⟩) N cap)) := Lib.hid (hF.bx hx hgb)
    clear hR hx hl
    have HN := Lib.hid hn
    obtain ⟨D, hD⟩ : ∃ D, D = 2 * k := ⟨_, rfl⟩
    obtain ⟨J, hJ⟩ : ∃ J, J = 2 * k + 1 := ⟨_, rfl⟩
    obtain ⟨J1, hJ1⟩ : ∃ J1, J1 = J + 1 := ⟨_, rfl⟩
    have e1 : IntKind.i64.wrap (2 * (k : Int)) = (D : Int) := by simp only [IntKind.wrap_i64]; omega
    have e2 : IntKind.i64.wrap ((D : Int) + 1) = (J : Int) := by simp only [IntKind.wrap_i64]; omega
    have e3 : IntKind.i64.wrap ((J : Int) + 1) = (J1 : Int) := by simp only [IntKind.wrap_i64]; omega
    rcases Nat.lt_or_ge J n with hlt | hge
    · have t1 : decide (n ≤ J) = false := by simp; omega
      have t2 : ¬ (n ≤ J) := by omega
      have kN : k < N := by omega
      have jN : J < N := by omega
      have HJ : Hid (J = 2 * k + 1 ∧ J1 = J + 1 ∧ J < n) := Lib.hid ⟨hJ, hJ1, hlt⟩
      rcases Nat.lt_or_ge J1 n with h1 | h1
      · have t3 : decide (J1 < n) = true := by simp; omega
        have hm1 := meth_less (BoxQ.c HXm.out)
        have j1N : J1 < N := by omega
        clear hD hJ hJ1 hlt hn
        go_wp2_with fail
        refine (qless_n g cap J1 J N m wr hm hRm j1N jN).mono ?_
        rintro e w2 ⟨rfl, hb2⟩
        have HX2 : Hid (BoxQ w2 b (.slice (some ⟨g, 0, none⟩) N cap)) := Lib.hid ((hb2.block b HXm.out.lt).trans HXm.out)
        have hR2 : RowD w2 g cap m := hRm.kept (hb2.block g hRm.lt)
        have hF2 := hF.trans (Fr1.of (g := g) hb2)
        clear hm1 hRm hF hb2
        have HQ : Hid (ltD (atD m J1) (atD m J) = ltD (atD m J1) (atD m J)) := Lib.hid rfl
        generalize hq : ltD (atD m J1) (atD m J) = q at HQ ⊢
        have HQ2 := Lib.hid hq
        clear hq HQ
        cases q
        · have HC : Hid (chJ m n (2 * k + 1) = J) := Lib.hid (by
            obtain ⟨a1, a2, a3⟩ := HJ.out
            rw [← a1, chJ, if_neg (fun h => by rw [← a2] at h; exact absurd (h.2.symm.trans HQ2.out) (by decide))])
          clear HQ2 h1 t3
          have hm2 := meth_less (BoxQ.c HX2.out)
          go_wp2_with fail
          refine (qless_n g cap J k N m w2 hm hR2 jN kN).mono ?_
          rintro e w3 ⟨rfl, hb3⟩
          have HX3 : Hid (BoxQ w3 b (.slice (some ⟨g, 0, none⟩) N cap)) := Lib.hid ((hb3.block b HX2.out.lt).trans HX2.out)
          have hR3 : RowD w3 g cap m := hR2.kept (hb3.block g hR2.lt)
          have hF3 := hF2.trans (Fr1.of (g := g) hb3)
          clear hm2 hR2 hF2 hb3
          generalize hq : ltD (atD m J) (atD m k) = q
          have HQ := Lib.hid hq
          clear hq
          cases q
          · have HE : Hid (RowD w3 g cap (downF l i n)) := Lib.hid (by
              obtain ⟨a1, a2, a3⟩ := HJ.out
              rw [← HD.out, downF, dif_pos (by omega), HC.out, HQ.out, if_neg (by decide)]
              exact hR3)
            clear hR3 HD HC HQ
            go_wp2
            go_ret
            exact ⟨_, rfl, HE.out, hF3⟩
          · have HD2 : Hid (downF (swp m k J) J n = downF l i n) := Lib.hid (by
              obtain ⟨a1, a2, a3⟩ := HJ.out
              rw [← HD.out]
              conv => rhs; rw [downF, dif_pos (show 2 * k + 1 < n by omega), HC.out, HQ.out, if_pos rfl])
            have hm3 := meth_swap (BoxQ.c HX3.out)
            clear HD HC HQ
            go_wp2_with fail
            refine (qswap_n g cap k J N m w3 hm hR3 kN jN).mono ?_
            rintro e w4 ⟨rfl, hR4, hF4⟩
            clear hm3
            go_wp2_with fail
            go_roundw
            case rel => exact ⟨J, swp m k J, rfl, by have := HJ.out; have := HN.out; omega, by rw [swp_length]; exact hm, hR4, hF3.trans hF4, HD2⟩
            case measure => have := HJ.out; simp only [intOf]; omega
        · have HC : Hid (chJ m n (2 * k + 1) = J1) := Lib.hid (by
            obtain ⟨a1, a2, a3⟩ := HJ.out
            rw [← a1, chJ, ← a2, if_pos ⟨h1, HQ2.out⟩])
          clear HQ2 h1 t3
          have hm2 := meth_less (BoxQ.c HX2.out)
          go_wp2_with fail
          refine (qless_n g cap J1 k N m w2 hm hR2 j1N kN).mono ?_
          rintro e w3 ⟨rfl, hb3⟩
          have HX3 : Hid (BoxQ w3 b (.slice (some ⟨g, 0, none⟩) N cap)) := Lib.hid ((hb3.block b HX2.out.lt).trans HX2.out)
          have hR3 : RowD w3 g cap m := hR2.kept (hb3.block g hR2.lt)
          have hF3 := hF2.trans (Fr1.of (g := g) hb3)
          clear hm2 hR2 hF2 hb3
          generalize hq : ltD (atD m J1) (atD m k) = q
          have HQ := Lib.hid hq
          clear hq
          cases q
          · have HE : Hid (RowD w3 g cap (downF l i n)) := Lib.hid (by
              obtain ⟨a1, a2, a3⟩ := HJ.out
              rw [← HD.out, downF, dif_pos (by omega), HC.out, HQ.out, if_neg (by decide)]
              exact hR3)
            clear hR3 HD HC HQ
            go_wp2
            go_ret
            exact ⟨_, rfl, HE.out, hF3⟩
          · have HD2 : Hid (downF (swp m k J1) J1 n = downF l i n) := Lib.hid (by
              obtain ⟨a1, a2, a3⟩ := HJ.out
              rw [← HD.out]
              conv => rhs; rw [downF, dif_pos (show 2 * k + 1 < n by omega), HC.out, HQ.out, if_pos rfl])
            have hm3 := meth_swap (BoxQ.c HX3.out)
            clear HD HC HQ
            go_wp2_with fail
            refine (qswap_n g cap k J1 N m w3 hm hR3 kN j1N).mono ?_
            rintro e w4 ⟨rfl, hR4, hF4⟩
            clear hm3
            go_wp2_with fail
            go_roundw
            case rel => exact ⟨J1, swp m k J1, rfl, by have := HJ.out; have := HN.out; omega, by rw [swp_length]; exact hm, hR4, hF3.trans hF4, HD2⟩
            case measure => have := HJ.out; simp only [intOf]; omega
      · have t3 : decide (J1 < n) = false := by simp; omega
        have t4 : ¬ (J1 < n) := by omega
        have HC : Hid (chJ m n (2 * k + 1) = J) := Lib.hid (by rw [← hJ, chJ, if_neg (by omega)])
        obtain ⟨w2, hw2⟩ : ∃ w2, w2 = wr := ⟨_, rfl⟩
        rw [← hw2] at HXm hRm hF ⊢
        clear hw2 hD hJ hJ1 hlt hn h1
        have HX2 := HXm
        have hR2 := hRm
        have hF2 := hF
        clear HXm hRm hF
        have hm2 := meth_less (BoxQ.c HX2.out)
        go_wp2_with fail
        refine (qless_n g cap J k N m w2 hm hR2 jN kN).mono ?_
        rintro e w3 ⟨rfl, hb3⟩
        have HX3 : Hid (BoxQ w3 b (.slice (some ⟨g, 0, none⟩) N cap)) := Lib.hid ((hb3.block b HX2.out.lt).trans HX2.out)
        have hR3 : RowD w3 g cap m := hR2.kept (hb3.block g hR2.lt)
        have hF3 := hF2.trans (Fr1.of (g := g) hb3)
        clear hm2 hR2 hF2 hb3
        generalize hq : ltD (atD m J) (atD m k) = q
        have HQ := Lib.hid hq
        clear hq
        cases q
        · have HE : Hid (RowD w3 g cap (downF l i n)) := Lib.hid (by
            obtain ⟨a1, a2, a3⟩ := HJ.out
            rw [← HD.out, downF, dif_pos (by omega), HC.out, HQ.out, if_neg (by decide)]
            exact hR3)
          clear hR3 HD HC HQ
          go_wp2
          go_ret
          exact ⟨_, rfl, HE.out, hF3⟩
        · have HD2 : Hid (downF (swp m k J) J n = downF l i n) := Lib.hid (by
            obtain ⟨a1, a2, a3⟩ := HJ.out
            rw [← HD.out]
            conv => rhs; rw [downF, dif_pos (show 2 * k + 1 < n by omega), HC.out, HQ.out, if_pos rfl])
          have hm3 := meth_swap (BoxQ.c HX3.out)
          clear HD HC HQ
          go_wp2_with fail
          refine (qswap_n g cap k J N m w3 hm hR3 kN jN).mono ?_
          rintro e w4 ⟨rfl, hR4, hF4⟩
          clear hm3
          go_wp2_with fail
          go_roundw
          case rel => exact ⟨J, swp m k J, rfl, by have := HJ.out; have := HN.out; omega, by rw [swp_length]; exact hm, hR4, hF3.trans hF4, HD2⟩
          case measure => have := HJ.out; simp only [intOf]; omega
    · have t1 : decide (n ≤ J) = true := by simp; omega
      have t2 : n ≤ J := hge
      have HE : Hid (RowD wr g cap (downF l i n)) := Lib.hid (by rw [← HD.out, downF, dif_neg (by omega)]; exact hRm)
      clear hD hJ hJ1 hge hRm HXm e3 HD
      go_wp2
      go_ret
      exact ⟨_, rfl, HE.out, hF⟩

set_option maxRecDepth 100000 in
set_option maxHeartbeats 4000000 in
theorem up_any (b g cap j N : Nat) (l : List DP) (w : World) (hx : BoxQ w b (.slice (some ⟨g, 0, none⟩) N cap)) (hR : RowD w g cap l) (hl : l.length = N) (hj : j < N) (hN : N < 1000000) :
    Calls Try.prog 44 #[ifQ b, .int .i64 j] w fun e w' => e = .returned (.tuple #[]) ∧ RowD w' g cap (upF l j) ∧ Fr1 g w w' := by
  have hgb : b ≠ g := by obtain ⟨cur, h1, -⟩ := hR; exact bx_apart hx h1 (by decide)
  go_enter Try.func44, Try.ntmps44
  go_wp2_with fail
  go_loopw [1] (fun v wr => ∃ (j' : Nat) (l' : List DP), v = .int .i64 j' ∧ j' < N ∧ l'.length = N ∧ RowD wr g cap l' ∧ Fr1 g w wr ∧ Hid (upF l' j' = upF l j)) (fun v _ => (intOf v).toNat)
  case atStart => exact ⟨j, l, rfl, hj, hl, hR, Fr1.refl _ _, Lib.hid rfl⟩
  case round =>
    obtain ⟨k, m, rfl, hk, hm, hRm, hF, HD⟩ := hrel
    have HXm : Hid (BoxQ wr b (.slice (some ⟨g, 0, none⟩) N cap)) := Lib.hid (hF.bx hx hgb)
    clear hR hx hl
    rcases Nat.eq_zero_or_pos k with h0 | h0
    · have HE : Hid (RowD wr g cap (upF l j)) := Lib.hid (by rw [← HD.out, upF, dif_neg (by omega)]; exact hRm)
      subst h0
      clear HD hRm HXm
      go_wp2
      go_end0
      exact ⟨rfl, HE.out, hF⟩
    · obtain ⟨p, hp⟩ : ∃ p, p = (k - 1) / 2 := ⟨_, rfl⟩
      obtain ⟨K, hK⟩ : ∃ K, K = k - 1 := ⟨_, rfl⟩
      have e1 : IntKind.i64.wrap ((k : Int) - 1) = (K : Int) := by simp only [IntKind.wrap_i64]; omega
      have e2 : wrap64 ((K : Int) / 2) = (p : Int) := by simp only [wrap64]; omega
      have t1 : (p == k) = false := by simp; omega
      have t2 : ¬ (p = k) := by omega
      have pN : p < N := by omega
      have HP : Hid (p = (k - 1) / 2 ∧ 0 < k ∧ p < k) := Lib.hid ⟨hp, h0, by omega⟩
      have hm1 := meth_less (BoxQ.c HXm.out)
      clear hp hK h0
      go_wp2_with fail
      refine (qless_n g cap k p N m wr hm hRm hk pN).mono ?_
      rintro e w3 ⟨rfl, hb3⟩
      have HX3 : Hid (BoxQ w3 b (.slice (some ⟨g, 0, none⟩) N cap)) := Lib.hid ((hb3.block b HXm.out.lt).trans HXm.out)
      have hR3 : RowD w3 g cap m := hRm.kept (hb3.block g hRm.lt)
      have hF3 := hF.trans (Fr1.of (g := g) hb3)
      clear hm1 hRm hF hb3
      generalize hq : ltD (atD m k) (atD m p) = q
      have HQ := Lib.hid hq
      clear hq
      cases q
      · have HE : Hid (RowD w3 g cap (upF l j)) := Lib.hid (by
          obtain ⟨a1, a2, a3⟩ := HP.out
          rw [← HD.out, upF, dif_pos a2, ← a1, HQ.out, if_neg (by decide)]
          exact hR3)
        clear hR3 HD HQ
        go_wp2
        go_end0
        exact ⟨rfl, HE.out, hF3⟩
      · have HD2 : Hid (upF (swp m p k) p = upF l j) := Lib.hid (by
          obtain ⟨a1, a2, a3⟩ := HP.out
          rw [← HD.out]
          conv => rhs; rw [upF, dif_pos a2, ← a1, HQ.out, if_pos rfl])
        have hm3 := meth_swap (BoxQ.c HX3.out)
        clear HD HQ
        go_wp2_with fail
        refine (qswap_n g cap p k N m w3 hm hR3 pN hk).mono ?_
        rintro e w4 ⟨rfl, hR4, hF4⟩
        clear hm3
        go_wp2_with fail
        go_roundw
        case rel => exact ⟨p, swp m p k, rfl, pN, by rw [swp_length]; exact hm, hR4, hF3.trans hF4, HD2⟩
        case measure => have := HP.out; simp only [intOf]; omega
end Go.Proofs.Ytlbmkokdoigcnaa
