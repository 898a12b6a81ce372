/-
  The document's own Right of a tune, lesser and Agree answer as plain functions say; nothing that was there is changed. No condition.
-/
import Derived.Test.YtbdhppigmlfjhaaWAgreeD
namespace Go.Proofs.Ytbdhppigmlfjhaa
open Go.RowKit

set_option maxRecDepth 100000 in
set_option maxHeartbeats 2000000 in
theorem rRight_any (c f b : Int) (w : World) : Calls Try.prog 15 #[.agg #[.int .i64 c, .int .i64 f, .int .i64 b]] w fun e w' => e = .returned (.bool (tRight c f b)) ∧ Below w.heap.size w w' := by
  obtain ⟨W0, hW0⟩ : ∃ W0, W0 = w.alloc (.cells #[.int .i64 c, .int .i64 f, .int .i64 b] 23) := ⟨_, rfl⟩
  have hb0 : Below w.heap.size w W0 := by rw [hW0]; exact (Below.refl _ w).alloc (Nat.le_refl _) _
  have hx : Bx W0 w.heap.size 23 [.int .i64 c, .int .i64 f, .int .i64 b] := by rw [hW0]; exact Bx.new w _ _
  obtain ⟨x0, x1, x2⟩ := hx.three
  obtain ⟨q, hq⟩ : ∃ q, tRight c f b = q := ⟨_, rfl⟩
  have HQ := Lib.hid hq
  rw [hq]
  clear hx hq
  go_enter Try.func15, Try.ntmps15
  go_upto_region 1 with fail
  rw [← hW0]
  clear hW0
  by_cases h1 : 1 ≤ c
  · by_cases h2 : c ≤ 65535
    · by_cases h3 : 4096 ≤ f
      · by_cases h4 : f ≤ 131072
        · by_cases h5 : 0 ≤ b
          · by_cases h6 : b ≤ 65535
            · have HF : Hid (q = true) := Lib.hid (by rw [← HQ.out]; exact (tRight_iff _ _ _).2 ⟨⟨h1, h2⟩, ⟨h3, h4⟩, h5, h6⟩)
              go_wp2
              go_ret
              exact ⟨by rw [HF.out]; rfl, hb0⟩
            · have HF : Hid (q = false) := Lib.hid (by rw [← HQ.out, ← Bool.not_eq_true]; exact fun h => h6 ((tRight_iff _ _ _).1 h).2.2.2)
              go_wp2
              go_ret
              exact ⟨by rw [HF.out]; rfl, hb0⟩
          · have HF : Hid (q = false) := Lib.hid (by rw [← HQ.out, ← Bool.not_eq_true]; exact fun h => h5 ((tRight_iff _ _ _).1 h).2.2.1)
            go_wp2
            go_ret
            exact ⟨by rw [HF.out]; rfl, hb0⟩
        · have HF : Hid (q = false) := Lib.hid (by rw [← HQ.out, ← Bool.not_eq_true]; exact fun h => h4 ((tRight_iff _ _ _).1 h).2.1.2)
          go_wp2
          go_ret
          exact ⟨by rw [HF.out]; rfl, hb0⟩
      · have HF : Hid (q = false) := Lib.hid (by rw [← HQ.out, ← Bool.not_eq_true]; exact fun h => h3 ((tRight_iff _ _ _).1 h).2.1.1)
        go_wp2
        go_ret
        exact ⟨by rw [HF.out]; rfl, hb0⟩
    · have HF : Hid (q = false) := Lib.hid (by rw [← HQ.out, ← Bool.not_eq_true]; exact fun h => h2 ((tRight_iff _ _ _).1 h).1.2)
      go_wp2
      go_ret
      exact ⟨by rw [HF.out]; rfl, hb0⟩
  · have HF : Hid (q = false) := Lib.hid (by rw [← HQ.out, ← Bool.not_eq_true]; exact fun h => h1 ((tRight_iff _ _ _).1 h).1.1)
    go_wp2
    go_ret
    exact ⟨by rw [HF.out]; rfl, hb0⟩
theorem rlesser_any (m t : Int) (ht : 0 ≤ t) (w : World) : Calls Try.prog 16 #[.int .i64 m, .int .i64 t] w fun e w' => e = .returned (.int .i64 (lessN m t)) ∧ Below w.heap.size w w' := by
  by_cases h0 : t = 0
  · have H : Hid (lessN m t = m) := Lib.hid (by rw [lessN, if_pos h0])
    have t1 : decide (0 < t) = false := decide_eq_false (by omega)
    clear h0
    go_enter Try.func16, Try.ntmps16
    go_wp2
    go_ret
    exact ⟨by rw [H.out]; rfl, Below.refl _ _⟩
  · have t1 : decide (0 < t) = true := decide_eq_true (by omega)
    by_cases h : t < m
    · have H : Hid (lessN m t = t) := Lib.hid (by rw [lessN, if_neg h0]; omega)
      clear h0
      go_enter Try.func16, Try.ntmps16
      go_wp2
      go_ret
      exact ⟨by rw [H.out]; rfl, Below.refl _ _⟩
    · have H : Hid (lessN m t = m) := Lib.hid (by rw [lessN, if_neg h0]; omega)
      clear h0
      go_enter Try.func16, Try.ntmps16
      go_wp2
      go_ret
      exact ⟨by rw [H.out]; rfl, Below.refl _ _⟩

set_option maxRecDepth 100000 in
set_option maxHeartbeats 4000000 in
theorem rAgree_any (mc mf mb tc tf tb : Int) (w : World) : Calls Try.prog 8 #[.agg #[.int .i64 mc, .int .i64 mf, .int .i64 mb], .agg #[.int .i64 tc, .int .i64 tf, .int .i64 tb]] w fun e w' => e = .returned (.tuple #[.agg #[.int .i64 (dgV (dgE mc mf mb tc tf tb) (lessN mc tc)), .int .i64 (dgV (dgE mc mf mb tc tf tb) (lessN mf tf)), .int .i64 (dgV (dgE mc mf mb tc tf tb) (min mb tb))], .int .i64 (dgE mc mf mb tc tf tb)]) ∧ Below w.heap.size w w' := by
  obtain ⟨W0, hW0⟩ : ∃ W0, W0 = ((w.alloc (.cells #[.int .i64 mc, .int .i64 mf, .int .i64 mb] 23)).alloc (.cells #[.int .i64 tc, .int .i64 tf, .int .i64 tb] 23)).alloc (.cells #[.int .i64 0, .int .i64 0, .int .i64 0] 23) := ⟨_, rfl⟩
  have hb0 : Below w.heap.size w W0 := by rw [hW0]; exact (((Below.refl _ w).alloc (Nat.le_refl _) _).alloc (by simp) _).alloc (by simp; omega) _
  have hm : Bx W0 w.heap.size 23 [.int .i64 mc, .int .i64 mf, .int .i64 mb] := by rw [hW0]; exact ((Bx.new w _ _).alloc _).alloc _
  have ht : Bx W0 (w.heap.size + 1) 23 [.int .i64 tc, .int .i64 tf, .int .i64 tb] := by
    have h := (Bx.new (w.alloc (.cells #[.int .i64 mc, .int .i64 mf, .int .i64 mb] 23)) 23 [.int .i64 tc, .int .i64 tf, .int .i64 tb]).alloc (.cells #[.int .i64 0, .int .i64 0, .int .i64 0] 23)
    rw [World.size_alloc] at h
    rw [hW0]; exact h
  have hr : Bx W0 (w.heap.size + 1 + 1) 23 [.int .i64 0, .int .i64 0, .int .i64 0] := by
    have h := Bx.new ((w.alloc (.cells #[.int .i64 mc, .int .i64 mf, .int .i64 mb] 23)).alloc (.cells #[.int .i64 tc, .int .i64 tf, .int .i64 tb] 23)) 23 [.int .i64 0, .int .i64 0, .int .i64 0]
    rw [World.size_alloc, World.size_alloc] at h
    rw [hW0]; exact h
  have hR := rRight_any mc mf mb W0
  have HE : Hid (dgE mc mf mb tc tf tb = if tRight mc mf mb = true then (if tc < 0 ∨ tf < 0 ∨ tb < 0 then 1 else if 0 < tf ∧ tf < 4096 then 16 else 0) else 1) := Lib.hid rfl
  generalize dgE mc mf mb tc tf tb = E at *
  generalize tRight mc mf mb = q at *
  obtain ⟨v1, hv1⟩ : ∃ v, dgV E (lessN mc tc) = v := ⟨_, rfl⟩
  obtain ⟨v2, hv2⟩ : ∃ v, dgV E (lessN mf tf) = v := ⟨_, rfl⟩
  obtain ⟨v3, hv3⟩ : ∃ v, dgV E (min mb tb) = v := ⟨_, rfl⟩
  rw [hv1, hv2, hv3]
  have HV1 := Lib.hid hv1
  have HV2 := Lib.hid hv2
  have HV3 := Lib.hid hv3
  clear hv1 hv2 hv3
  have HL1 : Hid (0 ≤ tc → ∀ W, Calls Try.prog 16 #[.int .i64 mc, .int .i64 tc] W fun e w' => e = .returned (.int .i64 (lessN mc tc)) ∧ Below W.heap.size W w') := Lib.hid (fun h W => rlesser_any mc tc h W)
  have HL2 : Hid (0 ≤ tf → ∀ W, Calls Try.prog 16 #[.int .i64 mf, .int .i64 tf] W fun e w' => e = .returned (.int .i64 (lessN mf tf)) ∧ Below W.heap.size W w') := Lib.hid (fun h W => rlesser_any mf tf h W)
  generalize lessN mc tc = l1 at *
  generalize lessN mf tf = l2 at *
  go_enter Try.func8, Try.ntmps8
  go_upto_region 1 with fail
  rw [← hW0]
  clear hW0
  obtain ⟨x0, x1, x2⟩ := hm.three
  go_wp2_with fail
  with_reducible refine hR.mono ?_
  rintro e w1 ⟨rfl, hb1⟩
  have hB1 := hb0.trans (hb1.mono hb0.size)
  replace hm := hm.kept hb1
  replace ht := ht.kept hb1
  replace hr := hr.kept hb1
  clear hR hb0 hb1 x0 x1 x2
  obtain ⟨y0, y1, y2⟩ := ht.three
  cases q
  · have HG : Hid (E = 1) := Lib.hid (by rw [HE.out]; rfl)
    obtain ⟨a0, f0, a1, f1, a2, f2, bR⟩ := hr.store3 (.int .i64 0) (.int .i64 0) (.int .i64 0)
    have hBz := below_store3 hB1 (B := w.heap.size + 1 + 1) (by omega) (.int .i64 0) (.int .i64 0) (.int .i64 0)
    obtain ⟨z0, z1, z2⟩ := bR.three
    clear hm ht hr hB1 bR HE HL1 HL2 y0 y1 y2
    go_wp2
    refine bodyPost_ret (v := .tuple #[.agg #[.int .i64 0, .int .i64 0, .int .i64 0], .int .i64 1]) ?_ rfl ⟨by rw [← HV1.out, ← HV2.out, ← HV3.out, HG.out]; rfl, hBz⟩
    rw [results_ctw rfl]
    simp [asAddr, Result.andThen, go_sem, z0, z1, z2]
  · by_cases h1 : tc < 0
    · have HG : Hid (E = 1) := Lib.hid (by rw [HE.out, if_pos rfl, if_pos (by omega)])
      obtain ⟨a0, f0, a1, f1, a2, f2, bR⟩ := hr.store3 (.int .i64 0) (.int .i64 0) (.int .i64 0)
      have hBz := below_store3 hB1 (B := w.heap.size + 1 + 1) (by omega) (.int .i64 0) (.int .i64 0) (.int .i64 0)
      obtain ⟨z0, z1, z2⟩ := bR.three
      clear hm ht hr hB1 bR HE HL1 HL2
      go_wp2
      refine bodyPost_ret (v := .tuple #[.agg #[.int .i64 0, .int .i64 0, .int .i64 0], .int .i64 1]) ?_ rfl ⟨by rw [← HV1.out, ← HV2.out, ← HV3.out, HG.out]; rfl, hBz⟩
      rw [results_ctw rfl]
      simp [asAddr, Result.andThen, go_sem, z0, z1, z2]
    by_cases h2 : tf < 0
    · have HG : Hid (E = 1) := Lib.hid (by rw [HE.out, if_pos rfl, if_pos (by omega)])
      obtain ⟨a0, f0, a1, f1, a2, f2, bR⟩ := hr.store3 (.int .i64 0) (.int .i64 0) (.int .i64 0)
      have hBz := below_store3 hB1 (B := w.heap.size + 1 + 1) (by omega) (.int .i64 0) (.int .i64 0) (.int .i64 0)
      obtain ⟨z0, z1, z2⟩ := bR.three
      clear hm ht hr hB1 bR HE HL1 HL2
      go_wp2
      refine bodyPost_ret (v := .tuple #[.agg #[.int .i64 0, .int .i64 0, .int .i64 0], .int .i64 1]) ?_ rfl ⟨by rw [← HV1.out, ← HV2.out, ← HV3.out, HG.out]; rfl, hBz⟩
      rw [results_ctw rfl]
      simp [asAddr, Result.andThen, go_sem, z0, z1, z2]
    by_cases h3 : tb < 0
    · have HG : Hid (E = 1) := Lib.hid (by rw [HE.out, if_pos rfl, if_pos (by omega)])
      obtain ⟨a0, f0, a1, f1, a2, f2, bR⟩ := hr.store3 (.int .i64 0) (.int .i64 0) (.int .i64 0)
      have hBz := below_store3 hB1 (B := w.heap.size + 1 + 1) (by omega) (.int .i64 0) (.int .i64 0) (.int .i64 0)
      obtain ⟨z0, z1, z2⟩ := bR.three
      clear hm ht hr hB1 bR HE HL1 HL2
      go_wp2
      refine bodyPost_ret (v := .tuple #[.agg #[.int .i64 0, .int .i64 0, .int .i64 0], .int .i64 1]) ?_ rfl ⟨by rw [← HV1.out, ← HV2.out, ← HV3.out, HG.out]; rfl, hBz⟩
      rw [results_ctw rfl]
      simp [asAddr, Result.andThen, go_sem, z0, z1, z2]
    have HE2 : Hid (E = if 0 < tf ∧ tf < 4096 then 16 else 0) := Lib.hid (by rw [HE.out, if_pos rfl, if_neg (by omega)])
    have hL1 := HL1.out (by omega)
    have hL2 := HL2.out (by omega)
    clear HE HL1 HL2
    by_cases hf : 0 < tf ∧ tf < 4096
    · have HG : Hid (E = 16) := Lib.hid (by rw [HE2.out, if_pos hf])
      have t1 : decide (1 ≤ tf) = true := decide_eq_true (by omega)
      have t2 : decide (tf < 4096) = true := decide_eq_true hf.2
      obtain ⟨a0, f0, a1, f1, a2, f2, bR⟩ := hr.store3 (.int .i64 0) (.int .i64 0) (.int .i64 0)
      have hBz := below_store3 hB1 (B := w.heap.size + 1 + 1) (by omega) (.int .i64 0) (.int .i64 0) (.int .i64 0)
      obtain ⟨z0, z1, z2⟩ := bR.three
      clear hm ht hr hB1 bR HE2 hL1 hL2 hf
      go_wp2
      refine bodyPost_ret (v := .tuple #[.agg #[.int .i64 0, .int .i64 0, .int .i64 0], .int .i64 16]) ?_ rfl ⟨by rw [← HV1.out, ← HV2.out, ← HV3.out, HG.out]; rfl, hBz⟩
      rw [results_ctw rfl]
      simp [asAddr, Result.andThen, go_sem, z0, z1, z2]
    have HG : Hid (E = 0) := Lib.hid (by rw [HE2.out, if_neg hf])
    have keep : ∀ w', Below w1.heap.size w1 w' → w'.cell? ⟨w.heap.size, 0, none⟩ = some (.int .i64 mc) ∧ w'.cell? ⟨w.heap.size, 1, none⟩ = some (.int .i64 mf) ∧ w'.cell? ⟨w.heap.size, 2, none⟩ = some (.int .i64 mb) ∧ w'.cell? ⟨w.heap.size + 1, 0, none⟩ = some (.int .i64 tc) ∧ w'.cell? ⟨w.heap.size + 1, 1, none⟩ = some (.int .i64 tf) ∧ w'.cell? ⟨w.heap.size + 1, 2, none⟩ = some (.int .i64 tb) := fun w' h => ⟨(hm.kept h).three.1, (hm.kept h).three.2.1, (hm.kept h).three.2.2, (ht.kept h).three.1, (ht.kept h).three.2.1, (ht.kept h).three.2.2⟩
    have hq0 : Below w1.heap.size w1 w1.drew := (Below.refl _ w1).drew
    have hqa : Below w1.heap.size w1 (w1.alloc (.cells #[.int .i64 0, .int .i64 0, .int .i64 0] 23)).drew := ((Below.refl _ w1).alloc (Nat.le_refl _) _).drew
    have hzN : Bx (w1.alloc (.cells #[.int .i64 0, .int .i64 0, .int .i64 0] 23)).drew w1.heap.size 23 [.int .i64 0, .int .i64 0, .int .i64 0] := Bx.new w1 _ _
    have hlt := hr.lt
    have hbs := hB1.size
    clear HE2
    have hcut6 : ∃ pp, (decide (1 ≤ tf) && decide (tf < 4096)) = pp ∧ pp = false := ⟨_, rfl, by simp; omega⟩
    clear hcut6
    go_upto_region 4 with fail
    go_cut [35] (fun v wx => v = .bool false ∧ wx = w1)
    case first =>
      clear keep hm ht hr hB1 hL1 hL2 hzN
      by_cases h0 : 1 ≤ tf
      · have t2 : ¬ tf < 4096 := by omega
        clear hf
        go_wp2
        go_meet
        case rel => exact ⟨rfl, rfl⟩
      · clear hf
        go_wp2
        go_meet
        case rel => exact ⟨rfl, rfl⟩
    obtain ⟨hv, hw⟩ := hcut
    rw [hv, hw]
    clear hv hw y0 y1 y2
    go_upto_region 6 with fail
    go_cut [7] (fun p wx => ∃ nb, p = .pointer (some ⟨nb, 0, none⟩) ∧ w1.heap.size ≤ nb ∧ Bx wx nb 23 [.int .i64 l1, .int .i64 l2, .int .i64 mb] ∧ Below w1.heap.size w1 wx)
    case first =>
      go_region_held3 (fun w' => w'.cell? ⟨w.heap.size, 0, none⟩ = some (.int .i64 mc) ∧ w'.cell? ⟨w.heap.size, 1, none⟩ = some (.int .i64 mf) ∧ w'.cell? ⟨w.heap.size, 2, none⟩ = some (.int .i64 mb) ∧ w'.cell? ⟨w.heap.size + 1, 0, none⟩ = some (.int .i64 tc) ∧ w'.cell? ⟨w.heap.size + 1, 1, none⟩ = some (.int .i64 tf) ∧ w'.cell? ⟨w.heap.size + 1, 2, none⟩ = some (.int .i64 tb)) (first | (with_reducible exact keep _ hkS) | (with_reducible exact keep _ (hk2.alloc hk2.size _)) | (with_reducible exact keep _ hk2) | (with_reducible exact keep _ (hk1.alloc hk1.size _)) | (with_reducible exact keep _ hk1) | (with_reducible exact keep _ hqa) | (with_reducible exact keep _ hq0)) (first | (go_at_call 16; with_reducible refine (hL1 w1.drew).mono ?_; rintro e w3 ⟨rfl, hr1⟩; have hk1 : Below w1.heap.size w1 w3 := hq0.trans (hr1.mono hq0.size)) | (go_at_call 16; with_reducible refine (hL1 (w1.alloc (.cells #[.int .i64 0, .int .i64 0, .int .i64 0] 23)).drew).mono ?_; rintro e w3 ⟨rfl, hr1⟩; have hk1 : Below w1.heap.size w1 w3 := hqa.trans (hr1.mono hqa.size); have hzb := hzN.kept hr1) | (go_at_call 16; have hz4 := hzb; with_reducible refine (hL2 w3).mono ?_; rintro e w4 ⟨rfl, hr2⟩; have hk2 : Below w1.heap.size w1 w4 := hk1.trans (hr2.mono hk1.size); have hz5 := hzb.kept hr2; obtain ⟨a0, f0, a1, f1, a2, f2, bR⟩ := hz5.store3 (.int .i64 l1) (.int .i64 l2) (.int .i64 mb); have hkS := below_store3 hk2 (B := w1.heap.size) (Nat.le_refl _) (.int .i64 l1) (.int .i64 l2) (.int .i64 mb)) | (go_at_call 16; with_reducible refine (hL2 (w3.alloc (.cells #[.int .i64 0, .int .i64 0, .int .i64 0] 23))).mono ?_; rintro e w4 ⟨rfl, hr2⟩; have hk2 : Below w1.heap.size w1 w4 := (hk1.alloc hk1.size _).trans (hr2.mono (hk1.alloc hk1.size _).size); have hz5 := (Bx.new w3 23 [.int .i64 0, .int .i64 0, .int .i64 0]).kept hr2; obtain ⟨a0, f0, a1, f1, a2, f2, bR⟩ := hz5.store3 (.int .i64 l1) (.int .i64 l2) (.int .i64 mb); have hkS := below_store3 hk2 (B := w3.heap.size) hk1.size (.int .i64 l1) (.int .i64 l2) (.int .i64 mb)) | (go_at_call 16; with_reducible refine (hL2 w3).mono ?_; rintro e w4 ⟨rfl, hr2⟩; have hk2 : Below w1.heap.size w1 w4 := hk1.trans (hr2.mono hk1.size)))
      · have hN := Bx.new w4 23 [.int .i64 l1, .int .i64 l2, .int .i64 mb]
        have hBe := hk2.alloc hk2.size (.cells #[.int .i64 l1, .int .i64 l2, .int .i64 mb] 23)
        have hle := hk2.size
        go_wp2_with fail
        go_meet
        case rel => exact ⟨_, rfl, hle, hN, hBe⟩
      · have hle := hk1.size
        go_wp2_with fail
        go_meet
        case rel => exact ⟨_, rfl, hle, bR, hkS⟩
      · go_wp2_with fail
        go_meet
        case rel => exact ⟨_, rfl, Nat.le_refl _, bR, hkS⟩
    case rest =>
      obtain ⟨nb, rfl, hnb, hN, hbc⟩ := hcut
      have hBc := hB1.trans (hbc.mono hbs)
      have hm3 := hm.kept hbc
      have ht3 := ht.kept hbc
      have hr3 := hr.kept hbc
      have x2 := hm3.three.2.2
      have y2 := ht3.three.2.2
      clear keep hm ht hr hB1 hq0 hqa hzN hL1 hL2 hbc
      by_cases hb : tb < mb
      · have hN2 := hN.set 2 (.int .i64 tb)
        have n2 := hN.cell 2 (by simp)
        have g2 := hN.frozen 2
        dsimp only [List.getElem_cons_zero, List.getElem_cons_succ, List.set_cons_zero, List.set_cons_succ] at n2 hN2
        obtain ⟨W5, hW5⟩ : ∃ W5, W5 = wc.setCell ⟨nb, 2, none⟩ (.int .i64 tb) := ⟨_, rfl⟩
        have hr5 := hr3.other (B' := nb) (by omega) 2 (.int .i64 tb)
        have hB5 := hBc.setCell (p := ⟨nb, 2, none⟩) (by simp; omega) (.int .i64 tb)
        rw [← hW5] at hN2 hr5 hB5
        go_upto_region 9 with fail
        rw [← hW5]
        clear hW5
        obtain ⟨m0, m1, m2⟩ := hN2.three
        obtain ⟨a0, f0, a1, f1, a2, f2, bR⟩ := hr5.store3 (.int .i64 l1) (.int .i64 l2) (.int .i64 tb)
        have hBz := below_store3 hB5 (B := w.heap.size + 1 + 1) (by omega) (.int .i64 l1) (.int .i64 l2) (.int .i64 tb)
        have HM : Hid (min mb tb = tb) := Lib.hid (by omega)
        obtain ⟨z0, z1, z2⟩ := bR.three
        clear bR hr5 hN2 hB5 hN hr3 hBc hm3 ht3
        go_wp2
        refine bodyPost_ret (v := .tuple #[.agg #[.int .i64 l1, .int .i64 l2, .int .i64 tb], .int .i64 0]) ?_ rfl ⟨by rw [← HV1.out, ← HV2.out, ← HV3.out, HG.out, HM.out]; rfl, hBz⟩
        rw [results_ctw rfl]
        simp [asAddr, Result.andThen, go_sem, z0, z1, z2]
      · obtain ⟨m0, m1, m2⟩ := hN.three
        obtain ⟨a0, f0, a1, f1, a2, f2, bR⟩ := hr3.store3 (.int .i64 l1) (.int .i64 l2) (.int .i64 mb)
        have hBz := below_store3 hBc (B := w.heap.size + 1 + 1) (by omega) (.int .i64 l1) (.int .i64 l2) (.int .i64 mb)
        have HM : Hid (min mb tb = mb) := Lib.hid (by omega)
        obtain ⟨z0, z1, z2⟩ := bR.three
        clear bR hN hr3 hBc hm3 ht3
        go_wp2
        refine bodyPost_ret (v := .tuple #[.agg #[.int .i64 l1, .int .i64 l2, .int .i64 mb], .int .i64 0]) ?_ rfl ⟨by rw [← HV1.out, ← HV2.out, ← HV3.out, HG.out, HM.out]; rfl, hBz⟩
        rw [results_ctw rfl]
        simp [asAddr, Result.andThen, go_sem, z0, z1, z2]
end Go.Proofs.Ytbdhppigmlfjhaa
