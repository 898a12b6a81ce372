/-
  serve.agree tells what a tune-ok agrees on, by two closures; nothing that was there is changed. Conditions: the method's values lie in old memory; its first three numbers are below 2^62.
-/
import Derived.Deep.RegionHeld3
import Derived.Test.YtebkolhibifbpaaGreatDoorWServe0
namespace Go.Proofs.YtebkolhibifbpaaGreatDoor
open Go.RowKit

theorem wrap_id {n : Int} (h : 0 ≤ n ∧ n < 4611686018427387904) : IntKind.i64.wrap n = n := by
  have h1 : n % 18446744073709551616 = n := by omega
  simp [IntKind.wrap, IntKind.signed, IntKind.bits, h1]
  omega
set_option maxRecDepth 100000 in
set_option maxHeartbeats 4000000 in
theorem theirs_any (mc mi : Int) (ml : List MV) (A : Option Addr) (cap : Nat) (k : Int) (b : Nat) (w : World) (hm : Bx w b 37 [.int .i64 mc, .int .i64 mi, .slice A ml.length cap]) (hA : ValsAt w A (rowV ml)) (hN : 0 ≤ (argV ml k).n ∧ (argV ml k).n < 4611686018427387904) : Calls Tryz.prog 55 #[.int .i64 k, .pointer (some ⟨b, 0, none⟩)] w fun e w' => e = .returned (.int .i64 (argV ml k).n) ∧ Below w.heap.size w w' := by
  have hAr := arg_any ⟨mc, mi, ml⟩ A cap k w hA
  unfold encM encV at hAr
  dsimp only at hAr
  generalize argV ml k = v at hAr hN ⊢
  obtain ⟨vn, vs⟩ := v
  dsimp only at hAr hN ⊢
  have hW := wrap_id hN
  have hFd := fun W => field_n vn vs W
  obtain ⟨m0, m1, m2⟩ := hm.three
  clear hA hm hN
  go_enter Tryz.func55, Tryz.ntmps55
  go_wp2_with fail
  with_reducible refine hAr.mono ?_
  rintro e w1 ⟨rfl, hb1⟩
  have hFd1 := hFd w1
  clear hAr hFd m0 m1 m2
  go_wp2
  go_ret
  exact ⟨rfl, hb1⟩
set_option maxRecDepth 100000 in
set_option maxHeartbeats 4000000 in
theorem agreed_any (mc mi : Int) (ml : List MV) (A : Option Addr) (cap : Nat) (k mine : Int) (b f : Nat) (w : World) (hf : Bx w f 105 [.func (.func 55) #[] #[.pointer (some ⟨b, 0, none⟩)]]) (hm : Bx w b 37 [.int .i64 mc, .int .i64 mi, .slice A ml.length cap]) (hA : ValsAt w A (rowV ml)) (hN : 0 ≤ (argV ml k).n ∧ (argV ml k).n < 4611686018427387904) : Calls Tryz.prog 56 #[.int .i64 k, .int .i64 mine, .pointer (some ⟨f, 0, none⟩)] w fun e w' => e = .returned (.int .i64 (agV (argV ml k).n mine)) ∧ Below w.heap.size w w' := by
  have hT := fun W (h : Below w.heap.size w W) => theirs_any mc mi ml A cap k b W (hm.kept h) (hA.below h) hN
  have HA : Hid (agV (argV ml k).n mine = if (argV ml k).n = 0 then mine else (argV ml k).n) := Lib.hid rfl
  generalize agV (argV ml k).n mine = q at HA ⊢
  generalize (argV ml k).n = n at HA hT hN
  have f0 := hf.cell 0 (by simp)
  dsimp only [List.getElem_cons_zero] at f0
  have hT0 := hT w (Below.refl _ _)
  clear hm hA hN
  go_enter Tryz.func56, Tryz.ntmps56
  go_wp2_with fail
  with_reducible refine hT0.mono ?_
  rintro e w1 ⟨rfl, hb1⟩
  clear hT0 f0
  have f1 := (hf.kept hb1).cell 0 (by simp)
  dsimp only [List.getElem_cons_zero] at f1
  by_cases h0 : n = 0
  · have HA2 : Hid (q = mine) := Lib.hid (by rw [HA.out, if_pos h0])
    clear HA
    subst h0
    go_wp2
    go_ret
    exact ⟨by rw [HA2.out]; rfl, hb1⟩
  · have hT1 := hT w1 hb1
    have HA2 : Hid (q = n) := Lib.hid (by rw [HA.out, if_neg h0])
    clear hT HA
    go_wp2_with fail
    with_reducible refine hT1.mono ?_
    rintro e w2 ⟨rfl, hb2⟩
    go_wp2
    go_ret
    exact ⟨by rw [HA2.out]; rfl, hb1.trans (hb2.mono hb1.size)⟩
set_option maxRecDepth 100000 in
set_option maxHeartbeats 4000000 in
theorem agree_any (h : Hd) (mc mi : Int) (ml : List MV) (A : Option Addr) (cap : Nat) (w : World) (hA : ValsAt w A (rowV ml)) (hN : ∀ k, 0 ≤ (argV ml k).n ∧ (argV ml k).n < 4611686018427387904) : Calls Tryz.prog 41 #[.agg #[.int .i64 h.ch, .int .i64 h.fr, .int .i64 h.bt], .agg #[.int .i64 mc, .int .i64 mi, .slice A ml.length cap]] w fun e w' => (∃ a b c, e = .returned (.tuple #[.agg #[.int .i64 a, .int .i64 b, .int .i64 c], .bool (agOk h (argV ml 0).n (argV ml 1).n)]) ∧ (agOk h (argV ml 0).n (argV ml 1).n = true → a = agV (argV ml 0).n h.ch ∧ b = agV (argV ml 1).n h.fr ∧ c = agB h (argV ml 2).n)) ∧ Below w.heap.size w w' := by
  obtain ⟨W0, hW0⟩ : ∃ W0, W0 = w.alloc (.cells #[.int .i64 h.ch, .int .i64 h.fr, .int .i64 h.bt] 23) := ⟨_, rfl⟩
  obtain ⟨st, ch, fr, bt, us, wo, ho⟩ := h
  dsimp only at hW0 ⊢
  clear hW0 W0
  obtain ⟨W0, hW0⟩ : ∃ W0, W0 = (((w.alloc (.cells #[.int .i64 ch, .int .i64 fr, .int .i64 bt] 23)).alloc (.cells #[.int .i64 mc, .int .i64 mi, .slice A ml.length cap] 37)).alloc (.cells #[.int .i64 0, .int .i64 0, .int .i64 0] 23)).alloc (.cells #[.func (.func 55) #[] #[.pointer (some ⟨w.heap.size + 1, 0, none⟩)]] 105) := ⟨_, rfl⟩
  have hb0 : Below w.heap.size w W0 := by rw [hW0]; exact ((((Below.refl _ w).alloc (Nat.le_refl _) _).alloc (by simp) _).alloc (by simp; omega) _).alloc (by simp; omega) _
  have hx : Bx W0 w.heap.size 23 [.int .i64 ch, .int .i64 fr, .int .i64 bt] := by rw [hW0]; exact (((Bx.new w 23 [.int .i64 ch, .int .i64 fr, .int .i64 bt]).alloc _).alloc _).alloc _
  have hm : Bx W0 (w.heap.size + 1) 37 [.int .i64 mc, .int .i64 mi, .slice A ml.length cap] := by
    have h := ((Bx.new (w.alloc (.cells #[.int .i64 ch, .int .i64 fr, .int .i64 bt] 23)) 37 [.int .i64 mc, .int .i64 mi, .slice A ml.length cap]).alloc (.cells #[.int .i64 0, .int .i64 0, .int .i64 0] 23)).alloc (.cells #[.func (.func 55) #[] #[.pointer (some ⟨w.heap.size + 1, 0, none⟩)]] 105)
    rw [World.size_alloc] at h
    rw [hW0]; exact h
  have hr : Bx W0 (w.heap.size + 1 + 1) 23 [.int .i64 0, .int .i64 0, .int .i64 0] := by
    have h := (Bx.new ((w.alloc (.cells #[.int .i64 ch, .int .i64 fr, .int .i64 bt] 23)).alloc (.cells #[.int .i64 mc, .int .i64 mi, .slice A ml.length cap] 37)) 23 [.int .i64 0, .int .i64 0, .int .i64 0]).alloc (.cells #[.func (.func 55) #[] #[.pointer (some ⟨w.heap.size + 1, 0, none⟩)]] 105)
    rw [World.size_alloc, World.size_alloc] at h
    rw [hW0]; exact h
  have hf : Bx W0 (w.heap.size + 1 + 1 + 1) 105 [.func (.func 55) #[] #[.pointer (some ⟨w.heap.size + 1, 0, none⟩)]] := by
    have h := Bx.new (((w.alloc (.cells #[.int .i64 ch, .int .i64 fr, .int .i64 bt] 23)).alloc (.cells #[.int .i64 mc, .int .i64 mi, .slice A ml.length cap] 37)).alloc (.cells #[.int .i64 0, .int .i64 0, .int .i64 0] 23)) 105 [.func (.func 55) #[] #[.pointer (some ⟨w.heap.size + 1, 0, none⟩)]]
    rw [World.size_alloc, World.size_alloc, World.size_alloc] at h
    rw [hW0]; exact h
  have hmf : ∀ (p : Value) (w : World), (Instr.makeFunc (.func 55) #[] #[p]).run Tryz.prog w = .ok (.func (.func 55) #[] #[p]) w := fun _ _ => by kernel_rfl
  have hmg : ∀ (p : Value) (w : World), (Instr.makeFunc (.func 56) #[] #[p]).run Tryz.prog w = .ok (.func (.func 56) #[] #[p]) w := fun _ _ => by kernel_rfl
  have hT := fun k W (h : Below W0.heap.size W0 W) => theirs_any mc mi ml A cap k (w.heap.size + 1) W (hm.kept h) (hA.below (hb0.trans (h.mono hb0.size))) (hN k)
  have hG := fun k mine W (h : Below W0.heap.size W0 W) => agreed_any mc mi ml A cap k mine (w.heap.size + 1) (w.heap.size + 1 + 1 + 1) W (hf.kept h) (hm.kept h) (hA.below (hb0.trans (h.mono hb0.size))) (hN k)
  have hT0 := hT 0
  have hT1 := hT 1
  have hT2 := hT 2
  have hG0 := hG 0 ch
  have hG1 := hG 1 fr
  clear hT hG
  have B0 := hN 0
  have B1 := hN 1
  have B2 := hN 2
  generalize argV ml 0 = v0 at *
  generalize argV ml 1 = v1 at *
  generalize argV ml 2 = v2 at *
  obtain ⟨n0, s0⟩ := v0
  obtain ⟨n1, s1⟩ := v1
  obtain ⟨n2, s2⟩ := v2
  dsimp only at *
  have HO : Hid (∀ (_ : Unit), agOk ⟨st, ch, fr, bt, us, wo, ho⟩ n0 n1 = (!(decide (n0 > ch)) && !(decide (n1 > fr)) && !(decide (0 < n1) && decide (n1 < 4096)))) := Lib.hid (fun _ => rfl)
  have HB : Hid (∀ (_ : Unit), agB ⟨st, ch, fr, bt, us, wo, ho⟩ n2 = if n2 ≠ 0 ∧ bt ≠ 0 then min n2 bt else 0) := Lib.hid (fun _ => rfl)
  generalize agOk ⟨st, ch, fr, bt, us, wo, ho⟩ n0 n1 = ok at *
  generalize agB ⟨st, ch, fr, bt, us, wo, ho⟩ n2 = gb at *
  generalize agV n0 ch = g0 at *
  generalize agV n1 fr = g1 at *
  clear hA hN hm
  have keep : ∀ w', Below W0.heap.size W0 w' → w'.cell? ⟨w.heap.size, 0, none⟩ = some (.int .i64 ch) ∧ w'.cell? ⟨w.heap.size, 1, none⟩ = some (.int .i64 fr) ∧ w'.cell? ⟨w.heap.size, 2, none⟩ = some (.int .i64 bt) ∧ w'.cell? ⟨w.heap.size + 1 + 1 + 1, 0, none⟩ = some (.func (.func 55) #[] #[.pointer (some ⟨w.heap.size + 1, 0, none⟩)]) := fun w' h => ⟨((hx.kept h).three).1, ((hx.kept h).three).2.1, ((hx.kept h).three).2.2, (hf.kept h).cell 0 (by simp)⟩
  obtain ⟨k0, k1, k2, k3⟩ := keep W0 (Below.refl _ _)
  go_enter Tryz.func41, Tryz.ntmps41
  go_wp2_with fail
  rw [← hW0]
  clear hW0
  with_reducible refine (hT1 W0 (Below.refl _ _)).mono ?_
  rintro e w1 ⟨rfl, hb1⟩
  clear k0 k1 k2 k3
  go_upto_region 4 with fail
  go_region_held3 (fun w' => w'.cell? ⟨w.heap.size, 0, none⟩ = some (.int .i64 ch) ∧ w'.cell? ⟨w.heap.size, 1, none⟩ = some (.int .i64 fr) ∧ w'.cell? ⟨w.heap.size, 2, none⟩ = some (.int .i64 bt) ∧ w'.cell? ⟨w.heap.size + 1 + 1 + 1, 0, none⟩ = some (.func (.func 55) #[] #[.pointer (some ⟨w.heap.size + 1, 0, none⟩)])) (first | (with_reducible exact keep _ hf1) | (with_reducible exact keep _ hb1.drew)) (first | (go_at_call 55; refine (hT0 _ hb1.drew).mono ?_; rintro e w2 ⟨rfl, hr2⟩; have hf1 : Below W0.heap.size W0 w2 := hb1.trans (Below.mono ⟨hr2.os, hr2.tape, hr2.output, hr2.size, hr2.block⟩ hb1.size)))
  by_cases h1 : n0 > ch
  · obtain ⟨k0, k1, k2, k3⟩ := keep w2 hf1
    have HG : Hid (ok = false) := Lib.hid (by rw [HO.out ()]; simp [h1])
    have hrz := hr.kept hf1
    have hBz0 := hb0.trans (hf1.mono hb0.size)
    obtain ⟨z0, f0, z1, f1, z2, f2, bR⟩ := hrz.store3 (.int .i64 0) (.int .i64 0) (.int .i64 0)
    have hBz := below_store3 hBz0 (B := w.heap.size + 1 + 1) (by omega) (.int .i64 0) (.int .i64 0) (.int .i64 0)
    obtain ⟨y0, y1, y2⟩ := bR.three
    obtain ⟨k0, k1, k2, k3⟩ := keep w2 hf1
    clear HO HB hrz hBz0 bR hT0 hT1 hT2 hG0 hG1 hx hr hf keep hmf hmg
    go_wp2
    refine bodyPost_ret (v := .tuple #[.agg #[.int .i64 0, .int .i64 0, .int .i64 0], .bool false]) ?_ rfl ⟨⟨0, 0, 0, by rw [HG.out], fun h => by rw [HG.out] at h; cases h⟩, hBz⟩
    rw [sResults_ct rfl]
    simp [asAddr, Result.andThen, go_sem, y0, y1, y2]
  · have e1 : decide (ch < n0) = false := decide_eq_false h1
    rw [e1]
    clear e1
    by_cases h2 : n1 > fr
    · obtain ⟨k0, k1, k2, k3⟩ := keep w2 hf1
      have HG : Hid (ok = false) := Lib.hid (by rw [HO.out ()]; simp [h2])
      have hrz := hr.kept hf1
      have hBz0 := hb0.trans (hf1.mono hb0.size)
      obtain ⟨z0, f0, z1, f1, z2, f2, bR⟩ := hrz.store3 (.int .i64 0) (.int .i64 0) (.int .i64 0)
      have hBz := below_store3 hBz0 (B := w.heap.size + 1 + 1) (by omega) (.int .i64 0) (.int .i64 0) (.int .i64 0)
      obtain ⟨y0, y1, y2⟩ := bR.three
      obtain ⟨k0, k1, k2, k3⟩ := keep w2 hf1
      clear HO HB hrz hBz0 bR hT0 hT1 hT2 hG0 hG1 hx hr hf keep hmf hmg
      go_wp2
      refine bodyPost_ret (v := .tuple #[.agg #[.int .i64 0, .int .i64 0, .int .i64 0], .bool false]) ?_ rfl ⟨⟨0, 0, 0, by rw [HG.out], fun h => by rw [HG.out] at h; cases h⟩, hBz⟩
      rw [sResults_ct rfl]
      simp [asAddr, Result.andThen, go_sem, y0, y1, y2]
    · by_cases h3 : 0 < n1
      · by_cases h4 : n1 < 4096
        · obtain ⟨k0, k1, k2, k3⟩ := keep w2 hf1
          have HG : Hid (ok = false) := Lib.hid (by rw [HO.out ()]; simp [h3, h4])
          have hrz := hr.kept hf1
          have hBz0 := hb0.trans (hf1.mono hb0.size)
          obtain ⟨z0, f0, z1, f1, z2, f2, bR⟩ := hrz.store3 (.int .i64 0) (.int .i64 0) (.int .i64 0)
          have hBz := below_store3 hBz0 (B := w.heap.size + 1 + 1) (by omega) (.int .i64 0) (.int .i64 0) (.int .i64 0)
          obtain ⟨y0, y1, y2⟩ := bR.three
          obtain ⟨k0, k1, k2, k3⟩ := keep w2 hf1
          clear HO HB hrz hBz0 bR hT0 hT1 hT2 hG0 hG1 hx hr hf keep hmf hmg
          go_wp2
          refine bodyPost_ret (v := .tuple #[.agg #[.int .i64 0, .int .i64 0, .int .i64 0], .bool false]) ?_ rfl ⟨⟨0, 0, 0, by rw [HG.out], fun h => by rw [HG.out] at h; cases h⟩, hBz⟩
          rw [sResults_ct rfl]
          simp [asAddr, Result.andThen, go_sem, y0, y1, y2]
        · have HG : Hid (ok = true) := Lib.hid (by rw [HO.out ()]; simp [h1, h2, h3, h4])
          clear HO
          obtain ⟨k0, k1, k2, k3⟩ := keep w2 hf1
          go_upto_region 8 with fail
          clear k0 k1 k2 k3
          go_cut [9] (fun p wx => ∃ nb, p = .pointer (some ⟨nb, 0, none⟩) ∧ W0.heap.size ≤ nb ∧ Bx wx nb 23 [.int .i64 g0, .int .i64 g1, .int .i64 0] ∧ Below W0.heap.size W0 wx)
          case first =>
            go_region_held3 (fun w' => w'.cell? ⟨w.heap.size, 0, none⟩ = some (.int .i64 ch) ∧ w'.cell? ⟨w.heap.size, 1, none⟩ = some (.int .i64 fr) ∧ w'.cell? ⟨w.heap.size, 2, none⟩ = some (.int .i64 bt) ∧ w'.cell? ⟨w.heap.size + 1 + 1 + 1, 0, none⟩ = some (.func (.func 55) #[] #[.pointer (some ⟨w.heap.size + 1, 0, none⟩)])) (first | (with_reducible exact keep _ hgS) | (with_reducible exact keep _ hg2) | (with_reducible exact keep _ (hg2.alloc hg2.size _)) | (with_reducible exact keep _ hg1) | (with_reducible exact keep _ (hg1.alloc hg1.size _)) | (with_reducible exact keep _ hf1.drew) | (with_reducible exact keep _ ((hf1.alloc hf1.size _).drew))) (first | (go_at_call 56; refine (hG1 _ hg1).mono ?_; rintro e w4 ⟨rfl, hr4⟩; have hg2 : Below W0.heap.size W0 w4 := hg1.trans (hr4.mono hg1.size); have bx2 := bx.kept hr4; obtain ⟨a0, f0, a1, f1, a2, f2, bR⟩ := bx2.store3 (.int .i64 g0) (.int .i64 g1) (.int .i64 0); have hgS := below_store3 hg2 (B := w2.heap.size) hf1.size (.int .i64 g0) (.int .i64 g1) (.int .i64 0)) | (go_at_call 56; refine (hG1 _ (hg1.alloc hg1.size _)).mono ?_; rintro e w4 ⟨rfl, hr4⟩; have hg2 : Below W0.heap.size W0 w4 := (hg1.alloc hg1.size _).trans (hr4.mono (hg1.alloc hg1.size _).size); have bx2 : Bx w4 w3.heap.size 23 [.int .i64 0, .int .i64 0, .int .i64 0] := (Bx.new w3 23 [.int .i64 0, .int .i64 0, .int .i64 0]).kept hr4; obtain ⟨a0, f0, a1, f1, a2, f2, bR⟩ := bx2.store3 (.int .i64 g0) (.int .i64 g1) (.int .i64 0); have hgS := below_store3 hg2 (B := w3.heap.size) hg1.size (.int .i64 g0) (.int .i64 g1) (.int .i64 0)) | (go_at_call 56; refine (hG1 _ hg1).mono ?_; rintro e w4 ⟨rfl, hr4⟩; have hg2 : Below W0.heap.size W0 w4 := hg1.trans (hr4.mono hg1.size)) | (go_at_call 56; refine (hG0 _ hf1.drew).mono ?_; rintro e w3 ⟨rfl, hr3⟩; have hg1 : Below W0.heap.size W0 w3 := hf1.drew.trans (hr3.mono hf1.drew.size)) | (go_at_call 56; refine (hG0 _ ((hf1.alloc hf1.size _).drew)).mono ?_; rintro e w3 ⟨rfl, hr3⟩; have hg1 : Below W0.heap.size W0 w3 := ((hf1.alloc hf1.size _).drew).trans (hr3.mono ((hf1.alloc hf1.size _).drew).size); have bx : Bx w3 w2.heap.size 23 [.int .i64 0, .int .i64 0, .int .i64 0] := (Bx.new w2 23 [.int .i64 0, .int .i64 0, .int .i64 0]).kept ⟨hr3.os, hr3.tape, hr3.output, hr3.size, hr3.block⟩))
            all_goals
              go_wp2_with fail
              go_meet
              case rel => first | exact ⟨_, rfl, hf1.size, bR, hgS⟩ | exact ⟨_, rfl, hg1.size, bR, hgS⟩ | exact ⟨_, rfl, hg2.size, Bx.new w4 _ _, hg2.alloc hg2.size _⟩
          case rest =>
            obtain ⟨nb, rfl, hle, hN, hc⟩ := hcut
            obtain ⟨k0, k1, k2, k3⟩ := keep wc hc
            have hTc := hT2 wc hc
            have HO := trivial
            go_wp2_with fail
            with_reducible refine hTc.mono ?_
            rintro e w5 ⟨rfl, hb5⟩
            have hc5 : Below W0.heap.size W0 w5 := hc.trans (hb5.mono hc.size)
            have hN5 := hN.kept hb5
            clear hTc k0 k1 k2 k3 hc hN hb5
            obtain ⟨k0, k1, k2, k3⟩ := keep w5 hc5
            by_cases h5 : n2 = 0
            · have HGB : Hid (gb = 0) := Lib.hid (by rw [HB.out (), if_neg (by simp [h5])])
              have hrz := hr.kept hc5
              have hBz0 := hb0.trans (hc5.mono hb0.size)
              obtain ⟨z0, f0, z1, f1, z2, f2, bR⟩ := hrz.store3 (.int .i64 g0) (.int .i64 g1) (.int .i64 0)
              have hBz := below_store3 hBz0 (B := w.heap.size + 1 + 1) (by omega) (.int .i64 g0) (.int .i64 g1) (.int .i64 0)
              obtain ⟨y0, y1, y2⟩ := bR.three
              obtain ⟨q0, q1, q2⟩ := hN5.three
              clear HO HB hrz hBz0 bR hT0 hT1 hT2 hG0 hG1 hx hr hf keep hmf hmg
              go_wp2
              refine bodyPost_ret (v := .tuple #[.agg #[.int .i64 g0, .int .i64 g1, .int .i64 0], .bool true]) ?_ rfl ⟨⟨_, _, _, by rw [HG.out], fun _ => ⟨rfl, rfl, by rw [HGB.out]⟩⟩, hBz⟩
              rw [sResults_ct rfl]
              simp [asAddr, Result.andThen, go_sem, y0, y1, y2]
            · by_cases h6 : bt = 0
              · have HGB : Hid (gb = 0) := Lib.hid (by rw [HB.out (), if_neg (by simp [h6])])
                have hrz := hr.kept hc5
                have hBz0 := hb0.trans (hc5.mono hb0.size)
                obtain ⟨z0, f0, z1, f1, z2, f2, bR⟩ := hrz.store3 (.int .i64 g0) (.int .i64 g1) (.int .i64 0)
                have hBz := below_store3 hBz0 (B := w.heap.size + 1 + 1) (by omega) (.int .i64 g0) (.int .i64 g1) (.int .i64 0)
                obtain ⟨y0, y1, y2⟩ := bR.three
                obtain ⟨q0, q1, q2⟩ := hN5.three
                clear HO HB hrz hBz0 bR hT0 hT1 hT2 hG0 hG1 hx hr hf keep hmf hmg
                go_wp2
                refine bodyPost_ret (v := .tuple #[.agg #[.int .i64 g0, .int .i64 g1, .int .i64 0], .bool true]) ?_ rfl ⟨⟨_, _, _, by rw [HG.out], fun _ => ⟨rfl, rfl, by rw [HGB.out]⟩⟩, hBz⟩
                rw [sResults_ct rfl]
                simp [asAddr, Result.andThen, go_sem, y0, y1, y2]
              · have HGB : Hid (gb = min n2 bt) := Lib.hid (by rw [HB.out (), if_pos ⟨h5, h6⟩])
                have e5 : (n2 != 0) = true := by simp [h5]
                have e6 : (bt != 0) = true := by simp [h6]
                go_upto_region 10 with fail
                clear k0 k1 k2 k3
                go_region_held3 (fun w' => w'.cell? ⟨w.heap.size, 0, none⟩ = some (.int .i64 ch) ∧ w'.cell? ⟨w.heap.size, 1, none⟩ = some (.int .i64 fr) ∧ w'.cell? ⟨w.heap.size, 2, none⟩ = some (.int .i64 bt) ∧ w'.cell? ⟨w.heap.size + 1 + 1 + 1, 0, none⟩ = some (.func (.func 55) #[] #[.pointer (some ⟨w.heap.size + 1, 0, none⟩)])) (first | (with_reducible exact keep _ hgS) | (with_reducible exact keep _ hg6) | (with_reducible exact keep _ hc5.drew)) (first | (go_at_call 55; refine (hT2 _ hc5.drew).mono ?_; rintro e w6 ⟨rfl, hr6⟩; have hg6 : Below W0.heap.size W0 w6 := hc5.drew.trans (hr6.mono hc5.drew.size); have hN6 := hN5.kept ⟨hr6.os, hr6.tape, hr6.output, hr6.size, hr6.block⟩; have c2 := hN6.cell 2 (by simp); have c3 := hN6.frozen 2; have hgS := hg6.setCell (p := ⟨nb, 2, none⟩) hle (.int .i64 (min n2 bt)); have hN7 := hN6.set 2 (.int .i64 (min n2 bt))))
                have hN8 : Bx (w6.setCell ⟨nb, 2, none⟩ (.int .i64 (min n2 bt))) nb 23 [.int .i64 g0, .int .i64 g1, .int .i64 (min n2 bt)] := hN7
                obtain ⟨W8, hW8⟩ : ∃ W8, W8 = w6.setCell ⟨nb, 2, none⟩ (.int .i64 (min n2 bt)) := ⟨_, rfl⟩
                rw [← hW8] at hN8 hgS ⊢
                clear hN7 hg6 hN6 c2 c3 hW8
                have hrz := hr.kept hgS
                have hBz0 := hb0.trans (hgS.mono hb0.size)
                obtain ⟨z0, f0, z1, f1, z2, f2, bR⟩ := hrz.store3 (.int .i64 g0) (.int .i64 g1) (.int .i64 (min n2 bt))
                have hBz := below_store3 hBz0 (B := w.heap.size + 1 + 1) (by omega) (.int .i64 g0) (.int .i64 g1) (.int .i64 (min n2 bt))
                obtain ⟨y0, y1, y2⟩ := bR.three
                obtain ⟨q0, q1, q2⟩ := hN8.three
                clear HO HB hrz hBz0 bR hT0 hT1 hT2 hG0 hG1 hx hr hf keep hmf hmg
                go_wp2
                refine bodyPost_ret (v := .tuple #[.agg #[.int .i64 g0, .int .i64 g1, .int .i64 (min n2 bt)], .bool true]) ?_ rfl ⟨⟨_, _, _, by rw [HG.out], fun _ => ⟨rfl, rfl, by rw [HGB.out]⟩⟩, hBz⟩
                rw [sResults_ct rfl]
                simp [asAddr, Result.andThen, go_sem, y0, y1, y2]


      · have HG : Hid (ok = true) := Lib.hid (by rw [HO.out ()]; simp [h1, h2, h3])
        clear HO
        obtain ⟨k0, k1, k2, k3⟩ := keep w2 hf1
        go_upto_region 8 with fail
        clear k0 k1 k2 k3
        go_cut [9] (fun p wx => ∃ nb, p = .pointer (some ⟨nb, 0, none⟩) ∧ W0.heap.size ≤ nb ∧ Bx wx nb 23 [.int .i64 g0, .int .i64 g1, .int .i64 0] ∧ Below W0.heap.size W0 wx)
        case first =>
          go_region_held3 (fun w' => w'.cell? ⟨w.heap.size, 0, none⟩ = some (.int .i64 ch) ∧ w'.cell? ⟨w.heap.size, 1, none⟩ = some (.int .i64 fr) ∧ w'.cell? ⟨w.heap.size, 2, none⟩ = some (.int .i64 bt) ∧ w'.cell? ⟨w.heap.size + 1 + 1 + 1, 0, none⟩ = some (.func (.func 55) #[] #[.pointer (some ⟨w.heap.size + 1, 0, none⟩)])) (first | (with_reducible exact keep _ hgS) | (with_reducible exact keep _ hg2) | (with_reducible exact keep _ (hg2.alloc hg2.size _)) | (with_reducible exact keep _ hg1) | (with_reducible exact keep _ (hg1.alloc hg1.size _)) | (with_reducible exact keep _ hf1.drew) | (with_reducible exact keep _ ((hf1.alloc hf1.size _).drew))) (first | (go_at_call 56; refine (hG1 _ hg1).mono ?_; rintro e w4 ⟨rfl, hr4⟩; have hg2 : Below W0.heap.size W0 w4 := hg1.trans (hr4.mono hg1.size); have bx2 := bx.kept hr4; obtain ⟨a0, f0, a1, f1, a2, f2, bR⟩ := bx2.store3 (.int .i64 g0) (.int .i64 g1) (.int .i64 0); have hgS := below_store3 hg2 (B := w2.heap.size) hf1.size (.int .i64 g0) (.int .i64 g1) (.int .i64 0)) | (go_at_call 56; refine (hG1 _ (hg1.alloc hg1.size _)).mono ?_; rintro e w4 ⟨rfl, hr4⟩; have hg2 : Below W0.heap.size W0 w4 := (hg1.alloc hg1.size _).trans (hr4.mono (hg1.alloc hg1.size _).size); have bx2 : Bx w4 w3.heap.size 23 [.int .i64 0, .int .i64 0, .int .i64 0] := (Bx.new w3 23 [.int .i64 0, .int .i64 0, .int .i64 0]).kept hr4; obtain ⟨a0, f0, a1, f1, a2, f2, bR⟩ := bx2.store3 (.int .i64 g0) (.int .i64 g1) (.int .i64 0); have hgS := below_store3 hg2 (B := w3.heap.size) hg1.size (.int .i64 g0) (.int .i64 g1) (.int .i64 0)) | (go_at_call 56; refine (hG1 _ hg1).mono ?_; rintro e w4 ⟨rfl, hr4⟩; have hg2 : Below W0.heap.size W0 w4 := hg1.trans (hr4.mono hg1.size)) | (go_at_call 56; refine (hG0 _ hf1.drew).mono ?_; rintro e w3 ⟨rfl, hr3⟩; have hg1 : Below W0.heap.size W0 w3 := hf1.drew.trans (hr3.mono hf1.drew.size)) | (go_at_call 56; refine (hG0 _ ((hf1.alloc hf1.size _).drew)).mono ?_; rintro e w3 ⟨rfl, hr3⟩; have hg1 : Below W0.heap.size W0 w3 := ((hf1.alloc hf1.size _).drew).trans (hr3.mono ((hf1.alloc hf1.size _).drew).size); have bx : Bx w3 w2.heap.size 23 [.int .i64 0, .int .i64 0, .int .i64 0] := (Bx.new w2 23 [.int .i64 0, .int .i64 0, .int .i64 0]).kept ⟨hr3.os, hr3.tape, hr3.output, hr3.size, hr3.block⟩))
          all_goals
            go_wp2_with fail
            go_meet
            case rel => first | exact ⟨_, rfl, hf1.size, bR, hgS⟩ | exact ⟨_, rfl, hg1.size, bR, hgS⟩ | exact ⟨_, rfl, hg2.size, Bx.new w4 _ _, hg2.alloc hg2.size _⟩
        case rest =>
          obtain ⟨nb, rfl, hle, hN, hc⟩ := hcut
          obtain ⟨k0, k1, k2, k3⟩ := keep wc hc
          have hTc := hT2 wc hc
          have HO := trivial
          go_wp2_with fail
          with_reducible refine hTc.mono ?_
          rintro e w5 ⟨rfl, hb5⟩
          have hc5 : Below W0.heap.size W0 w5 := hc.trans (hb5.mono hc.size)
          have hN5 := hN.kept hb5
          clear hTc k0 k1 k2 k3 hc hN hb5
          obtain ⟨k0, k1, k2, k3⟩ := keep w5 hc5
          by_cases h5 : n2 = 0
          · have HGB : Hid (gb = 0) := Lib.hid (by rw [HB.out (), if_neg (by simp [h5])])
            have hrz := hr.kept hc5
            have hBz0 := hb0.trans (hc5.mono hb0.size)
            obtain ⟨z0, f0, z1, f1, z2, f2, bR⟩ := hrz.store3 (.int .i64 g0) (.int .i64 g1) (.int .i64 0)
            have hBz := below_store3 hBz0 (B := w.heap.size + 1 + 1) (by omega) (.int .i64 g0) (.int .i64 g1) (.int .i64 0)
            obtain ⟨y0, y1, y2⟩ := bR.three
            obtain ⟨q0, q1, q2⟩ := hN5.three
            clear HO HB hrz hBz0 bR hT0 hT1 hT2 hG0 hG1 hx hr hf keep hmf hmg
            go_wp2
            refine bodyPost_ret (v := .tuple #[.agg #[.int .i64 g0, .int .i64 g1, .int .i64 0], .bool true]) ?_ rfl ⟨⟨_, _, _, by rw [HG.out], fun _ => ⟨rfl, rfl, by rw [HGB.out]⟩⟩, hBz⟩
            rw [sResults_ct rfl]
            simp [asAddr, Result.andThen, go_sem, y0, y1, y2]
          · by_cases h6 : bt = 0
            · have HGB : Hid (gb = 0) := Lib.hid (by rw [HB.out (), if_neg (by simp [h6])])
              have hrz := hr.kept hc5
              have hBz0 := hb0.trans (hc5.mono hb0.size)
              obtain ⟨z0, f0, z1, f1, z2, f2, bR⟩ := hrz.store3 (.int .i64 g0) (.int .i64 g1) (.int .i64 0)
              have hBz := below_store3 hBz0 (B := w.heap.size + 1 + 1) (by omega) (.int .i64 g0) (.int .i64 g1) (.int .i64 0)
              obtain ⟨y0, y1, y2⟩ := bR.three
              obtain ⟨q0, q1, q2⟩ := hN5.three
              clear HO HB hrz hBz0 bR hT0 hT1 hT2 hG0 hG1 hx hr hf keep hmf hmg
              go_wp2
              refine bodyPost_ret (v := .tuple #[.agg #[.int .i64 g0, .int .i64 g1, .int .i64 0], .bool true]) ?_ rfl ⟨⟨_, _, _, by rw [HG.out], fun _ => ⟨rfl, rfl, by rw [HGB.out]⟩⟩, hBz⟩
              rw [sResults_ct rfl]
              simp [asAddr, Result.andThen, go_sem, y0, y1, y2]
            · have HGB : Hid (gb = min n2 bt) := Lib.hid (by rw [HB.out (), if_pos ⟨h5, h6⟩])
              have e5 : (n2 != 0) = true := by simp [h5]
              have e6 : (bt != 0) = true := by simp [h6]
              go_upto_region 10 with fail
              clear k0 k1 k2 k3
              go_region_held3 (fun w' => w'.cell? ⟨w.heap.size, 0, none⟩ = some (.int .i64 ch) ∧ w'.cell? ⟨w.heap.size, 1, none⟩ = some (.int .i64 fr) ∧ w'.cell? ⟨w.heap.size, 2, none⟩ = some (.int .i64 bt) ∧ w'.cell? ⟨w.heap.size + 1 + 1 + 1, 0, none⟩ = some (.func (.func 55) #[] #[.pointer (some ⟨w.heap.size + 1, 0, none⟩)])) (first | (with_reducible exact keep _ hgS) | (with_reducible exact keep _ hg6) | (with_reducible exact keep _ hc5.drew)) (first | (go_at_call 55; refine (hT2 _ hc5.drew).mono ?_; rintro e w6 ⟨rfl, hr6⟩; have hg6 : Below W0.heap.size W0 w6 := hc5.drew.trans (hr6.mono hc5.drew.size); have hN6 := hN5.kept ⟨hr6.os, hr6.tape, hr6.output, hr6.size, hr6.block⟩; have c2 := hN6.cell 2 (by simp); have c3 := hN6.frozen 2; have hgS := hg6.setCell (p := ⟨nb, 2, none⟩) hle (.int .i64 (min n2 bt)); have hN7 := hN6.set 2 (.int .i64 (min n2 bt))))
              have hN8 : Bx (w6.setCell ⟨nb, 2, none⟩ (.int .i64 (min n2 bt))) nb 23 [.int .i64 g0, .int .i64 g1, .int .i64 (min n2 bt)] := hN7
              obtain ⟨W8, hW8⟩ : ∃ W8, W8 = w6.setCell ⟨nb, 2, none⟩ (.int .i64 (min n2 bt)) := ⟨_, rfl⟩
              rw [← hW8] at hN8 hgS ⊢
              clear hN7 hg6 hN6 c2 c3 hW8
              have hrz := hr.kept hgS
              have hBz0 := hb0.trans (hgS.mono hb0.size)
              obtain ⟨z0, f0, z1, f1, z2, f2, bR⟩ := hrz.store3 (.int .i64 g0) (.int .i64 g1) (.int .i64 (min n2 bt))
              have hBz := below_store3 hBz0 (B := w.heap.size + 1 + 1) (by omega) (.int .i64 g0) (.int .i64 g1) (.int .i64 (min n2 bt))
              obtain ⟨y0, y1, y2⟩ := bR.three
              obtain ⟨q0, q1, q2⟩ := hN8.three
              clear HO HB hrz hBz0 bR hT0 hT1 hT2 hG0 hG1 hx hr hf keep hmf hmg
              go_wp2
              refine bodyPost_ret (v := .tuple #[.agg #[.int .i64 g0, .int .i64 g1, .int .i64 (min n2 bt)], .bool true]) ?_ rfl ⟨⟨_, _, _, by rw [HG.out], fun _ => ⟨rfl, rfl, by rw [HGB.out]⟩⟩, hBz⟩
              rw [sResults_ct rfl]
              simp [asAddr, Result.andThen, go_sem, y0, y1, y2]

end Go.Proofs.YtebkolhibifbpaaGreatDoor
