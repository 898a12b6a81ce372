/-
  dial's state that waits for start: it tells who it is, or refuses, or leaves it to serve; nothing that was there is changed. Conditions: the table of widths is as its text lays it; the method's values are numbers and texts of fewer than 2^47 bytes, and lie in old memory; user and word have fewer than 2^60 bytes.
-/
import Derived.Deep.RegionHeld3
import Derived.Laws.Concat
import Derived.Test.YtkdiccedkjbpeaaGreatDoorRWDial1
import Derived.Test.YtkdiccedkjbpeaaGreatDoorRKK
import Derived.Test.YtkdiccedkjbpeaaGreatDoorRWServeE
namespace Go.Proofs.YtkdiccedkjbpeaaGreatDoorR
open Go.RowKit

set_option maxRecDepth 100000 in
set_option maxHeartbeats 4000000 in
theorem dStart_any (h : Hd) (m : Me) (A : Option Addr) (cap : Nat) (w : World) (hw : Wid w) (hv : wfM m) (hA : ValsAt w A (rowV m.l)) (hus : h.us.size < 1152921504606846976) (hwo : h.wo.size < 1152921504606846976) (hz : ∀ k, (argV m.l k).s.size < 4611686018427387904) : Calls Tryz.prog 30 #[encHd h, encM m A cap] w (DnPost (dStart h m) w) := by
  obtain ⟨st, ch, fr, bt, us, wo, ho⟩ := h
  obtain ⟨mc, mi, ml⟩ := m
  unfold encHd encM
  dsimp only
  obtain ⟨r, HG⟩ : ∃ r, Hid (r = dStart ⟨st, ch, fr, bt, us, wo, ho⟩ ⟨mc, mi, ml⟩) := ⟨_, Lib.hid rfl⟩
  rw [← HG.out]
  unfold DnPost
  have HF : Hid (r = if (mc == 10 && mi == 10) = true then (if (argV ml 0).n = 0 ∧ (argV ml 1).n = 9 ∧ offX (argV ml 3).s.data.toList plainS.data.toList = true then dSays ⟨st, ch, fr, bt, us, wo, ho⟩ 2 [⟨10, 11, [wordV emptyT, wordV plainS, wordV (whoS us wo), wordV enU]⟩] else dRefuse ⟨st, ch, fr, bt, us, wo, ho⟩ 16) else dOthers ⟨st, ch, fr, bt, us, wo, ho⟩ ⟨mc, mi, ml⟩) := Lib.hid HG.out
  clear HG
  obtain ⟨q, hq⟩ : ∃ q, (mc == 10 && mi == 10) = q := ⟨_, rfl⟩
  rw [hq] at HF
  obtain ⟨W0, hW0⟩ : ∃ W0, W0 = ((w.alloc (.cells #[.int .i64 st, .int .i64 ch, .int .i64 fr, .int .i64 bt, .string us, .string wo, .string ho] 59)).alloc (.cells #[.int .i64 mc, .int .i64 mi, .slice A ml.length cap] 39)).alloc (.cells #[.int .i64 0, .int .i64 0, .int .i64 0, .int .i64 0, .string ⟨#[]⟩, .string ⟨#[]⟩, .string ⟨#[]⟩] 28) := ⟨_, rfl⟩
  have hb0 : Below w.heap.size w W0 := by rw [hW0]; exact (((Below.refl _ w).alloc (Nat.le_refl _) _).alloc (by simp) _).alloc (by simp; omega) _
  have hs0 : W0.heap.size = w.heap.size + 1 + 1 + 1 := by rw [hW0]; simp
  have hx : Bx W0 w.heap.size 59 [.int .i64 st, .int .i64 ch, .int .i64 fr, .int .i64 bt, .string us, .string wo, .string ho] := by rw [hW0]; exact ((Bx.new w 59 [.int .i64 st, .int .i64 ch, .int .i64 fr, .int .i64 bt, .string us, .string wo, .string ho]).alloc _).alloc _
  have hm : Bx W0 (w.heap.size + 1) 39 [.int .i64 mc, .int .i64 mi, .slice A ml.length cap] := by
    have h := (Bx.new (w.alloc (.cells #[.int .i64 st, .int .i64 ch, .int .i64 fr, .int .i64 bt, .string us, .string wo, .string ho] 59)) 39 [.int .i64 mc, .int .i64 mi, .slice A ml.length cap]).alloc (.cells #[.int .i64 0, .int .i64 0, .int .i64 0, .int .i64 0, .string ⟨#[]⟩, .string ⟨#[]⟩, .string ⟨#[]⟩] 28)
    rw [World.size_alloc] at h
    rw [hW0]; exact h
  have hr : Bx W0 (w.heap.size + 1 + 1) 28 [.int .i64 0, .int .i64 0, .int .i64 0, .int .i64 0, .string ⟨#[]⟩, .string ⟨#[]⟩, .string ⟨#[]⟩] := by
    have h := Bx.new ((w.alloc (.cells #[.int .i64 st, .int .i64 ch, .int .i64 fr, .int .i64 bt, .string us, .string wo, .string ho] 59)).alloc (.cells #[.int .i64 mc, .int .i64 mi, .slice A ml.length cap] 39)) 28 [.int .i64 0, .int .i64 0, .int .i64 0, .int .i64 0, .string ⟨#[]⟩, .string ⟨#[]⟩, .string ⟨#[]⟩]
    rw [World.size_alloc, World.size_alloc] at h
    rw [hW0]; exact h
  have hI := dIs_any mc mi A ml.length cap 10 W0
  have hAr := fun k W (h : Below w.heap.size w W) => arg_any ⟨mc, mi, ml⟩ A cap k W (hA.below h)
  unfold encM at hAr
  try unfold encHd at *
  try dsimp only at *
  rw [hq] at hI
  clear hq
  go_enter Tryz.func30, Tryz.ntmps30
  go_wp2_with fail
  rw [← hW0]
  clear hW0
  with_reducible refine hI.mono ?_
  rintro e w1 ⟨rfl, hb1⟩
  have hB := hb0.trans (hb1.mono hb0.size)
  replace hx := hx.kept hb1
  replace hm := hm.kept hb1
  replace hr := hr.kept hb1
  clear hI hb1 hb0
  cases q
  · have HG : Hid (r = dOthers ⟨st, ch, fr, bt, us, wo, ho⟩ ⟨mc, mi, ml⟩) := Lib.hid (by rw [HF.out]; rfl)
    clear HF hAr hz hus hwo
    obtain ⟨x0, x1, x2, x3, x4, x5, x6⟩ := hx.seven
    obtain ⟨m0, m1, m2⟩ := hm.three
    have hC := dOthers_any ⟨st, ch, fr, bt, us, wo, ho⟩ ⟨mc, mi, ml⟩ A cap w1 (hw.below hB) hv (hA.below hB)
    unfold DnPost encHd encM at hC
    dsimp only at hC
    generalize dOthers ⟨st, ch, fr, bt, us, wo, ho⟩ ⟨mc, mi, ml⟩ = r9 at hC HG
    obtain ⟨⟨p0, p1, p2, p3, p4, p5, p6⟩, ps, pe⟩ := r9
    dsimp only at hC
    go_wp2_with fail
    with_reducible refine hC.mono ?_
    rintro e w9 ⟨A9, k9, c9, rfl, hS, hb9⟩
    have hB9 := hB.trans (hb9.mono hB.size)
    have hlt := hr.lt
    replace hr := hr.kept hb9
    clear hC x0 x1 x2 x3 x4 x5 x6 m0 m1 m2
    obtain ⟨a0, f0, a1, f1, a2, f2, a3, f3, a4, f4, a5, f5, a6, f6, bR⟩ := hr.store7 (.int .i64 p0) (.int .i64 p1) (.int .i64 p2) (.int .i64 p3) (.string p4) (.string p5) (.string p6)
    have hBz := below_store7 hB9 (B := w.heap.size + 1 + 1) (by omega) (.int .i64 p0) (.int .i64 p1) (.int .i64 p2) (.int .i64 p3) (.string p4) (.string p5) (.string p6)
    have HS := Lib.hid (DSaid.store7 (w := w9) (n' := w.heap.size) hS (by omega) (B := w.heap.size + 1 + 1) (by omega) (.int .i64 p0) (.int .i64 p1) (.int .i64 p2) (.int .i64 p3) (.string p4) (.string p5) (.string p6))
    obtain ⟨y0, y1, y2, y3, y4, y5, y6⟩ := bR.seven
    clear bR hx hm hr hs0 hB9 hw hv hA 
    go_wp2
    first | refine bodyPost_ret (v := .tuple #[.agg #[.int .i64 p0, .int .i64 p1, .int .i64 p2, .int .i64 p3, .string p4, .string p5, .string p6], .slice A9 k9 c9, .int .i64 pe]) ?_ rfl ⟨A9, k9, c9, by rw [HG.out] <;> rfl, by rw [HG.out]; exact HS.out, hBz⟩ | refine bodyPost_ret (v := .tuple #[.agg #[.int .i64 p0, .int .i64 p1, .int .i64 p2, .int .i64 p3, .string p4, .string p5, .string p6], .slice A9 k9 c9, .int .i64 pe]) ?_ rfl ⟨A9, k9, ⟨c9, by rw [HG.out] <;> rfl⟩, by rw [HG.out]; exact HS.out, hBz⟩
    rw [results_ctt rfl]
    simp [asAddr, Result.andThen, go_sem, y0, y1, y2, y3, y4, y5, y6]
  · have HF2 : Hid (r = if (argV ml 0).n = 0 ∧ (argV ml 1).n = 9 ∧ offX (argV ml 3).s.data.toList plainS.data.toList = true then dSays ⟨st, ch, fr, bt, us, wo, ho⟩ 2 [⟨10, 11, [wordV emptyT, wordV plainS, wordV (whoS us wo), wordV enU]⟩] else dRefuse ⟨st, ch, fr, bt, us, wo, ho⟩ 16) := Lib.hid (by rw [HF.out]; rfl)
    clear HF hw hv hA
    have hz3 := hz 3
    have hAr0 := hAr 0 w1 hB
    have hAr1 := hAr 1
    have hAr3 := hAr 3
    clear hAr hz
    unfold encV at hAr0 hAr1 hAr3
    generalize argV ml 0 = v0 at hAr0 HF2
    generalize argV ml 1 = v1 at hAr1 HF2
    generalize argV ml 3 = v3 at hAr3 HF2 hz3
    obtain ⟨a0, t0⟩ := v0
    obtain ⟨a1, t1⟩ := v1
    obtain ⟨a3, t3⟩ := v3
    dsimp only at hAr0 hAr1 hAr3 HF2 hz3
    obtain ⟨m0, m1, m2⟩ := hm.three
    go_wp2_with fail
    with_reducible refine hAr0.mono ?_
    rintro e w2 ⟨rfl, hb2⟩
    have hB2 := hB.trans (hb2.mono hB.size)
    replace hx := hx.kept hb2
    replace hm := hm.kept hb2
    replace hr := hr.kept hb2
    clear hAr0 hb2 hB m0 m1 m2
    have hFd := field_n a0 t0 w2
    by_cases g0 : a0 = 0
    · subst g0
      have hAr1 := hAr1 w2 hB2
      obtain ⟨m0, m1, m2⟩ := hm.three
      go_wp2_with fail
      with_reducible refine hAr1.mono ?_
      rintro e w3 ⟨rfl, hb3⟩
      have hB3 := hB2.trans (hb3.mono hB2.size)
      replace hx := hx.kept hb3
      replace hm := hm.kept hb3
      replace hr := hr.kept hb3
      clear hAr1 hb3 hB2 m0 m1 m2 hFd
      have hFd := field_n a1 t1 w3
      by_cases g1 : a1 = 9
      · subst g1
        have hAr3 := hAr3 w3 hB3
        obtain ⟨m0, m1, m2⟩ := hm.three
        go_wp2_with fail
        with_reducible refine hAr3.mono ?_
        rintro e w4 ⟨rfl, hb4⟩
        have hB4 := hB3.trans (hb4.mono hB3.size)
        replace hx := hx.kept hb4
        replace hr := hr.kept hb4
        clear hAr3 hb4 hB3 m0 m1 m2 hFd hm
        have hFd := field_s a3 t3 w4
        have hOf := offers_any t3 plainS w4 hz3
        unfold plainS at hOf
        go_wp2_with fail
        with_reducible refine hOf.mono ?_
        rintro e w5 ⟨rfl, hb5⟩
        have hB5 := hB4.trans (hb5.mono hB4.size)
        replace hx := hx.kept hb5
        replace hr := hr.kept hb5
        clear hOf hb5 hB4 hFd hz3
        have HO : Hid (r = if offX t3.data.toList (⟨#[80, 76, 65, 73, 78]⟩ : ByteArray).data.toList = true then dSays ⟨st, ch, fr, bt, us, wo, ho⟩ 2 [⟨10, 11, [wordV emptyT, wordV plainS, wordV (whoS us wo), wordV enU]⟩] else dRefuse ⟨st, ch, fr, bt, us, wo, ho⟩ 16) := Lib.hid (by rw [HF2.out]; simp only [true_and]; rfl)
        clear HF2
        generalize offX t3.data.toList (⟨#[80, 76, 65, 73, 78]⟩ : ByteArray).data.toList = o at HO ⊢
        cases o
        · have HG : Hid (r = dRefuse ⟨st, ch, fr, bt, us, wo, ho⟩ 16) := Lib.hid (by rw [HO.out]; rfl)
          clear HO hus hwo
          obtain ⟨x0, x1, x2, x3, x4, x5, x6⟩ := hx.seven
          have hC := dRefuse_any ⟨st, ch, fr, bt, us, wo, ho⟩ 16 w5
          unfold encHd at hC
          dsimp only at hC
          go_wp2_with fail
          with_reducible refine hC.mono ?_
          rintro e w9 ⟨rfl, hb9⟩
          have hB9 := hB5.trans (hb9.mono hB5.size)
          replace hr := hr.kept hb9
          clear hC x0 x1 x2 x3 x4 x5 x6 
          obtain ⟨a0, f0, a1, f1, a2, f2, a3, f3, a4, f4, a5, f5, a6, f6, bR⟩ := hr.store7 (.int .i64 st) (.int .i64 ch) (.int .i64 fr) (.int .i64 bt) (.string us) (.string wo) (.string ho)
          have hBz := below_store7 hB9 (B := w.heap.size + 1 + 1) (by omega) (.int .i64 st) (.int .i64 ch) (.int .i64 fr) (.int .i64 bt) (.string us) (.string wo) (.string ho)
          have HS := Lib.hid (DSaid.store7 (w := w9) (n' := w.heap.size) (n := w.heap.size + 1 + 1 + 1) (l := []) (A := none) (k := 0) ⟨rfl, rfl⟩ (by omega) (B := w.heap.size + 1 + 1) (by omega) (.int .i64 st) (.int .i64 ch) (.int .i64 fr) (.int .i64 bt) (.string us) (.string wo) (.string ho))
          obtain ⟨y0, y1, y2, y3, y4, y5, y6⟩ := bR.seven
          clear bR hx hr hs0 hB9 
          go_wp2
          first | refine bodyPost_ret (v := .tuple #[.agg #[.int .i64 st, .int .i64 ch, .int .i64 fr, .int .i64 bt, .string us, .string wo, .string ho], .slice none 0 0, .int .i64 16]) ?_ rfl ⟨none, 0, 0, by rw [HG.out] <;> rfl, by rw [HG.out]; exact HS.out, hBz⟩ | refine bodyPost_ret (v := .tuple #[.agg #[.int .i64 st, .int .i64 ch, .int .i64 fr, .int .i64 bt, .string us, .string wo, .string ho], .slice none 0 0, .int .i64 16]) ?_ rfl ⟨none, 0, ⟨0, by rw [HG.out] <;> rfl⟩, by rw [HG.out]; exact HS.out, hBz⟩
          rw [results_ctt rfl]
          simp [asAddr, Result.andThen, go_sem, y0, y1, y2, y3, y4, y5, y6]
        · have HG : Hid (r = dSays ⟨st, ch, fr, bt, us, wo, ho⟩ 2 [⟨10, 11, [wordV emptyT, wordV plainS, wordV (whoS us wo), wordV enU]⟩]) := Lib.hid (by rw [HO.out]; rfl)
          clear HO
          obtain ⟨u1, hu1⟩ : ∃ u1, (⟨#[0]⟩ : ByteArray) ++ us = u1 := ⟨_, rfl⟩
          obtain ⟨u2, hu2⟩ : ∃ u2, u1 ++ (⟨#[0]⟩ : ByteArray) = u2 := ⟨_, rfl⟩
          obtain ⟨u3, hu3⟩ : ∃ u3, u2 ++ wo = u3 := ⟨_, rfl⟩
          have hz0 : (⟨#[0]⟩ : ByteArray).size = 1 := rfl
          have hz1 : u1.size = 1 + us.size := by rw [← hu1, ByteArray.size_append, hz0]
          have hz2 : u2.size = 1 + us.size + 1 := by rw [← hu2, ByteArray.size_append, hz0, hz1]
          have hd1 : ∀ w', (Op.stringOp .add ⟨#[0]⟩ us).run Tryz.prog w' = .ok (.string u1) w' := fun w' => by rw [← hu1]; exact run_string_add_sum (w := w') _ _ (by omega)
          have hd2 : ∀ w', (Op.stringOp .add u1 ⟨#[0]⟩).run Tryz.prog w' = .ok (.string u2) w' := fun w' => by rw [← hu2]; exact run_string_add_sum (w := w') _ _ (by omega)
          have hd3 : ∀ w', (Op.stringOp .add u2 wo).run Tryz.prog w' = .ok (.string u3) w' := fun w' => by rw [← hu3]; exact run_string_add_sum (w := w') _ _ (by omega)
          have eW : whoS us wo = u3 := by rw [← hu3, ← hu2, ← hu1]; rfl
          rw [eW] at HG
          clear eW hu1 hu2 hu3 hz0 hz1 hz2 hus hwo
          obtain ⟨x0, x1, x2, x3, x4, x5, x6⟩ := hx.seven
          go_upto_region 7 with fail
          clear hd1 hd2 hd3 x0 x1 x2 x3 x4 x5 x6
          obtain ⟨W2, hW2⟩ : ∃ W2, W2 = w5 := ⟨_, rfl⟩
          rw [← hW2] at hx hr hB5 ⊢
          clear hW2
          have hEm := fun W => dEmpty_any W
          have hN0 := fun W => dText_any emptyT W
          have hN1 := fun W => dText_any plainS W
          have hN2 := fun W => dText_any u3 W
          have hN3 := fun W => dText_any enU W
          generalize wordV emptyT = v0 at hN0 HG
          generalize wordV plainS = v1 at hN1 HG
          generalize wordV u3 = v2 at hN2 HG
          generalize wordV enU = v3 at hN3 HG
          obtain ⟨n0, s0⟩ := v0
          obtain ⟨n1, s1⟩ := v1
          obtain ⟨n2, s2⟩ := v2
          obtain ⟨n3, s3⟩ := v3
          unfold encV at hN0 hN1 hN2 hN3
          unfold emptyT at hN0
          unfold plainS at hN1
          unfold enU at hN3
          try dsimp only at hN0 hN1 hN2 hN3
          have hlt := hr.lt
          have keep : ∀ w', Below W2.heap.size W2 w' → w'.cell? ⟨w.heap.size, 0, none⟩ = some (.int .i64 st) ∧ w'.cell? ⟨w.heap.size, 1, none⟩ = some (.int .i64 ch) ∧ w'.cell? ⟨w.heap.size, 2, none⟩ = some (.int .i64 fr) ∧ w'.cell? ⟨w.heap.size, 3, none⟩ = some (.int .i64 bt) ∧ w'.cell? ⟨w.heap.size, 4, none⟩ = some (.string us) ∧ w'.cell? ⟨w.heap.size, 5, none⟩ = some (.string wo) ∧ w'.cell? ⟨w.heap.size, 6, none⟩ = some (.string ho) := fun w' h => (hx.kept h).seven
          have hCo := fun (W : World) => dConn_any 11 (some ⟨W.heap.size, 0, none⟩) 4 4 (W.alloc (.cells #[.int .u64 n0, .string s0, .int .u64 n1, .string s1, .int .u64 n2, .string s2, .int .u64 n3, .string s3] 51))
          have hSa := fun (W : World) (k : Nat) => dSay_any ⟨st, ch, fr, bt, us, wo, ho⟩ 2 (some ⟨W.heap.size, 0, none⟩) 1 1 (W.alloc (.cells #[.int .i64 10, .int .i64 11, .slice (some ⟨k, 0, none⟩) 4 4] 39))
          unfold encHd at hSa
          dsimp only at hSa
          go_region_held3 (fun w' => w'.cell? ⟨w.heap.size, 0, none⟩ = some (.int .i64 st) ∧ w'.cell? ⟨w.heap.size, 1, none⟩ = some (.int .i64 ch) ∧ w'.cell? ⟨w.heap.size, 2, none⟩ = some (.int .i64 fr) ∧ w'.cell? ⟨w.heap.size, 3, none⟩ = some (.int .i64 bt) ∧ w'.cell? ⟨w.heap.size, 4, none⟩ = some (.string us) ∧ w'.cell? ⟨w.heap.size, 5, none⟩ = some (.string wo) ∧ w'.cell? ⟨w.heap.size, 6, none⟩ = some (.string ho)) (first | (with_reducible exact hx5.seven) | (with_reducible exact keep _ hf7) | (with_reducible exact keep _ (hf6.alloc hf6.size _)) | (with_reducible exact keep _ hf6) | (with_reducible exact keep _ (hf4.alloc hf4.size _)) | (with_reducible exact keep _ hf4) | (with_reducible exact keep _ hf3) | (with_reducible exact keep _ hf2) | (with_reducible exact keep _ hf1) | (with_reducible exact keep _ (Below.refl _ W2).drew)) (first | (go_at_call 54; with_reducible refine (hSa g6 g4.heap.size).mono ?_; rintro e g7 ⟨rfl, hr7⟩; have hf7 : Below W2.heap.size W2 g7 := (hf6.alloc hf6.size _).trans (hr7.mono (hf6.alloc hf6.size _).size); have hrz := hr.kept hf7; obtain ⟨a0, f0, a1, f1, a2, f2, a3, f3, a4, f4, a5, f5, a6, f6, bR⟩ := hrz.store7 (.int .i64 2) (.int .i64 ch) (.int .i64 fr) (.int .i64 bt) (.string us) (.string wo) (.string ho); have hx5 := (hx.kept hf7).other7 (B := w.heap.size + 1 + 1) (by omega) (.int .i64 2) (.int .i64 ch) (.int .i64 fr) (.int .i64 bt) (.string us) (.string wo) (.string ho)) | (go_at_call 55; with_reducible refine (hCo g4).mono ?_; rintro e g6 ⟨rfl, hr6⟩; have hf6 : Below W2.heap.size W2 g6 := (hf4.alloc hf4.size _).trans (hr6.mono (hf4.alloc hf4.size _).size)) | (go_at_call 56; refine (hN3 _).mono ?_; rintro e g4 ⟨rfl, hr4⟩; have hf4 : Below W2.heap.size W2 g4 := hf3.trans (hr4.mono hf3.size)) | (go_at_call 56; refine (hN2 _).mono ?_; rintro e g3 ⟨rfl, hr3⟩; have hf3 : Below W2.heap.size W2 g3 := hf2.trans (hr3.mono hf2.size)) | (go_at_call 56; refine (hN1 _).mono ?_; rintro e g2 ⟨rfl, hr2⟩; have hf2 : Below W2.heap.size W2 g2 := hf1.trans (hr2.mono hf1.size)) | (go_at_call 56; refine (hN0 _).mono ?_; rintro e g1 ⟨rfl, hr1⟩; have hf1 : Below W2.heap.size W2 g1 := (Below.refl _ W2).drew.trans (hr1.mono (Below.refl W2.heap.size W2).drew.size)) | (go_at_call 57; refine (hEm _).mono ?_; rintro e ge ⟨rfl, rfl⟩))
          have hl4 := hf4.size
          have hl6 := hf6.size
          have bV : Bx g7 g4.heap.size 51 [.int .u64 n0, .string s0, .int .u64 n1, .string s1, .int .u64 n2, .string s2, .int .u64 n3, .string s3] := ((Bx.new g4 51 [.int .u64 n0, .string s0, .int .u64 n1, .string s1, .int .u64 n2, .string s2, .int .u64 n3, .string s3]).kept hr6).kept ((Below.refl g6.heap.size g6).alloc (Nat.le_refl _) _) |>.kept hr7
          have bM : Bx g7 g6.heap.size 39 [.int .i64 10, .int .i64 11, .slice (some ⟨g4.heap.size, 0, none⟩) 4 4] := (Bx.new g6 39 [.int .i64 10, .int .i64 11, .slice (some ⟨g4.heap.size, 0, none⟩) 4 4]).kept hr7
          have hS : DSaid (w.heap.size + 1 + 1 + 1) g7 (some ⟨g6.heap.size, 0, none⟩) 1 [⟨10, 11, [⟨n0, s0⟩, ⟨n1, s1⟩, ⟨n2, s2⟩, ⟨n3, s3⟩]⟩] := ⟨rfl, g6.heap.size, _, 4, rfl, by omega, bM, .inr ⟨g4.heap.size, rfl, by omega, bV⟩⟩
          have hB9 := hB5.trans (hf7.mono hB5.size)
          have hBz := below_store7 hB9 (B := w.heap.size + 1 + 1) (by omega) (.int .i64 2) (.int .i64 ch) (.int .i64 fr) (.int .i64 bt) (.string us) (.string wo) (.string ho)
          have HS := Lib.hid (DSaid.store7 (w := g7) (n' := w.heap.size) hS (by omega) (B := w.heap.size + 1 + 1) (by omega) (.int .i64 2) (.int .i64 ch) (.int .i64 fr) (.int .i64 bt) (.string us) (.string wo) (.string ho))
          obtain ⟨y0, y1, y2, y3, y4, y5, y6⟩ := bR.seven
          clear hS bV bM hl4 hl6
          go_wp2
          refine bodyPost_ret (v := .tuple #[.agg #[.int .i64 2, .int .i64 ch, .int .i64 fr, .int .i64 bt, .string us, .string wo, .string ho], .slice (some ⟨g6.heap.size, 0, none⟩) 1 1, .int .i64 0]) ?_ rfl ⟨some ⟨g6.heap.size, 0, none⟩, 1, 1, by rw [HG.out] <;> rfl, by rw [HG.out]; exact HS.out, hBz⟩
          rw [results_ctt rfl]
          simp [asAddr, Result.andThen, go_sem, y0, y1, y2, y3, y4, y5, y6]
      · have HG : Hid (r = dRefuse ⟨st, ch, fr, bt, us, wo, ho⟩ 16) := Lib.hid (by rw [HF2.out, if_neg (fun hh => g1 hh.2.1)])
        clear HF2 hAr3 hus hwo
        have e1 : (a1 == 9) = false := beq_eq_false_iff_ne.2 g1
        obtain ⟨x0, x1, x2, x3, x4, x5, x6⟩ := hx.seven
        have hC := dRefuse_any ⟨st, ch, fr, bt, us, wo, ho⟩ 16 w3
        unfold encHd at hC
        dsimp only at hC
        go_wp2_with fail
        with_reducible refine hC.mono ?_
        rintro e w9 ⟨rfl, hb9⟩
        have hB9 := hB3.trans (hb9.mono hB3.size)
        replace hr := hr.kept hb9
        clear hC x0 x1 x2 x3 x4 x5 x6 
        obtain ⟨a0, f0, a1, f1, a2, f2, a3, f3, a4, f4, a5, f5, a6, f6, bR⟩ := hr.store7 (.int .i64 st) (.int .i64 ch) (.int .i64 fr) (.int .i64 bt) (.string us) (.string wo) (.string ho)
        have hBz := below_store7 hB9 (B := w.heap.size + 1 + 1) (by omega) (.int .i64 st) (.int .i64 ch) (.int .i64 fr) (.int .i64 bt) (.string us) (.string wo) (.string ho)
        have HS := Lib.hid (DSaid.store7 (w := w9) (n' := w.heap.size) (n := w.heap.size + 1 + 1 + 1) (l := []) (A := none) (k := 0) ⟨rfl, rfl⟩ (by omega) (B := w.heap.size + 1 + 1) (by omega) (.int .i64 st) (.int .i64 ch) (.int .i64 fr) (.int .i64 bt) (.string us) (.string wo) (.string ho))
        obtain ⟨y0, y1, y2, y3, y4, y5, y6⟩ := bR.seven
        clear bR hx hm hr hs0 hB9 hFd 
        go_wp2
        first | refine bodyPost_ret (v := .tuple #[.agg #[.int .i64 st, .int .i64 ch, .int .i64 fr, .int .i64 bt, .string us, .string wo, .string ho], .slice none 0 0, .int .i64 16]) ?_ rfl ⟨none, 0, 0, by rw [HG.out] <;> rfl, by rw [HG.out]; exact HS.out, hBz⟩ | refine bodyPost_ret (v := .tuple #[.agg #[.int .i64 st, .int .i64 ch, .int .i64 fr, .int .i64 bt, .string us, .string wo, .string ho], .slice none 0 0, .int .i64 16]) ?_ rfl ⟨none, 0, ⟨0, by rw [HG.out] <;> rfl⟩, by rw [HG.out]; exact HS.out, hBz⟩
        rw [results_ctt rfl]
        simp [asAddr, Result.andThen, go_sem, y0, y1, y2, y3, y4, y5, y6]
    · have HG : Hid (r = dRefuse ⟨st, ch, fr, bt, us, wo, ho⟩ 16) := Lib.hid (by rw [HF2.out, if_neg (fun hh => g0 hh.1)])
      clear HF2 hAr1 hAr3 hus hwo
      have e1 : (a0 == 0) = false := beq_eq_false_iff_ne.2 g0
      obtain ⟨x0, x1, x2, x3, x4, x5, x6⟩ := hx.seven
      have hC := dRefuse_any ⟨st, ch, fr, bt, us, wo, ho⟩ 16 w2
      unfold encHd at hC
      dsimp only at hC
      go_wp2_with fail
      with_reducible refine hC.mono ?_
      rintro e w9 ⟨rfl, hb9⟩
      have hB9 := hB2.trans (hb9.mono hB2.size)
      replace hr := hr.kept hb9
      clear hC x0 x1 x2 x3 x4 x5 x6 
      obtain ⟨a0, f0, a1, f1, a2, f2, a3, f3, a4, f4, a5, f5, a6, f6, bR⟩ := hr.store7 (.int .i64 st) (.int .i64 ch) (.int .i64 fr) (.int .i64 bt) (.string us) (.string wo) (.string ho)
      have hBz := below_store7 hB9 (B := w.heap.size + 1 + 1) (by omega) (.int .i64 st) (.int .i64 ch) (.int .i64 fr) (.int .i64 bt) (.string us) (.string wo) (.string ho)
      have HS := Lib.hid (DSaid.store7 (w := w9) (n' := w.heap.size) (n := w.heap.size + 1 + 1 + 1) (l := []) (A := none) (k := 0) ⟨rfl, rfl⟩ (by omega) (B := w.heap.size + 1 + 1) (by omega) (.int .i64 st) (.int .i64 ch) (.int .i64 fr) (.int .i64 bt) (.string us) (.string wo) (.string ho))
      obtain ⟨y0, y1, y2, y3, y4, y5, y6⟩ := bR.seven
      clear bR hx hm hr hs0 hB9 hFd 
      go_wp2
      first | refine bodyPost_ret (v := .tuple #[.agg #[.int .i64 st, .int .i64 ch, .int .i64 fr, .int .i64 bt, .string us, .string wo, .string ho], .slice none 0 0, .int .i64 16]) ?_ rfl ⟨none, 0, 0, by rw [HG.out] <;> rfl, by rw [HG.out]; exact HS.out, hBz⟩ | refine bodyPost_ret (v := .tuple #[.agg #[.int .i64 st, .int .i64 ch, .int .i64 fr, .int .i64 bt, .string us, .string wo, .string ho], .slice none 0 0, .int .i64 16]) ?_ rfl ⟨none, 0, ⟨0, by rw [HG.out] <;> rfl⟩, by rw [HG.out]; exact HS.out, hBz⟩
      rw [results_ctt rfl]
      simp [asAddr, Result.andThen, go_sem, y0, y1, y2, y3, y4, y5, y6]
end Go.Proofs.YtkdiccedkjbpeaaGreatDoorR
