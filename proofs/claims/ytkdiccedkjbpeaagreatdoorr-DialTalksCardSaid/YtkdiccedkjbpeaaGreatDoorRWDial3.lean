/-
  dial's state that waits for tune: it agrees and says so, or refuses, or leaves it to serve; nothing that was there is changed. Conditions: the table of widths is as its text lays it; the method's values are numbers and texts of fewer than 2^47 bytes, and lie in old memory.
-/
import Derived.Deep.RegionHeld3
import Derived.Deep.DeepCutAuto
import Derived.Test.YtkdiccedkjbpeaaGreatDoorRWDial1
import Derived.Test.YtkdiccedkjbpeaaGreatDoorRKK
namespace Go.Proofs.YtkdiccedkjbpeaaGreatDoorR
open Go.RowKit

set_option maxRecDepth 100000 in
set_option maxHeartbeats 4000000 in
theorem dTheirs_any (mc mi : Int) (ml : List MV) (A : Option Addr) (cap : Nat) (k : Int) (b : Nat) (w : World) (hm : Bx w b 39 [.int .i64 mc, .int .i64 mi, .slice A ml.length cap]) (hA : ValsAt w A (rowV ml)) : Calls Tryz.prog 58 #[.int .i64 k, .pointer (some ⟨b, 0, none⟩)] w fun e w' => e = .returned (.int .i64 (intN (argV ml k).n)) ∧ Below w.heap.size w w' := by
  have hAr := arg_any ⟨mc, mi, ml⟩ A cap k w hA
  unfold encM encV at hAr
  dsimp only at hAr
  generalize argV ml k = v at hAr ⊢
  obtain ⟨vn, vs⟩ := v
  dsimp only at hAr ⊢
  obtain ⟨q, hq⟩ : ∃ q, intN vn = q := ⟨_, rfl⟩
  have hW : IntKind.i64.wrap vn = q := hq
  rw [hq]
  have hFd := fun W => field_n vn vs W
  obtain ⟨m0, m1, m2⟩ := hm.three
  clear hA hm hq
  go_enter Tryz.func58, Tryz.ntmps58
  go_wp2_with fail
  with_reducible refine hAr.mono ?_
  rintro e w1 ⟨rfl, hb1⟩
  have hFd1 := hFd w1
  clear hAr hFd m0 m1 m2
  go_wp2
  go_ret
  exact ⟨rfl, hb1⟩
theorem below_named {n : Nat} {w w' : World} (_ : Below n w w') : ∃ x, x = w' := ⟨_, rfl⟩
theorem Bx.other3 {W : World} {B B2 : Nat} {t : TypeId} {l : List Value} (h : Bx W B2 t l) (hne : B ≠ B2) (b0 b1 b2 : Value) : Bx (((W.setCell ⟨B, 0, none⟩ b0).setCell ⟨B, 1, none⟩ b1).setCell ⟨B, 2, none⟩ b2) B2 t l :=
  ((h.other (B' := B) hne 0 b0).other (B' := B) hne 1 b1).other (B' := B) hne 2 b2
theorem seven_three {a b c d e f g h i j : Prop} (x : a ∧ b ∧ c ∧ d ∧ e ∧ f ∧ g) (y : h ∧ i ∧ j) : a ∧ b ∧ c ∧ d ∧ e ∧ f ∧ g ∧ h ∧ i ∧ j := ⟨x.1, x.2.1, x.2.2.1, x.2.2.2.1, x.2.2.2.2.1, x.2.2.2.2.2.1, x.2.2.2.2.2.2, y.1, y.2.1, y.2.2⟩
set_option maxRecDepth 100000 in
set_option maxHeartbeats 8000000 in
theorem dTune_any (h : Hd) (m : Me) (A : Option Addr) (cap : Nat) (w : World) (hw : Wid w) (hv : wfM m) (hA : ValsAt w A (rowV m.l)) : Calls Tryz.prog 31 #[encHd h, encM m A cap] w (DnPost (dTune h m) w) := by
  obtain ⟨st, ch, fr, bt, us, wo, ho⟩ := h
  obtain ⟨mc, mi, ml⟩ := m
  unfold encHd encM
  dsimp only
  obtain ⟨r, HG⟩ : ∃ r, Hid (r = dTune ⟨st, ch, fr, bt, us, wo, ho⟩ ⟨mc, mi, ml⟩) := ⟨_, Lib.hid rfl⟩
  rw [← HG.out]
  unfold DnPost
  have HF : Hid (r = if (mc == 10 && mi == 30) = true then (if dgE ch fr bt (intN (argV ml 0).n) (intN (argV ml 1).n) (intN (argV ml 2).n) = 0 then dSays ⟨st, lessN ch (intN (argV ml 0).n), lessN fr (intN (argV ml 1).n), min bt (intN (argV ml 2).n), us, wo, ho⟩ 3 [⟨10, 31, [numV (lessN ch (intN (argV ml 0).n)), numV (lessN fr (intN (argV ml 1).n)), numV (min bt (intN (argV ml 2).n))]⟩, ⟨10, 40, [wordV ho, wordV ⟨#[]⟩, numV 0]⟩] else dRefuse ⟨st, ch, fr, bt, us, wo, ho⟩ (dgE ch fr bt (intN (argV ml 0).n) (intN (argV ml 1).n) (intN (argV ml 2).n))) else dOthers ⟨st, ch, fr, bt, us, wo, ho⟩ ⟨mc, mi, ml⟩) := Lib.hid HG.out
  clear HG
  obtain ⟨q, hq⟩ : ∃ q, (mc == 10 && mi == 30) = q := ⟨_, rfl⟩
  rw [hq] at HF
  obtain ⟨W0, hW0⟩ : ∃ W0, W0 = ((w.alloc (.cells #[.int .i64 st, .int .i64 ch, .int .i64 fr, .int .i64 bt, .string us, .string wo, .string ho] 59)).alloc (.cells #[.int .i64 mc, .int .i64 mi, .slice A ml.length cap] 39)).alloc (.cells #[.int .i64 0, .int .i64 0, .int .i64 0, .int .i64 0, .string ⟨#[]⟩, .string ⟨#[]⟩, .string ⟨#[]⟩] 28) := ⟨_, rfl⟩
  have hb0 : Below w.heap.size w W0 := by rw [hW0]; exact (((Below.refl _ w).alloc (Nat.le_refl _) _).alloc (by simp) _).alloc (by simp; omega) _
  have hs0 : W0.heap.size = w.heap.size + 1 + 1 + 1 := by rw [hW0]; simp
  have hx : Bx W0 w.heap.size 59 [.int .i64 st, .int .i64 ch, .int .i64 fr, .int .i64 bt, .string us, .string wo, .string ho] := by rw [hW0]; exact ((Bx.new w 59 [.int .i64 st, .int .i64 ch, .int .i64 fr, .int .i64 bt, .string us, .string wo, .string ho]).alloc _).alloc _
  have hm : Bx W0 (w.heap.size + 1) 39 [.int .i64 mc, .int .i64 mi, .slice A ml.length cap] := by
    have h := (Bx.new (w.alloc (.cells #[.int .i64 st, .int .i64 ch, .int .i64 fr, .int .i64 bt, .string us, .string wo, .string ho] 59)) 39 [.int .i64 mc, .int .i64 mi, .slice A ml.length cap]).alloc (.cells #[.int .i64 0, .int .i64 0, .int .i64 0, .int .i64 0, .string ⟨#[]⟩, .string ⟨#[]⟩, .string ⟨#[]⟩] 28)
    rw [World.size_alloc] at h
    rw [hW0]; exact h
  have hr : Bx W0 (w.heap.size + 1 + 1) 28 [.int .i64 0, .int .i64 0, .int .i64 0, .int .i64 0, .string ⟨#[]⟩, .string ⟨#[]⟩, .string ⟨#[]⟩] := by
    have h := Bx.new ((w.alloc (.cells #[.int .i64 st, .int .i64 ch, .int .i64 fr, .int .i64 bt, .string us, .string wo, .string ho] 59)).alloc (.cells #[.int .i64 mc, .int .i64 mi, .slice A ml.length cap] 39)) 28 [.int .i64 0, .int .i64 0, .int .i64 0, .int .i64 0, .string ⟨#[]⟩, .string ⟨#[]⟩, .string ⟨#[]⟩]
    rw [World.size_alloc, World.size_alloc] at h
    rw [hW0]; exact h
  have hI := dIs_any mc mi A ml.length cap 30 W0
  try unfold encHd at *
  try dsimp only at *
  rw [hq] at hI
  clear hq
  go_enter Tryz.func31, Tryz.ntmps31
  go_wp2_with fail
  rw [← hW0]
  clear hW0
  with_reducible refine hI.mono ?_
  rintro e w1 ⟨rfl, hb1⟩
  have hB := hb0.trans (hb1.mono hb0.size)
  replace hx := hx.kept hb1
  replace hm := hm.kept hb1
  replace hr := hr.kept hb1
  clear hI hb1 hb0
  cases q
  · have HG : Hid (r = dOthers ⟨st, ch, fr, bt, us, wo, ho⟩ ⟨mc, mi, ml⟩) := Lib.hid (by rw [HF.out]; rfl)
    clear HF
    obtain ⟨x0, x1, x2, x3, x4, x5, x6⟩ := hx.seven
    obtain ⟨m0, m1, m2⟩ := hm.three
    have hC := dOthers_any ⟨st, ch, fr, bt, us, wo, ho⟩ ⟨mc, mi, ml⟩ A cap w1 (hw.below hB) hv (hA.below hB)
    unfold DnPost encHd encM at hC
    dsimp only at hC
    generalize dOthers ⟨st, ch, fr, bt, us, wo, ho⟩ ⟨mc, mi, ml⟩ = r9 at hC HG
    obtain ⟨⟨p0, p1, p2, p3, p4, p5, p6⟩, ps, pe⟩ := r9
    dsimp only at hC
    go_wp2_with fail
    with_reducible refine hC.mono ?_
    rintro e w9 ⟨A9, k9, c9, rfl, hS, hb9⟩
    have hB9 := hB.trans (hb9.mono hB.size)
    have hlt := hr.lt
    replace hr := hr.kept hb9
    clear hC x0 x1 x2 x3 x4 x5 x6 m0 m1 m2
    obtain ⟨a0, f0, a1, f1, a2, f2, a3, f3, a4, f4, a5, f5, a6, f6, bR⟩ := hr.store7 (.int .i64 p0) (.int .i64 p1) (.int .i64 p2) (.int .i64 p3) (.string p4) (.string p5) (.string p6)
    have hBz := below_store7 hB9 (B := w.heap.size + 1 + 1) (by omega) (.int .i64 p0) (.int .i64 p1) (.int .i64 p2) (.int .i64 p3) (.string p4) (.string p5) (.string p6)
    have HS := Lib.hid (DSaid.store7 (w := w9) (n' := w.heap.size) hS (by omega) (B := w.heap.size + 1 + 1) (by omega) (.int .i64 p0) (.int .i64 p1) (.int .i64 p2) (.int .i64 p3) (.string p4) (.string p5) (.string p6))
    obtain ⟨y0, y1, y2, y3, y4, y5, y6⟩ := bR.seven
    clear bR hx hm hr hs0 hB9 hw hv hA 
    go_wp2
    first | refine bodyPost_ret (v := .tuple #[.agg #[.int .i64 p0, .int .i64 p1, .int .i64 p2, .int .i64 p3, .string p4, .string p5, .string p6], .slice A9 k9 c9, .int .i64 pe]) ?_ rfl ⟨A9, k9, c9, by rw [HG.out] <;> rfl, by rw [HG.out]; exact HS.out, hBz⟩ | refine bodyPost_ret (v := .tuple #[.agg #[.int .i64 p0, .int .i64 p1, .int .i64 p2, .int .i64 p3, .string p4, .string p5, .string p6], .slice A9 k9 c9, .int .i64 pe]) ?_ rfl ⟨A9, k9, ⟨c9, by rw [HG.out] <;> rfl⟩, by rw [HG.out]; exact HS.out, hBz⟩
    rw [results_ctt rfl]
    simp [asAddr, Result.andThen, go_sem, y0, y1, y2, y3, y4, y5, y6]
  · have HF2 : Hid (r = if dgE ch fr bt (intN (argV ml 0).n) (intN (argV ml 1).n) (intN (argV ml 2).n) = 0 then dSays ⟨st, lessN ch (intN (argV ml 0).n), lessN fr (intN (argV ml 1).n), min bt (intN (argV ml 2).n), us, wo, ho⟩ 3 [⟨10, 31, [numV (lessN ch (intN (argV ml 0).n)), numV (lessN fr (intN (argV ml 1).n)), numV (min bt (intN (argV ml 2).n))]⟩, ⟨10, 40, [wordV ho, wordV ⟨#[]⟩, numV 0]⟩] else dRefuse ⟨st, ch, fr, bt, us, wo, ho⟩ (dgE ch fr bt (intN (argV ml 0).n) (intN (argV ml 1).n) (intN (argV ml 2).n))) := Lib.hid (by rw [HF.out]; rfl)
    have hTh := fun k W (h : Below w1.heap.size w1 W) => dTheirs_any mc mi ml A cap k (w.heap.size + 1) W (hm.kept h) (hA.below (hB.trans (h.mono hB.size)))
    have hT0 := hTh 0
    have hT1 := hTh 1
    have hT2 := hTh 2
    clear HF hTh hw hv hA
    generalize intN (argV ml 0).n = i0 at hT0 HF2
    generalize intN (argV ml 1).n = i1 at hT1 HF2
    generalize intN (argV ml 2).n = i2 at hT2 HF2
    have hAg := fun W => dAgree_any ch fr bt i0 i1 i2 W
    generalize dgE ch fr bt i0 i1 i2 = E at hAg HF2
    generalize lessN ch i0 = a at hAg HF2
    generalize lessN fr i1 = b at hAg HF2
    generalize min bt i2 = c at hAg HF2
    obtain ⟨da, hda⟩ : ∃ x, dgV E a = x := ⟨_, rfl⟩
    obtain ⟨db, hdb⟩ : ∃ x, dgV E b = x := ⟨_, rfl⟩
    obtain ⟨dc, hdc⟩ : ∃ x, dgV E c = x := ⟨_, rfl⟩
    rw [hda, hdb, hdc] at hAg
    have HV : Hid (E = 0 → da = a ∧ db = b ∧ dc = c) := Lib.hid (fun h0 => by rw [← hda, ← hdb, ← hdc, dgV, dgV, dgV, if_pos h0, if_pos h0, if_pos h0]; exact ⟨rfl, rfl, rfl⟩)
    clear hda hdb hdc
    have hlx := hx.lt
    have hlr := hr.lt
    obtain ⟨x0, x1, x2, x3, x4, x5, x6⟩ := hx.seven
    have keep : ∀ w', Below w1.heap.size w1 w' → w'.cell? ⟨w.heap.size, 0, none⟩ = some (.int .i64 st) ∧ w'.cell? ⟨w.heap.size, 1, none⟩ = some (.int .i64 ch) ∧ w'.cell? ⟨w.heap.size, 2, none⟩ = some (.int .i64 fr) ∧ w'.cell? ⟨w.heap.size, 3, none⟩ = some (.int .i64 bt) ∧ w'.cell? ⟨w.heap.size, 4, none⟩ = some (.string us) ∧ w'.cell? ⟨w.heap.size, 5, none⟩ = some (.string wo) ∧ w'.cell? ⟨w.heap.size, 6, none⟩ = some (.string ho) := fun w' h => (hx.kept h).seven
    have hq0 : Below w1.heap.size w1 w1.drew := (Below.refl _ w1).drew
    have hq1 : Below w1.heap.size w1 (w1.alloc (.cells #[.int .i64 0, .int .i64 0, .int .i64 0] 23)).drew := ((Below.refl _ w1).alloc (Nat.le_refl _) _).drew
    have hzq : Bx ((w1.alloc (.cells #[.int .i64 0, .int .i64 0, .int .i64 0] 23)).drew) w1.heap.size 23 [.int .i64 0, .int .i64 0, .int .i64 0] := Bx.new w1 23 [.int .i64 0, .int .i64 0, .int .i64 0]
    clear x0 x1 x2 x3 x4 x5 x6
    go_upto_region 4 with fail
    go_cut [8, 9] (fun p g wx => ∃ b', p = .pointer (some ⟨b', 0, none⟩) ∧ g = .int .i64 E ∧ w1.heap.size ≤ b' ∧ Bx wx b' 23 [.int .i64 da, .int .i64 db, .int .i64 dc] ∧ Below w1.heap.size w1 wx)
    case first =>
      go_region_held3 (fun w' => w'.cell? ⟨w.heap.size, 0, none⟩ = some (.int .i64 st) ∧ w'.cell? ⟨w.heap.size, 1, none⟩ = some (.int .i64 ch) ∧ w'.cell? ⟨w.heap.size, 2, none⟩ = some (.int .i64 fr) ∧ w'.cell? ⟨w.heap.size, 3, none⟩ = some (.int .i64 bt) ∧ w'.cell? ⟨w.heap.size, 4, none⟩ = some (.string us) ∧ w'.cell? ⟨w.heap.size, 5, none⟩ = some (.string wo) ∧ w'.cell? ⟨w.heap.size, 6, none⟩ = some (.string ho)) (first | (with_reducible exact keep _ f5z) | (with_reducible exact keep _ (f5.alloc f5.size _)) | (with_reducible exact keep _ f5) | (with_reducible exact keep _ (f4.alloc f4.size _)) | (with_reducible exact keep _ f4) | (with_reducible exact keep _ (f3.alloc f3.size _)) | (with_reducible exact keep _ f3) | (with_reducible exact keep _ (f2.alloc f2.size _)) | (with_reducible exact keep _ f2) | (with_reducible exact keep _ hq1) | (with_reducible exact keep _ hq0) | (with_reducible exact keep _ ((Below.refl _ w1).alloc (Nat.le_refl _) _))) (first | (go_at_call 14; with_reducible refine (hAg ((w4.alloc (.cells #[.int .i64 0, .int .i64 0, .int .i64 0] 23)))).mono ?_; rintro e w5 ⟨rfl, r5⟩; have f5 : Below w1.heap.size w1 w5 := (f4.alloc f4.size (.cells #[.int .i64 0, .int .i64 0, .int .i64 0] 23)).trans (r5.mono (f4.alloc f4.size (.cells #[.int .i64 0, .int .i64 0, .int .i64 0] 23)).size); have hz := (Bx.new w4 23 [.int .i64 0, .int .i64 0, .int .i64 0]).kept r5; have hzl : w1.heap.size ≤ w4.heap.size := f4.size; (try obtain ⟨c0, d0, c1, d1, c2, d2, bT⟩ := hz.store3 (.int .i64 da) (.int .i64 db) (.int .i64 dc)); (try have f5z := below_store3 f5 hzl (.int .i64 da) (.int .i64 db) (.int .i64 dc))) | (go_at_call 14; with_reducible refine (hAg w4).mono ?_; rintro e w5 ⟨rfl, r5⟩; have f5 : Below w1.heap.size w1 w5 := f4.trans (r5.mono f4.size); (try replace hz := hz.kept r5); (try obtain ⟨c0, d0, c1, d1, c2, d2, bT⟩ := hz.store3 (.int .i64 da) (.int .i64 db) (.int .i64 dc)); (try have f5z := below_store3 f5 hzl (.int .i64 da) (.int .i64 db) (.int .i64 dc))) | (go_at_call 58; with_reducible refine (hT2 (w3.alloc (.cells #[.int .i64 0, .int .i64 0, .int .i64 0] 23)) (f3.alloc f3.size (.cells #[.int .i64 0, .int .i64 0, .int .i64 0] 23))).mono ?_; rintro e w4 ⟨rfl, r4⟩; have f4 : Below w1.heap.size w1 w4 := (f3.alloc f3.size (.cells #[.int .i64 0, .int .i64 0, .int .i64 0] 23)).trans (r4.mono (f3.alloc f3.size (.cells #[.int .i64 0, .int .i64 0, .int .i64 0] 23)).size); have hz := (Bx.new w3 23 [.int .i64 0, .int .i64 0, .int .i64 0]).kept r4; have hzl : w1.heap.size ≤ w3.heap.size := f3.size) | (go_at_call 58; with_reducible refine (hT2 w3 f3).mono ?_; rintro e w4 ⟨rfl, r4⟩; have f4 : Below w1.heap.size w1 w4 := f3.trans (r4.mono f3.size); (try replace hz := hz.kept r4)) | (go_at_call 58; with_reducible refine (hT1 (w2.alloc (.cells #[.int .i64 0, .int .i64 0, .int .i64 0] 23)) (f2.alloc f2.size (.cells #[.int .i64 0, .int .i64 0, .int .i64 0] 23))).mono ?_; rintro e w3 ⟨rfl, r3⟩; have f3 : Below w1.heap.size w1 w3 := (f2.alloc f2.size (.cells #[.int .i64 0, .int .i64 0, .int .i64 0] 23)).trans (r3.mono (f2.alloc f2.size (.cells #[.int .i64 0, .int .i64 0, .int .i64 0] 23)).size); have hz := (Bx.new w2 23 [.int .i64 0, .int .i64 0, .int .i64 0]).kept r3; have hzl : w1.heap.size ≤ w2.heap.size := f2.size) | (go_at_call 58; with_reducible refine (hT1 w2 f2).mono ?_; rintro e w3 ⟨rfl, r3⟩; have f3 : Below w1.heap.size w1 w3 := f2.trans (r3.mono f2.size); (try replace hz := hz.kept r3)) | (go_at_call 58; with_reducible refine (hT0 ((w1.alloc (.cells #[.int .i64 0, .int .i64 0, .int .i64 0] 23)).drew) hq1).mono ?_; rintro e w2 ⟨rfl, r2⟩; have f2 : Below w1.heap.size w1 w2 := hq1.trans (r2.mono hq1.size); have hz := hzq.kept r2; have hzl : w1.heap.size ≤ w1.heap.size := Nat.le_refl _) | (go_at_call 58; with_reducible refine (hT0 w1.drew hq0).mono ?_; rintro e w2 ⟨rfl, r2⟩; have f2 : Below w1.heap.size w1 w2 := hq0.trans (r2.mono hq0.size)))
      all_goals
        go_wp2_with fail
        go_meet
        case rel => first | exact ⟨_, rfl, rfl, hzl, bT, f5z⟩ | exact ⟨_, rfl, rfl, f5.size, Bx.new _ _ _, f5.alloc f5.size _⟩
    case rest =>
      obtain ⟨b', rfl, rfl, hbl, hT, hc⟩ := hcut
      have hB3 := hB.trans (hc.mono hB.size)
      replace hx := hx.kept hc
      replace hr := hr.kept hc
      clear hq0 hq1 hzq hT0 hT1 hT2 hAg keep hm hB
      obtain ⟨wC, hwC⟩ := below_named hc
      subst hwC
      by_cases hE0 : E = 0
      · subst hE0
        obtain ⟨rfl, rfl, rfl⟩ := HV.out rfl
        have HG : Hid (r = dSays ⟨st, da, db, dc, us, wo, ho⟩ 3 [⟨10, 31, [numV (da), numV (db), numV (dc)]⟩, ⟨10, 40, [wordV ho, wordV ⟨#[]⟩, numV 0]⟩]) := Lib.hid (by rw [HF2.out, if_pos rfl])
        clear HF2 HV
        obtain ⟨q0, q1, q2⟩ := hT.three
        obtain ⟨W4, hW4⟩ : ∃ W4, W4 = ((wC.setCell ⟨w.heap.size, 1, none⟩ (.int .i64 da)).setCell ⟨w.heap.size, 2, none⟩ (.int .i64 db)).setCell ⟨w.heap.size, 3, none⟩ (.int .i64 dc) := ⟨_, rfl⟩
        have hx4 : Bx W4 w.heap.size 59 [.int .i64 st, .int .i64 da, .int .i64 db, .int .i64 dc, .string us, .string wo, .string ho] := by rw [hW4]; exact ((hx.set 1 (.int .i64 da)).set 2 (.int .i64 db)).set 3 (.int .i64 dc)
        have hr4 : Bx W4 (w.heap.size + 1 + 1) 28 [.int .i64 0, .int .i64 0, .int .i64 0, .int .i64 0, .string ⟨#[]⟩, .string ⟨#[]⟩, .string ⟨#[]⟩] := by rw [hW4]; exact ((hr.other (by omega) 1 (.int .i64 da)).other (by omega) 2 (.int .i64 db)).other (by omega) 3 (.int .i64 dc)
        have hT4 : Bx W4 b' 23 [.int .i64 da, .int .i64 db, .int .i64 dc] := by rw [hW4]; exact ((hT.other (by omega) 1 (.int .i64 da)).other (by omega) 2 (.int .i64 db)).other (by omega) 3 (.int .i64 dc)
        have hB4 : Below w.heap.size w W4 := by rw [hW4]; exact ((hB3.setCell (p := ⟨w.heap.size, 1, none⟩) (Nat.le_refl _) (.int .i64 da)).setCell (p := ⟨w.heap.size, 2, none⟩) (Nat.le_refl _) (.int .i64 db)).setCell (p := ⟨w.heap.size, 3, none⟩) (Nat.le_refl _) (.int .i64 dc)
        have s1 := hx.cell 1 (by simp)
        have s2 := (hx.set 1 (.int .i64 da)).cell 2 (by simp)
        have s3 := ((hx.set 1 (.int .i64 da)).set 2 (.int .i64 db)).cell 3 (by simp)
        dsimp only [List.getElem_cons_zero, List.getElem_cons_succ, List.set] at s1 s2 s3
        have t1 := hx.frozen 1
        have t2 := (hx.set 1 (.int .i64 da)).frozen 2
        have t3 := ((hx.set 1 (.int .i64 da)).set 2 (.int .i64 db)).frozen 3
        go_upto_region 8 with fail
        rw [← hW4]
        clear hW4 s1 s2 s3 t1 t2 t3 hx hr hB3 hT q0 q1 q2 hc hbl
        have hlr := hr4.lt
        have hN0 := fun W => dNumber_any da W
        have hN1 := fun W => dNumber_any db W
        have hN2 := fun W => dNumber_any dc W
        generalize numV da = u0 at hN0 HG
        generalize numV db = u1 at hN1 HG
        generalize numV dc = u2 at hN2 HG
        obtain ⟨n0, s0⟩ := u0
        obtain ⟨n1, s1⟩ := u1
        obtain ⟨n2, s2⟩ := u2
        unfold encV at hN0 hN1 hN2
        dsimp only at hN0 hN1 hN2
        have hCo := fun V W => dConn_any 31 (some ⟨V, 0, none⟩) 3 3 W
        have keep : ∀ w', Below W4.heap.size W4 w' → w'.cell? ⟨b', 0, none⟩ = some (.int .i64 da) ∧ w'.cell? ⟨b', 1, none⟩ = some (.int .i64 db) ∧ w'.cell? ⟨b', 2, none⟩ = some (.int .i64 dc) := fun w' h => (hT4.kept h).three
        have hq0 : Below W4.heap.size W4 W4.drew := (Below.refl _ W4).drew
        have hq1 : Below W4.heap.size W4 (W4.alloc (.cells #[.int .i64 0, .int .i64 0, .slice none 0 0] 39)).drew := ((Below.refl _ W4).alloc (Nat.le_refl _) _).drew
        have hzq : Bx ((W4.alloc (.cells #[.int .i64 0, .int .i64 0, .slice none 0 0] 39)).drew) W4.heap.size 39 [.int .i64 0, .int .i64 0, .slice none 0 0] := Bx.new W4 39 [.int .i64 0, .int .i64 0, .slice none 0 0]
        go_cut [10] (fun p wx => ∃ B V, p = .pointer (some ⟨B, 0, none⟩) ∧ Bx wx B 39 [.int .i64 10, .int .i64 31, .slice (some ⟨V, 0, none⟩) 3 3] ∧ W4.heap.size ≤ B ∧ W4.heap.size ≤ V ∧ Bx wx V 51 [.int .u64 n0, .string s0, .int .u64 n1, .string s1, .int .u64 n2, .string s2] ∧ Below W4.heap.size W4 wx)
        case first =>
          go_region_held3 (fun w' => w'.cell? ⟨b', 0, none⟩ = some (.int .i64 da) ∧ w'.cell? ⟨b', 1, none⟩ = some (.int .i64 db) ∧ w'.cell? ⟨b', 2, none⟩ = some (.int .i64 dc)) (first | (with_reducible exact keep _ f9z) | (with_reducible exact keep _ (f9.alloc f9.size _)) | (with_reducible exact keep _ f9) | (with_reducible exact keep _ ((f8.alloc f8.size (.cells #[.int .i64 0, .int .i64 0, .slice none 0 0] 39)).alloc (f8.alloc f8.size (.cells #[.int .i64 0, .int .i64 0, .slice none 0 0] 39)).size _)) | (with_reducible exact keep _ ((f8.alloc f8.size (.cells #[.int .u64 n0, .string s0, .int .u64 n1, .string s1, .int .u64 n2, .string s2] 51)).alloc (f8.alloc f8.size (.cells #[.int .u64 n0, .string s0, .int .u64 n1, .string s1, .int .u64 n2, .string s2] 51)).size _)) | (with_reducible exact keep _ (f8.alloc f8.size _)) | (with_reducible exact keep _ f8) | (with_reducible exact keep _ (f7.alloc f7.size _)) | (with_reducible exact keep _ f7) | (with_reducible exact keep _ (f6.alloc f6.size _)) | (with_reducible exact keep _ f6) | (with_reducible exact keep _ hq1) | (with_reducible exact keep _ hq0) | (with_reducible exact keep _ ((Below.refl _ W4).alloc (Nat.le_refl _) _))) (first | (go_at_call 55; with_reducible refine (hCo (w8.heap.size + 1) ((w8.alloc (.cells #[.int .i64 0, .int .i64 0, .slice none 0 0] 39)).alloc (.cells #[.int .u64 n0, .string s0, .int .u64 n1, .string s1, .int .u64 n2, .string s2] 51))).mono ?_; rintro e w9 ⟨rfl, r9⟩; have f9 : Below W4.heap.size W4 w9 := ((f8.alloc f8.size (.cells #[.int .i64 0, .int .i64 0, .slice none 0 0] 39)).alloc (f8.alloc f8.size (.cells #[.int .i64 0, .int .i64 0, .slice none 0 0] 39)).size (.cells #[.int .u64 n0, .string s0, .int .u64 n1, .string s1, .int .u64 n2, .string s2] 51)).trans (r9.mono ((f8.alloc f8.size (.cells #[.int .i64 0, .int .i64 0, .slice none 0 0] 39)).alloc (f8.alloc f8.size (.cells #[.int .i64 0, .int .i64 0, .slice none 0 0] 39)).size (.cells #[.int .u64 n0, .string s0, .int .u64 n1, .string s1, .int .u64 n2, .string s2] 51)).size); have hvb : Bx w9 (w8.heap.size + 1) 51 [.int .u64 n0, .string s0, .int .u64 n1, .string s1, .int .u64 n2, .string s2] := (show Bx ((w8.alloc (.cells #[.int .i64 0, .int .i64 0, .slice none 0 0] 39)).alloc (.cells #[.int .u64 n0, .string s0, .int .u64 n1, .string s1, .int .u64 n2, .string s2] 51)) (w8.heap.size + 1) 51 [.int .u64 n0, .string s0, .int .u64 n1, .string s1, .int .u64 n2, .string s2] by have h := Bx.new (w8.alloc (.cells #[.int .i64 0, .int .i64 0, .slice none 0 0] 39)) 51 [.int .u64 n0, .string s0, .int .u64 n1, .string s1, .int .u64 n2, .string s2]; rw [World.size_alloc] at h; exact h).kept r9; have hz := ((Bx.new w8 39 [.int .i64 0, .int .i64 0, .slice none 0 0]).alloc (.cells #[.int .u64 n0, .string s0, .int .u64 n1, .string s1, .int .u64 n2, .string s2] 51)).kept r9; have hzl : W4.heap.size ≤ w8.heap.size := f8.size; (try obtain ⟨c0, d0, c1, d1, c2, d2, bT⟩ := hz.store3 (.int .i64 10) (.int .i64 31) (.slice (some ⟨w8.heap.size + 1, 0, none⟩) 3 3)); (try have f9z := below_store3 f9 hzl (.int .i64 10) (.int .i64 31) (.slice (some ⟨w8.heap.size + 1, 0, none⟩) 3 3))) | (go_at_call 55; with_reducible refine (hCo (w8.heap.size) ((w8.alloc (.cells #[.int .u64 n0, .string s0, .int .u64 n1, .string s1, .int .u64 n2, .string s2] 51)).alloc (.cells #[.int .i64 0, .int .i64 0, .slice none 0 0] 39))).mono ?_; rintro e w9 ⟨rfl, r9⟩; have f9 : Below W4.heap.size W4 w9 := ((f8.alloc f8.size (.cells #[.int .u64 n0, .string s0, .int .u64 n1, .string s1, .int .u64 n2, .string s2] 51)).alloc (f8.alloc f8.size (.cells #[.int .u64 n0, .string s0, .int .u64 n1, .string s1, .int .u64 n2, .string s2] 51)).size (.cells #[.int .i64 0, .int .i64 0, .slice none 0 0] 39)).trans (r9.mono ((f8.alloc f8.size (.cells #[.int .u64 n0, .string s0, .int .u64 n1, .string s1, .int .u64 n2, .string s2] 51)).alloc (f8.alloc f8.size (.cells #[.int .u64 n0, .string s0, .int .u64 n1, .string s1, .int .u64 n2, .string s2] 51)).size (.cells #[.int .i64 0, .int .i64 0, .slice none 0 0] 39)).size); have hvb : Bx w9 (w8.heap.size) 51 [.int .u64 n0, .string s0, .int .u64 n1, .string s1, .int .u64 n2, .string s2] := ((Bx.new w8 51 [.int .u64 n0, .string s0, .int .u64 n1, .string s1, .int .u64 n2, .string s2]).alloc (.cells #[.int .i64 0, .int .i64 0, .slice none 0 0] 39)).kept r9; have hz := (show Bx ((w8.alloc (.cells #[.int .u64 n0, .string s0, .int .u64 n1, .string s1, .int .u64 n2, .string s2] 51)).alloc (.cells #[.int .i64 0, .int .i64 0, .slice none 0 0] 39)) (w8.heap.size + 1) 39 [.int .i64 0, .int .i64 0, .slice none 0 0] by have h := Bx.new (w8.alloc (.cells #[.int .u64 n0, .string s0, .int .u64 n1, .string s1, .int .u64 n2, .string s2] 51)) 39 [.int .i64 0, .int .i64 0, .slice none 0 0]; rw [World.size_alloc] at h; exact h).kept r9; have hzl : W4.heap.size ≤ w8.heap.size + 1 := (by have := f8.size; omega); (try obtain ⟨c0, d0, c1, d1, c2, d2, bT⟩ := hz.store3 (.int .i64 10) (.int .i64 31) (.slice (some ⟨w8.heap.size, 0, none⟩) 3 3)); (try have f9z := below_store3 f9 hzl (.int .i64 10) (.int .i64 31) (.slice (some ⟨w8.heap.size, 0, none⟩) 3 3))) | (go_at_call 55; with_reducible refine (hCo (w8.heap.size) (w8.alloc (.cells #[.int .u64 n0, .string s0, .int .u64 n1, .string s1, .int .u64 n2, .string s2] 51))).mono ?_; rintro e w9 ⟨rfl, r9⟩; have f9 : Below W4.heap.size W4 w9 := (f8.alloc f8.size (.cells #[.int .u64 n0, .string s0, .int .u64 n1, .string s1, .int .u64 n2, .string s2] 51)).trans (r9.mono (f8.alloc f8.size (.cells #[.int .u64 n0, .string s0, .int .u64 n1, .string s1, .int .u64 n2, .string s2] 51)).size); have hvb : Bx w9 (w8.heap.size) 51 [.int .u64 n0, .string s0, .int .u64 n1, .string s1, .int .u64 n2, .string s2] := (Bx.new w8 51 [.int .u64 n0, .string s0, .int .u64 n1, .string s1, .int .u64 n2, .string s2]).kept r9; (try have hzn := hz.lt); (try replace hz := (hz.alloc (.cells #[.int .u64 n0, .string s0, .int .u64 n1, .string s1, .int .u64 n2, .string s2] 51)).kept r9); (try obtain ⟨c0, d0, c1, d1, c2, d2, bT⟩ := hz.store3 (.int .i64 10) (.int .i64 31) (.slice (some ⟨w8.heap.size, 0, none⟩) 3 3)); (try have f9z := below_store3 f9 hzl (.int .i64 10) (.int .i64 31) (.slice (some ⟨w8.heap.size, 0, none⟩) 3 3))) | (go_at_call 59; with_reducible refine (hN2 (w7.alloc (.cells #[.int .i64 0, .int .i64 0, .slice none 0 0] 39))).mono ?_; rintro e w8 ⟨rfl, r8⟩; have f8 : Below W4.heap.size W4 w8 := (f7.alloc f7.size (.cells #[.int .i64 0, .int .i64 0, .slice none 0 0] 39)).trans (r8.mono (f7.alloc f7.size (.cells #[.int .i64 0, .int .i64 0, .slice none 0 0] 39)).size); have hz := (Bx.new w7 39 [.int .i64 0, .int .i64 0, .slice none 0 0]).kept r8; have hzl : W4.heap.size ≤ w7.heap.size := f7.size) | (go_at_call 59; with_reducible refine (hN2 w7).mono ?_; rintro e w8 ⟨rfl, r8⟩; have f8 : Below W4.heap.size W4 w8 := f7.trans (r8.mono f7.size); (try replace hz := hz.kept r8)) | (go_at_call 59; with_reducible refine (hN1 (w6.alloc (.cells #[.int .i64 0, .int .i64 0, .slice none 0 0] 39))).mono ?_; rintro e w7 ⟨rfl, r7⟩; have f7 : Below W4.heap.size W4 w7 := (f6.alloc f6.size (.cells #[.int .i64 0, .int .i64 0, .slice none 0 0] 39)).trans (r7.mono (f6.alloc f6.size (.cells #[.int .i64 0, .int .i64 0, .slice none 0 0] 39)).size); have hz := (Bx.new w6 39 [.int .i64 0, .int .i64 0, .slice none 0 0]).kept r7; have hzl : W4.heap.size ≤ w6.heap.size := f6.size) | (go_at_call 59; with_reducible refine (hN1 w6).mono ?_; rintro e w7 ⟨rfl, r7⟩; have f7 : Below W4.heap.size W4 w7 := f6.trans (r7.mono f6.size); (try replace hz := hz.kept r7)) | (go_at_call 59; with_reducible refine (hN0 ((W4.alloc (.cells #[.int .i64 0, .int .i64 0, .slice none 0 0] 39)).drew)).mono ?_; rintro e w6 ⟨rfl, r6⟩; have f6 : Below W4.heap.size W4 w6 := hq1.trans (r6.mono hq1.size); have hz := hzq.kept r6; have hzl : W4.heap.size ≤ W4.heap.size := Nat.le_refl _) | (go_at_call 59; with_reducible refine (hN0 W4.drew).mono ?_; rintro e w6 ⟨rfl, r6⟩; have f6 : Below W4.heap.size W4 w6 := hq0.trans (r6.mono hq0.size)))
          all_goals
            go_wp2_with fail
            have f8l := f8.size
            have f9l := f9.size
            go_meet
            case rel => first | exact ⟨_, _, rfl, bT, hzl, by omega, hvb.other3 (by omega) _ _ _, f9z⟩ | exact ⟨_, _, rfl, Bx.new _ _ _, f9l, by omega, hvb.alloc _, f9.alloc f9.size _⟩
        case rest =>
          obtain ⟨B, V, rfl, hM, hBl, hVl, hvb, hc⟩ := hcut
          have hB8 := hB4.trans (hc.mono hB4.size)
          have hx := hx4.kept hc
          have hr := hr4.kept hc
          obtain ⟨W8, hW8⟩ := below_named hc
          subst hW8
          clear hq0 hq1 hzq hN0 hN1 hN2 hCo keep hB4 hx4 hr4 hT4 hc
          go_upto_region 9 with fail
          have hlx8 := hx.lt
          have hlr8 := hr.lt
          have hN3 := fun W => dText_any ho W
          have hN4 := fun W => dText_any ⟨#[]⟩ W
          have hN5 := fun W => dNumber_any 0 W
          generalize wordV ho = v0 at hN3 HG
          generalize wordV ⟨#[]⟩ = v1 at hN4 HG
          generalize numV 0 = v2 at hN5 HG
          obtain ⟨k0, l0⟩ := v0
          obtain ⟨k1, l1⟩ := v1
          obtain ⟨k2, l2⟩ := v2
          unfold encV at hN3 hN4 hN5
          dsimp only at hN3 hN4 hN5
          have keep : ∀ w', Below W8.heap.size W8 w' → w'.cell? ⟨w.heap.size, 0, none⟩ = some (.int .i64 st) ∧ w'.cell? ⟨w.heap.size, 1, none⟩ = some (.int .i64 da) ∧ w'.cell? ⟨w.heap.size, 2, none⟩ = some (.int .i64 db) ∧ w'.cell? ⟨w.heap.size, 3, none⟩ = some (.int .i64 dc) ∧ w'.cell? ⟨w.heap.size, 4, none⟩ = some (.string us) ∧ w'.cell? ⟨w.heap.size, 5, none⟩ = some (.string wo) ∧ w'.cell? ⟨w.heap.size, 6, none⟩ = some (.string ho) ∧ w'.cell? ⟨B, 0, none⟩ = some (.int .i64 10) ∧ w'.cell? ⟨B, 1, none⟩ = some (.int .i64 31) ∧ w'.cell? ⟨B, 2, none⟩ = some (.slice (some ⟨V, 0, none⟩) 3 3) := fun w' h => seven_three (hx.kept h).seven (hM.kept h).three
          have hCo2 := fun (W : World) => dConn_any 40 (some ⟨W.heap.size, 0, none⟩) 3 3 (W.alloc (.cells #[.int .u64 k0, .string l0, .int .u64 k1, .string l1, .int .u64 k2, .string l2] 51))
          have hSa := fun (W : World) (k : Nat) => dSay_any ⟨st, da, db, dc, us, wo, ho⟩ 3 (some ⟨W.heap.size, 0, none⟩) 2 2 (W.alloc (.cells #[.int .i64 10, .int .i64 31, .slice (some ⟨V, 0, none⟩) 3 3, .int .i64 10, .int .i64 40, .slice (some ⟨k, 0, none⟩) 3 3] 39))
          unfold encHd at hSa
          dsimp only at hSa
          go_region_held3 (fun w' => w'.cell? ⟨w.heap.size, 0, none⟩ = some (.int .i64 st) ∧ w'.cell? ⟨w.heap.size, 1, none⟩ = some (.int .i64 da) ∧ w'.cell? ⟨w.heap.size, 2, none⟩ = some (.int .i64 db) ∧ w'.cell? ⟨w.heap.size, 3, none⟩ = some (.int .i64 dc) ∧ w'.cell? ⟨w.heap.size, 4, none⟩ = some (.string us) ∧ w'.cell? ⟨w.heap.size, 5, none⟩ = some (.string wo) ∧ w'.cell? ⟨w.heap.size, 6, none⟩ = some (.string ho) ∧ w'.cell? ⟨B, 0, none⟩ = some (.int .i64 10) ∧ w'.cell? ⟨B, 1, none⟩ = some (.int .i64 31) ∧ w'.cell? ⟨B, 2, none⟩ = some (.slice (some ⟨V, 0, none⟩) 3 3)) (first | (with_reducible exact hfin) | (with_reducible exact keep _ g7) | (with_reducible exact keep _ (g5.alloc g5.size _)) | (with_reducible exact keep _ g5) | (with_reducible exact keep _ (g3.alloc g3.size _)) | (with_reducible exact keep _ g3) | (with_reducible exact keep _ g2) | (with_reducible exact keep _ g1) | (with_reducible exact keep _ (Below.refl _ W8).drew)) (first | (go_at_call 54; with_reducible refine (hSa v5 v3.heap.size).mono ?_; rintro e v7 ⟨rfl, q7⟩; have g7 : Below W8.heap.size W8 v7 := (g5.alloc g5.size _).trans (q7.mono (g5.alloc g5.size _).size); have hrz := hr.kept g7; obtain ⟨a0, f0, a1, f1, a2, f2, a3, f3, a4, f4, a5, f5, a6, f6, bR⟩ := hrz.store7 (.int .i64 3) (.int .i64 da) (.int .i64 db) (.int .i64 dc) (.string us) (.string wo) (.string ho); have hx5 := (hx.kept g7).other7 (B := w.heap.size + 1 + 1) (by omega) (.int .i64 3) (.int .i64 da) (.int .i64 db) (.int .i64 dc) (.string us) (.string wo) (.string ho); have hm5 := (hM.kept g7).other7 (B := w.heap.size + 1 + 1) (by omega) (.int .i64 3) (.int .i64 da) (.int .i64 db) (.int .i64 dc) (.string us) (.string wo) (.string ho); have hfin := seven_three hx5.seven hm5.three) | (go_at_call 55; with_reducible refine (hCo2 v3).mono ?_; rintro e v5 ⟨rfl, q5⟩; have g5 : Below W8.heap.size W8 v5 := (g3.alloc g3.size _).trans (q5.mono (g3.alloc g3.size _).size)) | (go_at_call 59; with_reducible refine (hN5 v2).mono ?_; rintro e v3 ⟨rfl, q3⟩; have g3 : Below W8.heap.size W8 v3 := g2.trans (q3.mono g2.size)) | (go_at_call 56; with_reducible refine (hN4 v1).mono ?_; rintro e v2 ⟨rfl, q2⟩; have g2 : Below W8.heap.size W8 v2 := g1.trans (q2.mono g1.size)) | (go_at_call 56; with_reducible refine (hN3 W8.drew).mono ?_; rintro e v1 ⟨rfl, q1⟩; have g1 : Below W8.heap.size W8 v1 := (Below.refl _ W8).drew.trans (q1.mono (Below.refl W8.heap.size W8).drew.size)))
          have hl3 := g3.size
          have hl5 := g5.size
          have bV2 : Bx v7 v3.heap.size 51 [.int .u64 k0, .string l0, .int .u64 k1, .string l1, .int .u64 k2, .string l2] := ((Bx.new v3 51 [.int .u64 k0, .string l0, .int .u64 k1, .string l1, .int .u64 k2, .string l2]).kept q5).kept ((Below.refl v5.heap.size v5).alloc (Nat.le_refl _) _) |>.kept q7
          have bM2 : Bx v7 v5.heap.size 39 [.int .i64 10, .int .i64 31, .slice (some ⟨V, 0, none⟩) 3 3, .int .i64 10, .int .i64 40, .slice (some ⟨v3.heap.size, 0, none⟩) 3 3] := (Bx.new v5 39 [.int .i64 10, .int .i64 31, .slice (some ⟨V, 0, none⟩) 3 3, .int .i64 10, .int .i64 40, .slice (some ⟨v3.heap.size, 0, none⟩) 3 3]).kept q7
          have bV1 := hvb.kept g7
          have hS : DSaid (w.heap.size + 1 + 1 + 1) v7 (some ⟨v5.heap.size, 0, none⟩) 2 [⟨10, 31, [⟨n0, s0⟩, ⟨n1, s1⟩, ⟨n2, s2⟩]⟩, ⟨10, 40, [⟨k0, l0⟩, ⟨k1, l1⟩, ⟨k2, l2⟩]⟩] := ⟨rfl, v5.heap.size, _, 3, _, 3, rfl, by omega, bM2, .inr ⟨V, rfl, by omega, bV1⟩, .inr ⟨v3.heap.size, rfl, by omega, bV2⟩⟩
          have hB9 := hB8.trans (g7.mono hB8.size)
          have hBz := below_store7 hB9 (B := w.heap.size + 1 + 1) (by omega) (.int .i64 3) (.int .i64 da) (.int .i64 db) (.int .i64 dc) (.string us) (.string wo) (.string ho)
          have HS := Lib.hid (DSaid.store7 (w := v7) (n' := w.heap.size) hS (by omega) (B := w.heap.size + 1 + 1) (by omega) (.int .i64 3) (.int .i64 da) (.int .i64 db) (.int .i64 dc) (.string us) (.string wo) (.string ho))
          obtain ⟨y0, y1, y2, y3, y4, y5, y6⟩ := bR.seven
          clear hS bV2 bM2 bV1 hl3 hl5 keep
          go_wp2
          refine bodyPost_ret (v := .tuple #[.agg #[.int .i64 3, .int .i64 da, .int .i64 db, .int .i64 dc, .string us, .string wo, .string ho], .slice (some ⟨v5.heap.size, 0, none⟩) 2 2, .int .i64 0]) ?_ rfl ⟨some ⟨v5.heap.size, 0, none⟩, 2, 2, by rw [HG.out] <;> rfl, by rw [HG.out]; exact HS.out, hBz⟩
          rw [results_ctt rfl]
          simp [asAddr, Result.andThen, go_sem, y0, y1, y2, y3, y4, y5, y6]
      · have HG : Hid (r = dRefuse ⟨st, ch, fr, bt, us, wo, ho⟩ E) := Lib.hid (by rw [HF2.out, if_neg hE0])
        have e1 : (E != 0) = true := bne_iff_ne.2 hE0
        clear HF2 HV
        obtain ⟨x0, x1, x2, x3, x4, x5, x6⟩ := hx.seven
        have hC := dRefuse_any ⟨st, ch, fr, bt, us, wo, ho⟩ E wC
        unfold encHd at hC
        dsimp only at hC
        go_wp2_with fail
        with_reducible refine hC.mono ?_
        rintro e w9 ⟨rfl, hb9⟩
        have hB9 := hB3.trans (hb9.mono hB3.size)
        replace hr := hr.kept hb9
        clear hC x0 x1 x2 x3 x4 x5 x6 
        obtain ⟨a0, f0, a1, f1, a2, f2, a3, f3, a4, f4, a5, f5, a6, f6, bR⟩ := hr.store7 (.int .i64 st) (.int .i64 ch) (.int .i64 fr) (.int .i64 bt) (.string us) (.string wo) (.string ho)
        have hBz := below_store7 hB9 (B := w.heap.size + 1 + 1) (by omega) (.int .i64 st) (.int .i64 ch) (.int .i64 fr) (.int .i64 bt) (.string us) (.string wo) (.string ho)
        have HS := Lib.hid (DSaid.store7 (w := w9) (n' := w.heap.size) (n := w.heap.size + 1 + 1 + 1) (l := []) (A := none) (k := 0) ⟨rfl, rfl⟩ (by omega) (B := w.heap.size + 1 + 1) (by omega) (.int .i64 st) (.int .i64 ch) (.int .i64 fr) (.int .i64 bt) (.string us) (.string wo) (.string ho))
        obtain ⟨y0, y1, y2, y3, y4, y5, y6⟩ := bR.seven
        clear bR hx hr hs0 hB9 hT 
        go_wp2
        first | refine bodyPost_ret (v := .tuple #[.agg #[.int .i64 st, .int .i64 ch, .int .i64 fr, .int .i64 bt, .string us, .string wo, .string ho], .slice none 0 0, .int .i64 E]) ?_ rfl ⟨none, 0, 0, by rw [HG.out] <;> rfl, by rw [HG.out]; exact HS.out, hBz⟩ | refine bodyPost_ret (v := .tuple #[.agg #[.int .i64 st, .int .i64 ch, .int .i64 fr, .int .i64 bt, .string us, .string wo, .string ho], .slice none 0 0, .int .i64 E]) ?_ rfl ⟨none, 0, ⟨0, by rw [HG.out] <;> rfl⟩, by rw [HG.out]; exact HS.out, hBz⟩
        rw [results_ctt rfl]
        simp [asAddr, Result.andThen, go_sem, y0, y1, y2, y3, y4, y5, y6]
end Go.Proofs.YtkdiccedkjbpeaaGreatDoorR
