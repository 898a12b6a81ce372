/-
  The document's own Begin answers how a broker's connection begins; nothing that was there is changed. Condition: user and word have fewer than 2^61 bytes.
-/
import Derived.Test.YtbdhppigmlfjhaaWBeginD
namespace Go.Proofs.Ytbdhppigmlfjhaa
open Go.RowKit

set_option maxRecDepth 100000 in
set_option maxHeartbeats 4000000 in
theorem rBegin_any (c f b : Int) (us wo ho : ByteArray) (w : World) (hs : us.size + wo.size < 4611686018427387904) : Calls Try.prog 10 #[.agg #[.int .i64 c, .int .i64 f, .int .i64 b], .string us, .string wo, .string ho] w fun e w' => e = .returned (bgT (bgE (tRight c f b) us wo ho) c f b us wo ho) ∧ Below w.heap.size w w' := by
  obtain ⟨W0, hW0⟩ : ∃ W0, W0 = (w.alloc (.cells #[.int .i64 c, .int .i64 f, .int .i64 b] 23)).alloc (.cells #[.int .i64 0, .int .i64 0, .int .i64 0, .int .i64 0, .string ⟨#[]⟩, .string ⟨#[]⟩, .string ⟨#[]⟩] 33) := ⟨_, rfl⟩
  have hb0 : Below w.heap.size w W0 := by rw [hW0]; exact ((Below.refl _ w).alloc (Nat.le_refl _) _).alloc (by simp) _
  have hm : Bx W0 w.heap.size 23 [.int .i64 c, .int .i64 f, .int .i64 b] := by rw [hW0]; exact (Bx.new w _ _).alloc _
  have hr : Bx W0 (w.heap.size + 1) 33 [.int .i64 0, .int .i64 0, .int .i64 0, .int .i64 0, .string ⟨#[]⟩, .string ⟨#[]⟩, .string ⟨#[]⟩] := by
    have h := Bx.new (w.alloc (.cells #[.int .i64 c, .int .i64 f, .int .i64 b] 23)) 33 [.int .i64 0, .int .i64 0, .int .i64 0, .int .i64 0, .string ⟨#[]⟩, .string ⟨#[]⟩, .string ⟨#[]⟩]
    rw [World.size_alloc] at h
    rw [hW0]; exact h
  have hR := rRight_any c f b W0
  have HE : Hid (bgE (tRight c f b) us wo ho = if tRight c f b = true ∧ ho.size ≤ 255 ∧ zeroX us = false ∧ zeroX wo = false then 0 else 1) := Lib.hid rfl
  have hU := fun W => rzero_any us W (by omega)
  have hO := fun W => rzero_any wo W (by omega)
  generalize bgE (tRight c f b) us wo ho = E at *
  generalize tRight c f b = q at *
  generalize zeroX us = z1 at *
  generalize zeroX wo = z2 at *
  clear hs
  go_enter Try.func10, Try.ntmps10
  go_upto_region 1 with fail
  rw [← hW0]
  clear hW0
  obtain ⟨x0, x1, x2⟩ := hm.three
  go_wp2_with fail
  with_reducible refine hR.mono ?_
  rintro e w1 ⟨rfl, hb1⟩
  have hB1 := hb0.trans (hb1.mono hb0.size)
  replace hm := hm.kept hb1
  replace hr := hr.kept hb1
  clear hR hb0 hb1 x0 x1 x2
  obtain ⟨x0, x1, x2⟩ := hm.three
  go_wp2_with fail
  with_reducible refine (hU _).mono ?_
  rintro e w2 ⟨rfl, rfl⟩
  clear hU
  cases z1
  · go_wp2_with fail
    with_reducible refine (hO _).mono ?_
    rintro e w2 ⟨rfl, rfl⟩
    clear hO
    cases z2
    · cases q
      · have HG : Hid (E = 1) := Lib.hid (by rw [HE.out, if_neg (by simp)])
        clear hm x0 x1 x2
        obtain ⟨a0, f0, a1, f1, a2, f2, a3, f3, a4, f4, a5, f5, a6, f6, bR⟩ := hr.store7 (.int .i64 0) (.int .i64 0) (.int .i64 0) (.int .i64 0) (.string ⟨#[]⟩) (.string ⟨#[]⟩) (.string ⟨#[]⟩)
        have hBz := below_store7 hB1 (B := w.heap.size + 1) (by omega) (.int .i64 0) (.int .i64 0) (.int .i64 0) (.int .i64 0) (.string ⟨#[]⟩) (.string ⟨#[]⟩) (.string ⟨#[]⟩)
        obtain ⟨y0, y1, y2, y3, y4, y5, y6⟩ := bR.seven
        clear hr hB1 bR HE
        go_wp2
        refine bodyPost_ret (v := .tuple #[.agg #[.int .i64 0, .int .i64 0, .int .i64 0, .int .i64 0, .string ⟨#[]⟩, .string ⟨#[]⟩, .string ⟨#[]⟩], .int .i64 1]) ?_ rfl ⟨by rw [HG.out, bgT_no]; rfl, hBz⟩
        rw [results_ctw rfl]
        simp [asAddr, Result.andThen, go_sem, y0, y1, y2, y3, y4, y5, y6]
      · rcases Bool.eq_false_or_eq_true (decide (255 < (ho.size : Int))) with hh | hh
        · have HG : Hid (E = 1) := Lib.hid (by have h2 := of_decide_eq_true hh; rw [HE.out, if_neg (fun h => by omega)])
          clear hm x0 x1 x2
          obtain ⟨a0, f0, a1, f1, a2, f2, a3, f3, a4, f4, a5, f5, a6, f6, bR⟩ := hr.store7 (.int .i64 0) (.int .i64 0) (.int .i64 0) (.int .i64 0) (.string ⟨#[]⟩) (.string ⟨#[]⟩) (.string ⟨#[]⟩)
          have hBz := below_store7 hB1 (B := w.heap.size + 1) (by omega) (.int .i64 0) (.int .i64 0) (.int .i64 0) (.int .i64 0) (.string ⟨#[]⟩) (.string ⟨#[]⟩) (.string ⟨#[]⟩)
          obtain ⟨y0, y1, y2, y3, y4, y5, y6⟩ := bR.seven
          clear hr hB1 bR HE
          go_wp2
          refine bodyPost_ret (v := .tuple #[.agg #[.int .i64 0, .int .i64 0, .int .i64 0, .int .i64 0, .string ⟨#[]⟩, .string ⟨#[]⟩, .string ⟨#[]⟩], .int .i64 1]) ?_ rfl ⟨by rw [HG.out, bgT_no]; rfl, hBz⟩
          rw [results_ctw rfl]
          simp [asAddr, Result.andThen, go_sem, y0, y1, y2, y3, y4, y5, y6]
        · have HG : Hid (E = 0) := Lib.hid (by have h2 := of_decide_eq_false hh; rw [HE.out, if_pos]; exact ⟨by simp, by omega, by simp, by simp⟩)
          obtain ⟨a0, f0, a1, f1, a2, f2, a3, f3, a4, f4, a5, f5, a6, f6, bR⟩ := hr.store7 (.int .i64 1) (.int .i64 c) (.int .i64 f) (.int .i64 b) (.string us) (.string wo) (.string ho)
          have hBz := below_store7 hB1 (B := w.heap.size + 1) (by omega) (.int .i64 1) (.int .i64 c) (.int .i64 f) (.int .i64 b) (.string us) (.string wo) (.string ho)
          obtain ⟨y0, y1, y2, y3, y4, y5, y6⟩ := bR.seven
          clear hm hr hB1 bR HE
          go_wp2
          refine bodyPost_ret (v := .tuple #[.agg #[.int .i64 1, .int .i64 c, .int .i64 f, .int .i64 b, .string us, .string wo, .string ho], .int .i64 0]) ?_ rfl ⟨by rw [HG.out, bgT_yes], hBz⟩
          rw [results_ctw rfl]
          simp [asAddr, Result.andThen, go_sem, y0, y1, y2, y3, y4, y5, y6]
    · have HG : Hid (E = 1) := Lib.hid (by rw [HE.out, if_neg (by simp)])
      clear hm x0 x1 x2
      cases q
      · obtain ⟨a0, f0, a1, f1, a2, f2, a3, f3, a4, f4, a5, f5, a6, f6, bR⟩ := hr.store7 (.int .i64 0) (.int .i64 0) (.int .i64 0) (.int .i64 0) (.string ⟨#[]⟩) (.string ⟨#[]⟩) (.string ⟨#[]⟩)
        have hBz := below_store7 hB1 (B := w.heap.size + 1) (by omega) (.int .i64 0) (.int .i64 0) (.int .i64 0) (.int .i64 0) (.string ⟨#[]⟩) (.string ⟨#[]⟩) (.string ⟨#[]⟩)
        obtain ⟨y0, y1, y2, y3, y4, y5, y6⟩ := bR.seven
        clear hr hB1 bR HE
        go_wp2
        refine bodyPost_ret (v := .tuple #[.agg #[.int .i64 0, .int .i64 0, .int .i64 0, .int .i64 0, .string ⟨#[]⟩, .string ⟨#[]⟩, .string ⟨#[]⟩], .int .i64 1]) ?_ rfl ⟨by rw [HG.out, bgT_no]; rfl, hBz⟩
        rw [results_ctw rfl]
        simp [asAddr, Result.andThen, go_sem, y0, y1, y2, y3, y4, y5, y6]
      · obtain ⟨a0, f0, a1, f1, a2, f2, a3, f3, a4, f4, a5, f5, a6, f6, bR⟩ := hr.store7 (.int .i64 0) (.int .i64 0) (.int .i64 0) (.int .i64 0) (.string ⟨#[]⟩) (.string ⟨#[]⟩) (.string ⟨#[]⟩)
        have hBz := below_store7 hB1 (B := w.heap.size + 1) (by omega) (.int .i64 0) (.int .i64 0) (.int .i64 0) (.int .i64 0) (.string ⟨#[]⟩) (.string ⟨#[]⟩) (.string ⟨#[]⟩)
        obtain ⟨y0, y1, y2, y3, y4, y5, y6⟩ := bR.seven
        clear hr hB1 bR HE
        go_wp2
        refine bodyPost_ret (v := .tuple #[.agg #[.int .i64 0, .int .i64 0, .int .i64 0, .int .i64 0, .string ⟨#[]⟩, .string ⟨#[]⟩, .string ⟨#[]⟩], .int .i64 1]) ?_ rfl ⟨by rw [HG.out, bgT_no]; rfl, hBz⟩
        rw [results_ctw rfl]
        simp [asAddr, Result.andThen, go_sem, y0, y1, y2, y3, y4, y5, y6]
  · have HG : Hid (E = 1) := Lib.hid (by rw [HE.out, if_neg (by simp)])
    clear hm hO x0 x1 x2
    cases q
    · obtain ⟨a0, f0, a1, f1, a2, f2, a3, f3, a4, f4, a5, f5, a6, f6, bR⟩ := hr.store7 (.int .i64 0) (.int .i64 0) (.int .i64 0) (.int .i64 0) (.string ⟨#[]⟩) (.string ⟨#[]⟩) (.string ⟨#[]⟩)
      have hBz := below_store7 hB1 (B := w.heap.size + 1) (by omega) (.int .i64 0) (.int .i64 0) (.int .i64 0) (.int .i64 0) (.string ⟨#[]⟩) (.string ⟨#[]⟩) (.string ⟨#[]⟩)
      obtain ⟨y0, y1, y2, y3, y4, y5, y6⟩ := bR.seven
      clear hr hB1 bR HE
      go_wp2
      refine bodyPost_ret (v := .tuple #[.agg #[.int .i64 0, .int .i64 0, .int .i64 0, .int .i64 0, .string ⟨#[]⟩, .string ⟨#[]⟩, .string ⟨#[]⟩], .int .i64 1]) ?_ rfl ⟨by rw [HG.out, bgT_no]; rfl, hBz⟩
      rw [results_ctw rfl]
      simp [asAddr, Result.andThen, go_sem, y0, y1, y2, y3, y4, y5, y6]
    · obtain ⟨a0, f0, a1, f1, a2, f2, a3, f3, a4, f4, a5, f5, a6, f6, bR⟩ := hr.store7 (.int .i64 0) (.int .i64 0) (.int .i64 0) (.int .i64 0) (.string ⟨#[]⟩) (.string ⟨#[]⟩) (.string ⟨#[]⟩)
      have hBz := below_store7 hB1 (B := w.heap.size + 1) (by omega) (.int .i64 0) (.int .i64 0) (.int .i64 0) (.int .i64 0) (.string ⟨#[]⟩) (.string ⟨#[]⟩) (.string ⟨#[]⟩)
      obtain ⟨y0, y1, y2, y3, y4, y5, y6⟩ := bR.seven
      clear hr hB1 bR HE
      go_wp2
      refine bodyPost_ret (v := .tuple #[.agg #[.int .i64 0, .int .i64 0, .int .i64 0, .int .i64 0, .string ⟨#[]⟩, .string ⟨#[]⟩, .string ⟨#[]⟩], .int .i64 1]) ?_ rfl ⟨by rw [HG.out, bgT_no]; rfl, hBz⟩
      rw [results_ctw rfl]
      simp [asAddr, Result.andThen, go_sem, y0, y1, y2, y3, y4, y5, y6]
end Go.Proofs.Ytbdhppigmlfjhaa
