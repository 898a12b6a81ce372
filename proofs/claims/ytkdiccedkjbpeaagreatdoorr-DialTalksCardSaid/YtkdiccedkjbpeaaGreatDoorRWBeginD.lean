/-
  dial.Begin answers how a broker's connection begins; nothing that was there is changed. Condition: user and word have fewer than 2^61 bytes.
-/
import Derived.Test.YtkdiccedkjbpeaaGreatDoorRKK
import Derived.Test.YtkdiccedkjbpeaaGreatDoorRKB
namespace Go.Proofs.YtkdiccedkjbpeaaGreatDoorR
open Go.RowKit

/-- has a text a byte 0? -/
def zeroX (s : ByteArray) : Bool := s.data.toList.any (fun c => c == 0)
theorem index_any (l : List UInt8) : decide (0 ≤ Lib.indexByte l 0) = l.any (fun c => c == 0) := by
  induction l with
  | nil => rfl
  | cons b l ih =>
    have hg := Lib.indexByte_ge l 0
    rw [Lib.indexByte, List.any_cons, ← ih]
    by_cases hb : b = 0
    · subst hb
      rw [if_pos (by simp)]
      simp
    · rw [if_neg (by simpa using hb)]
      have hb2 : (b == 0) = false := by simpa using hb
      rw [hb2, Bool.false_or]
      split
      · rename_i h
        have h : Lib.indexByte l 0 = -1 := by simpa using h
        rw [h]
      · rename_i h
        have h : ¬ Lib.indexByte l 0 = -1 := by simpa using h
        rw [decide_eq_true (show 0 ≤ Lib.indexByte l 0 + 1 by omega), decide_eq_true (show 0 ≤ Lib.indexByte l 0 by omega)]
theorem zero_app (a b : ByteArray) : zeroX (a ++ b) = (zeroX a || zeroX b) := by
  rw [zeroX, zeroX, zeroX, ByteArray.data_append, Array.toList_append, List.any_append]
/-- may it not begin so? -/
def bgE (q : Bool) (us wo ho : ByteArray) : Int := if q = true ∧ ho.size ≤ 255 ∧ zeroX us = false ∧ zeroX wo = false then 0 else 1
set_option maxRecDepth 100000 in
theorem index1_any (s : ByteArray) (w : World) : Calls Tryz.prog 28 #[.string s, .string ⟨#[0]⟩] w fun e w' => e = .returned (.int .i64 (Lib.indexByte s.data.toList 0)) ∧ w = w' := by
  go_enter Tryz.func28, Tryz.ntmps28
  go_wp2_with fail
  refine (sliteIndex_any s 0 w).mono ?_
  rintro e w1 ⟨rfl, rfl⟩
  go_wp2
  go_ret
  exact ⟨rfl, rfl⟩
set_option maxRecDepth 100000 in
theorem contains0_any (s : ByteArray) (w : World) : Calls Tryz.prog 17 #[.string s, .string ⟨#[0]⟩] w fun e w' => e = .returned (.bool (zeroX s)) ∧ w = w' := by
  have H := Lib.hid (index_any s.data.toList)
  have hI := index1_any s w
  generalize Lib.indexByte s.data.toList 0 = i at H hI
  go_enter Tryz.func17, Tryz.ntmps17
  go_wp2_with fail
  refine hI.mono ?_
  rintro e w1 ⟨rfl, rfl⟩
  go_wp2
  go_ret
  exact ⟨by rw [zeroX, ← H.out]; rfl, rfl⟩
def dgS (e : Int) (s : ByteArray) : ByteArray := if e = 0 then s else ⟨#[]⟩
/-- what a beginning answers -/
def bgT (e c f b : Int) (us wo ho : ByteArray) : Value := .tuple #[.agg #[.int .i64 (dgV e 1), .int .i64 (dgV e c), .int .i64 (dgV e f), .int .i64 (dgV e b), .string (dgS e us), .string (dgS e wo), .string (dgS e ho)], .int .i64 e]
def zTup : Value := .tuple #[.agg #[.int .i64 0, .int .i64 0, .int .i64 0, .int .i64 0, .string ⟨#[]⟩, .string ⟨#[]⟩, .string ⟨#[]⟩], .int .i64 1]
theorem bgT_no (c f b : Int) (us wo ho : ByteArray) : bgT 1 c f b us wo ho = zTup := rfl
theorem bgT_yes (c f b : Int) (us wo ho : ByteArray) : bgT 0 c f b us wo ho = .tuple #[.agg #[.int .i64 1, .int .i64 c, .int .i64 f, .int .i64 b, .string us, .string wo, .string ho], .int .i64 0] := rfl
set_option maxRecDepth 100000 in
set_option maxHeartbeats 4000000 in
theorem dBegin_any (c f b : Int) (us wo ho : ByteArray) (w : World) (hs : us.size + wo.size < 4611686018427387904) : Calls Tryz.prog 8 #[.agg #[.int .i64 c, .int .i64 f, .int .i64 b], .string us, .string wo, .string ho] w fun e w' => e = .returned (bgT (bgE (tRight c f b) us wo ho) c f b us wo ho) ∧ Below w.heap.size w w' := by
  obtain ⟨W0, hW0⟩ : ∃ W0, W0 = (w.alloc (.cells #[.int .i64 c, .int .i64 f, .int .i64 b] 23)).alloc (.cells #[.int .i64 0, .int .i64 0, .int .i64 0, .int .i64 0, .string ⟨#[]⟩, .string ⟨#[]⟩, .string ⟨#[]⟩] 28) := ⟨_, rfl⟩
  have hb0 : Below w.heap.size w W0 := by rw [hW0]; exact ((Below.refl _ w).alloc (Nat.le_refl _) _).alloc (by simp) _
  have hm : Bx W0 w.heap.size 23 [.int .i64 c, .int .i64 f, .int .i64 b] := by rw [hW0]; exact (Bx.new w _ _).alloc _
  have hr : Bx W0 (w.heap.size + 1) 28 [.int .i64 0, .int .i64 0, .int .i64 0, .int .i64 0, .string ⟨#[]⟩, .string ⟨#[]⟩, .string ⟨#[]⟩] := by
    have h := Bx.new (w.alloc (.cells #[.int .i64 c, .int .i64 f, .int .i64 b] 23)) 28 [.int .i64 0, .int .i64 0, .int .i64 0, .int .i64 0, .string ⟨#[]⟩, .string ⟨#[]⟩, .string ⟨#[]⟩]
    rw [World.size_alloc] at h
    rw [hW0]; exact h
  have hR := sRight_any c f b W0
  have HE : Hid (bgE (tRight c f b) us wo ho = if tRight c f b = true ∧ ho.size ≤ 255 ∧ zeroX us = false ∧ zeroX wo = false then 0 else 1) := Lib.hid rfl
  obtain ⟨uw, huw⟩ : ∃ uw, us ++ wo = uw := ⟨_, rfl⟩
  have hadd : ∀ w', (Op.stringOp .add us wo).run Tryz.prog w' = .ok (.string uw) w' := fun w' => by rw [← huw]; exact run_string_add_sum w' us wo (by omega)
  have hC := fun W => contains0_any uw W
  have HZ : Hid (zeroX uw = (zeroX us || zeroX wo)) := Lib.hid (by rw [← huw]; exact zero_app us wo)
  generalize bgE (tRight c f b) us wo ho = E at *
  generalize tRight c f b = q at *
  generalize zeroX uw = z at *
  generalize zeroX us = z1 at *
  generalize zeroX wo = z2 at *
  clear huw hs
  go_enter Tryz.func8, Tryz.ntmps8
  go_upto_region 1 with fail
  rw [← hW0]
  clear hW0
  obtain ⟨x0, x1, x2⟩ := hm.three
  go_wp2_with fail
  with_reducible refine hR.mono ?_
  rintro e w1 ⟨rfl, hb1⟩
  have hB1 := hb0.trans (hb1.mono hb0.size)
  replace hm := hm.kept hb1
  replace hr := hr.kept hb1
  clear hR hb0 hb1 x0 x1 x2
  obtain ⟨x0, x1, x2⟩ := hm.three
  cases q
  · have HG : Hid (E = 1) := Lib.hid (by rw [HE.out, if_neg (by simp)])
    clear hm hC hadd x0 x1 x2
    obtain ⟨a0, f0, a1, f1, a2, f2, a3, f3, a4, f4, a5, f5, a6, f6, bR⟩ := hr.store7 (.int .i64 0) (.int .i64 0) (.int .i64 0) (.int .i64 0) (.string ⟨#[]⟩) (.string ⟨#[]⟩) (.string ⟨#[]⟩)
    have hBz := below_store7 hB1 (B := w.heap.size + 1) (by omega) (.int .i64 0) (.int .i64 0) (.int .i64 0) (.int .i64 0) (.string ⟨#[]⟩) (.string ⟨#[]⟩) (.string ⟨#[]⟩)
    obtain ⟨y0, y1, y2, y3, y4, y5, y6⟩ := bR.seven
    clear hr hB1 bR HE
    go_wp2
    refine bodyPost_ret (v := .tuple #[.agg #[.int .i64 0, .int .i64 0, .int .i64 0, .int .i64 0, .string ⟨#[]⟩, .string ⟨#[]⟩, .string ⟨#[]⟩], .int .i64 1]) ?_ rfl ⟨by rw [HG.out, bgT_no]; rfl, hBz⟩
    rw [results_ctw rfl]
    simp [asAddr, Result.andThen, go_sem, y0, y1, y2, y3, y4, y5, y6]
  · rcases Bool.eq_false_or_eq_true (decide (255 < (ho.size : Int))) with hh | hh
    · have HG : Hid (E = 1) := Lib.hid (by have h2 := of_decide_eq_true hh; rw [HE.out, if_neg (fun h => by omega)])
      clear hm hC hadd x0 x1 x2
      obtain ⟨a0, f0, a1, f1, a2, f2, a3, f3, a4, f4, a5, f5, a6, f6, bR⟩ := hr.store7 (.int .i64 0) (.int .i64 0) (.int .i64 0) (.int .i64 0) (.string ⟨#[]⟩) (.string ⟨#[]⟩) (.string ⟨#[]⟩)
      have hBz := below_store7 hB1 (B := w.heap.size + 1) (by omega) (.int .i64 0) (.int .i64 0) (.int .i64 0) (.int .i64 0) (.string ⟨#[]⟩) (.string ⟨#[]⟩) (.string ⟨#[]⟩)
      obtain ⟨y0, y1, y2, y3, y4, y5, y6⟩ := bR.seven
      clear hr hB1 bR HE
      go_wp2
      refine bodyPost_ret (v := .tuple #[.agg #[.int .i64 0, .int .i64 0, .int .i64 0, .int .i64 0, .string ⟨#[]⟩, .string ⟨#[]⟩, .string ⟨#[]⟩], .int .i64 1]) ?_ rfl ⟨by rw [HG.out, bgT_no]; rfl, hBz⟩
      rw [results_ctw rfl]
      simp [asAddr, Result.andThen, go_sem, y0, y1, y2, y3, y4, y5, y6]
    · go_wp2_with fail
      with_reducible refine (hC _).mono ?_
      rintro e w2 ⟨rfl, rfl⟩
      clear hC hadd
      cases z
      · have HG : Hid (E = 0) := Lib.hid (by
          have h := HZ.out
          rw [HE.out]
          cases z1 <;> cases z2
          · have h2 := of_decide_eq_false hh
            rw [if_pos]
            exact ⟨by simp, by omega, by simp, by simp⟩
          all_goals exact absurd h (by decide))
        obtain ⟨a0, f0, a1, f1, a2, f2, a3, f3, a4, f4, a5, f5, a6, f6, bR⟩ := hr.store7 (.int .i64 1) (.int .i64 c) (.int .i64 f) (.int .i64 b) (.string us) (.string wo) (.string ho)
        have hBz := below_store7 hB1 (B := w.heap.size + 1) (by omega) (.int .i64 1) (.int .i64 c) (.int .i64 f) (.int .i64 b) (.string us) (.string wo) (.string ho)
        obtain ⟨y0, y1, y2, y3, y4, y5, y6⟩ := bR.seven
        clear hm hr hB1 bR HE HZ
        go_wp2
        refine bodyPost_ret (v := .tuple #[.agg #[.int .i64 1, .int .i64 c, .int .i64 f, .int .i64 b, .string us, .string wo, .string ho], .int .i64 0]) ?_ rfl ⟨by rw [HG.out, bgT_yes], hBz⟩
        rw [results_ctw rfl]
        simp [asAddr, Result.andThen, go_sem, y0, y1, y2, y3, y4, y5, y6]
      · have HG : Hid (E = 1) := Lib.hid (by
          have h := HZ.out
          rw [HE.out, if_neg (fun k => by obtain ⟨-, -, k1, k2⟩ := k; rw [k1, k2] at h; cases h)])
        clear hm x0 x1 x2
        obtain ⟨a0, f0, a1, f1, a2, f2, a3, f3, a4, f4, a5, f5, a6, f6, bR⟩ := hr.store7 (.int .i64 0) (.int .i64 0) (.int .i64 0) (.int .i64 0) (.string ⟨#[]⟩) (.string ⟨#[]⟩) (.string ⟨#[]⟩)
        have hBz := below_store7 hB1 (B := w.heap.size + 1) (by omega) (.int .i64 0) (.int .i64 0) (.int .i64 0) (.int .i64 0) (.string ⟨#[]⟩) (.string ⟨#[]⟩) (.string ⟨#[]⟩)
        obtain ⟨y0, y1, y2, y3, y4, y5, y6⟩ := bR.seven
        clear hr hB1 bR HE
        go_wp2
        refine bodyPost_ret (v := .tuple #[.agg #[.int .i64 0, .int .i64 0, .int .i64 0, .int .i64 0, .string ⟨#[]⟩, .string ⟨#[]⟩, .string ⟨#[]⟩], .int .i64 1]) ?_ rfl ⟨by rw [HG.out, bgT_no]; rfl, hBz⟩
        rw [results_ctw rfl]
        simp [asAddr, Result.andThen, go_sem, y0, y1, y2, y3, y4, y5, y6]
end Go.Proofs.YtkdiccedkjbpeaaGreatDoorR
