/-
  frame.Take answers the frame that bytes begin with, and the rest, or why not; nothing that was there is changed. Conditions: the tables of widths and kinds are as their texts lay them; the text has fewer than 2^62 bytes.
-/
import Derived.Test.YtjpijggbkiihhaaDoorMBoxed
import Derived.Test.YtjpijggbkiihhaaDoorWSkip
import Derived.Test.YtjpijggbkiihhaaDoorWFront
namespace Go.Proofs.YtjpijggbkiihhaaDoor
open Go.RowKit

/-- what Take answers -/
def frTakeV (s : ByteArray) (m : Int) : Value := .tuple #[encFr (frF s m), .string (frR s m), .int .i64 (frE s m)]
theorem frTakeV_bad {s : ByteArray} {m e : Int} (h : frE s m = e) (he : e ≠ 0) : frTakeV s m = .tuple #[.agg #[.int .i64 0, .int .i64 0, .string ⟨#[]⟩], .string ⟨#[]⟩, .int .i64 e] := by
  subst h
  simp [frTakeV, frF, frR, he, encFr, frNone]
theorem frTakeV_ok {s : ByteArray} {m : Int} (h : frE s m = 0) : frTakeV s m = .tuple #[.agg #[.int .i64 (frCode s), .int .i64 (frChan s), .string (ttA 4 (fr2 s))], .string (takeR (frEnd s) 1), .int .i64 0] := by
  simp [frTakeV, frF, frR, h, encFr, frGot, frRest]
theorem front_parts {s : ByteArray} (h : frontE s = 0) : ttA 4 (fr2 s) = skipA (takeR (fr2 s) 4) (frSize s) ∧ frEnd s = skipB (takeR (fr2 s) 4) (frSize s) ∧ ttOk 4 (fr2 s) = skipOk (takeR (fr2 s) 4) (frSize s) ∧ (takeR (fr2 s) 4).size ≤ s.size ∧ 0 ≤ frSize s ∧ frSize s < 4294967296 ∧ 0 ≤ frCode s ∧ frCode s < 256 ∧ 0 ≤ frChan s ∧ frChan s < 65536 := by
  obtain ⟨g1, g2, g3, g4⟩ := frontE_zero h
  have v1 := takeV_small (k := 1) rfl g1
  have v2 := takeV_small (k := 2) rfl g3
  have v4 := takeV_small (k := 4) rfl g4
  refine ⟨by rw [ttA, if_pos g4]; rfl, by rw [frEnd, ttR, if_pos g4]; rfl, by rw [ttOk, g4]; rfl, ?_, v4.1, v4.2, v1.1, v1.2, v2.1, v2.2⟩
  have q1 : (fr1 s).size ≤ s.size := takeR_le _ _
  have q2 : (fr2 s).size ≤ (fr1 s).size := takeR_le _ _
  have q3 := takeR_le (fr2 s) 4
  omega
theorem skipE_two {s : ByteArray} {n : Int} (h : skipOk s n = false) : skipE s n = 2 := by simp [skipE, h]
theorem skipE_of {s : ByteArray} {n : Int} (h : skipOk s n = true) : skipE s n = 0 := by simp [skipE, h]

set_option maxRecDepth 100000 in
set_option maxHeartbeats 4000000 in
theorem frtake_any (s : ByteArray) (m : Int) (w : World) (hw : Wid w) (hk : Kin w) (hs : s.size < 4611686018427387904) :
    Calls Tryd.prog 13 #[.string s, .int .i64 m] w fun e w' => e = .returned (frTakeV s m) ∧ Below w.heap.size w w' := by
  have x0 := Bx.new w 23 [.int .i64 0, .int .i64 0, .string ⟨#[]⟩]
  have hb0 : Below w.heap.size w (w.alloc (.cells [.int .i64 0, .int .i64 0, .string ⟨#[]⟩].toArray 23)) := (Below.refl _ _).alloc (Nat.le_refl _) _
  have F := front_any s _ (hw.below hb0) (hk.below hb0)
  go_enter Tryd.func13, Tryd.ntmps13
  go_wp2_with fail
  refine F.mono ?_
  rintro e w1 ⟨rfl, hb⟩
  clear F
  have x1 := x0.kept hb
  have hb1 := hb0.trans (hb.mono hb0.size)
  clear x0 hb0 hb
  by_cases h0 : frontE s = 0
  case neg =>
    have H := Lib.hid (frTakeV_bad (m := m) (show frE s m = frontE s by rw [frE, if_neg h0]) h0)
    rw [frontV, if_neg h0]
    have t1 : (frontE s != 0) = true := by simpa using h0
    clear h0
    generalize frontE s = x at t1 H ⊢
    have x2 := x1.alloc (.cells #[.int .i64 0, .int .i64 0, .string ⟨#[]⟩] 23)
    have hb2 := hb1.alloc hb1.size (.cells #[.int .i64 0, .int .i64 0, .string ⟨#[]⟩] 23)
    clear x1 hb1
    obtain ⟨c0, f0, c1, f1, c2, f2, y⟩ := x2.store3 (.int .i64 0) (.int .i64 0) (.string ⟨#[]⟩)
    have d0 := y.cell 0 (by simp)
    have d1 := y.cell 1 (by simp)
    have d2 := y.cell 2 (by simp)
    dsimp only [List.getElem_cons_zero, List.getElem_cons_succ] at d0 d1 d2
    have hbz := below_store3 hb2 (Nat.le_refl _) (.int .i64 0) (.int .i64 0) (.string ⟨#[]⟩)
    clear y x2 hb2
    go_wp2
    refine bodyPost_ret (v := .tuple #[.agg #[.int .i64 0, .int .i64 0, .string ⟨#[]⟩], .string ⟨#[]⟩, .int .i64 x]) ?_ rfl ⟨by rw [H.out], hbz⟩
    rw [results_ctt rfl]
    simp [asAddr, Result.andThen, go_sem, d0, d1, d2]
  rw [frontV, if_pos h0]
  obtain ⟨q1, q2, q3, q4, q5, q6, q7, q8, q9, q10⟩ := front_parts h0
  have E0 := Lib.hid h0
  have E1 := Lib.hid q1
  have E2 := Lib.hid q2
  have E3 := Lib.hid q3
  clear q1 q2 q3 h0
  generalize hcode : frCode s = code at q7 q8 ⊢
  generalize hchan : frChan s = chan at q9 q10 ⊢
  generalize hsize : frSize s = n at q5 q6 E1 E2 E3 ⊢
  generalize hr3 : takeR (fr2 s) 4 = r at q4 E1 E2 E3 ⊢
  have C1 := Lib.hid hcode
  have C2 := Lib.hid hchan
  have C3 := Lib.hid hsize
  clear hcode hchan hsize hr3
  have xf := Bx.new w1 23 [.int .i64 code, .int .i64 chan, .string ⟨#[]⟩]
  have x2 := x1.alloc (.cells [.int .i64 code, .int .i64 chan, .string ⟨#[]⟩].toArray 23)
  have hb2 := hb1.alloc hb1.size (.cells [.int .i64 code, .int .i64 chan, .string ⟨#[]⟩].toArray 23)
  have HLT := Lib.hid x1.lt
  have HBS := Lib.hid hb1.size
  clear x1 hb1
  go_wp2_with fail
  refine (room_any m _).mono ?_
  rintro e w2 ⟨rfl, rfl⟩
  have hrm := roomOf_bounds m
  by_cases h1 : n ≤ roomOf m
  case neg =>
    have H := Lib.hid (frTakeV_bad (m := m) (show frE s m = 6 by rw [frE, if_pos E0.out, if_neg (by rw [C3.out]; exact h1)]) (by decide))
    generalize roomOf m = rm at h1 hrm ⊢
    have h1' : rm < n := by omega
    have h1b : decide (rm < n) = true := by simpa using h1'
    clear h1 xf hrm
    obtain ⟨c0, f0, c1, f1, c2, f2, y⟩ := x2.store3 (.int .i64 0) (.int .i64 0) (.string ⟨#[]⟩)
    have d0 := y.cell 0 (by simp)
    have d1 := y.cell 1 (by simp)
    have d2 := y.cell 2 (by simp)
    dsimp only [List.getElem_cons_zero, List.getElem_cons_succ] at d0 d1 d2
    have hbz := below_store3 hb2 (Nat.le_refl _) (.int .i64 0) (.int .i64 0) (.string ⟨#[]⟩)
    clear y x2 hb2
    go_wp2
    refine bodyPost_ret (v := .tuple #[.agg #[.int .i64 0, .int .i64 0, .string ⟨#[]⟩], .string ⟨#[]⟩, .int .i64 6]) ?_ rfl ⟨by rw [H.out], hbz⟩
    rw [results_ctt rfl]
    simp [asAddr, Result.andThen, go_sem, d0, d1, d2]
  have H1' : Hid (frSize s ≤ roomOf m) := Lib.hid (by rw [C3.out]; exact h1)
  generalize hrmd : roomOf m = rm at h1 hrm ⊢
  clear hrmd
  go_wp2_with fail
  refine (skip_any r n _ q5 (by unfold maxLen; omega)).mono ?_
  rintro e w3 ⟨rfl, hb⟩
  have x3 := x2.kept hb
  have xf3 := xf.kept hb
  have hb3 := hb2.trans (hb.mono hb2.size)
  clear x2 xf hb2 hb h1
  cases h2 : skipOk r n
  case false =>
    have H := Lib.hid (frTakeV_bad (m := m) (show frE s m = 2 by rw [frE, if_pos E0.out, if_pos H1'.out, E3.out, h2, if_neg (by decide)]) (by decide))
    rw [skipE_two h2]
    clear h2 xf3
    generalize skipA r n = da
    generalize skipB r n = db
    obtain ⟨c0, f0, c1, f1, c2, f2, y⟩ := x3.store3 (.int .i64 0) (.int .i64 0) (.string ⟨#[]⟩)
    have d0 := y.cell 0 (by simp)
    have d1 := y.cell 1 (by simp)
    have d2 := y.cell 2 (by simp)
    dsimp only [List.getElem_cons_zero, List.getElem_cons_succ] at d0 d1 d2
    have hbz := below_store3 hb3 (Nat.le_refl _) (.int .i64 0) (.int .i64 0) (.string ⟨#[]⟩)
    clear y x3 hb3
    go_wp2
    refine bodyPost_ret (v := .tuple #[.agg #[.int .i64 0, .int .i64 0, .string ⟨#[]⟩], .string ⟨#[]⟩, .int .i64 2]) ?_ rfl ⟨by rw [H.out], hbz⟩
    rw [results_ctt rfl]
    simp [asAddr, Result.andThen, go_sem, d0, d1, d2]
  have H2 := Lib.hid (show ttOk 4 (fr2 s) = true by rw [E3.out, h2])
  rw [skipE_of h2]
  clear h2 E3
  generalize skipA r n = da at E1 ⊢
  generalize skipB r n = db at E2 ⊢
  go_wp2_with fail
  refine (take_any db 1 _ (hw.below hb3)).mono ?_
  rintro e w4 ⟨rfl, hb⟩
  have x4 := x3.kept hb
  have xf4 := xf3.kept hb
  have hb4 := hb3.trans (hb.mono hb3.size)
  clear x3 xf3 hb3 hb
  cases h3 : takeOk db 1
  case false =>
    have H := Lib.hid (frTakeV_bad (m := m) (show frE s m = 2 by rw [frE, if_pos E0.out, if_pos H1'.out, if_pos H2.out, E2.out, h3, if_neg (by decide)]) (by decide))
    rw [takeE_two (by decide) h3]
    clear h3 xf4
    generalize takeV db 1 = v
    generalize takeR db 1 = r2
    obtain ⟨c0, f0, c1, f1, c2, f2, y⟩ := x4.store3 (.int .i64 0) (.int .i64 0) (.string ⟨#[]⟩)
    have d0 := y.cell 0 (by simp)
    have d1 := y.cell 1 (by simp)
    have d2 := y.cell 2 (by simp)
    dsimp only [List.getElem_cons_zero, List.getElem_cons_succ] at d0 d1 d2
    have hbz := below_store3 hb4 (Nat.le_refl _) (.int .i64 0) (.int .i64 0) (.string ⟨#[]⟩)
    clear y x4 hb4
    go_wp2
    refine bodyPost_ret (v := .tuple #[.agg #[.int .i64 0, .int .i64 0, .string ⟨#[]⟩], .string ⟨#[]⟩, .int .i64 2]) ?_ rfl ⟨by rw [H.out], hbz⟩
    rw [results_ctt rfl]
    simp [asAddr, Result.andThen, go_sem, d0, d1, d2]
  have H3 := Lib.hid (show takeOk (frEnd s) 1 = true by rw [E2.out, h3])
  rw [takeE_of h3]
  have hv := takeV_small (k := 1) rfl h3
  have HV := Lib.hid (show takeV (frEnd s) 1 = takeV db 1 by rw [E2.out])
  have HR := Lib.hid (show takeR (frEnd s) 1 = takeR db 1 by rw [E2.out])
  have HG := Lib.hid (show frGot s = ⟨code, chan, da⟩ by rw [frGot, C1.out, C2.out, E1.out])
  clear h3
  generalize takeV db 1 = v at hv HV ⊢
  generalize takeR db 1 = r2 at HR ⊢
  have hfne : w.heap.size ≠ w1.heap.size := Nat.ne_of_lt HLT.out
  have x5 := x4.other (B' := w1.heap.size) (fun h => hfne h.symm) 2 (.string da)
  have xf5 := xf4.set 2 (.string da)
  have hb5 := hb4.setCell (p := ⟨w1.heap.size, 2, none⟩) HBS.out (.string da)
  have g2 := xf4.cell 2 (by simp)
  have g2f := xf4.frozen 2
  have k0 := xf5.cell 0 (by simp)
  have k1 := xf5.cell 1 (by simp)
  have k2 := xf5.cell 2 (by simp)
  dsimp only [List.getElem_cons_zero, List.getElem_cons_succ, List.set_cons_zero, List.set_cons_succ] at g2 k0 k1 k2 xf5
  clear x4 xf4 hb4 hfne
  by_cases h4 : v = 206
  case neg =>
    have H := Lib.hid (frTakeV_bad (m := m) (show frE s m = 6 by rw [frE, if_pos E0.out, if_pos H1'.out, if_pos H2.out, if_pos H3.out, HV.out, if_neg (by simp [h4])]) (by decide))
    have t4 : (v != 206) = true := by simpa using h4
    clear h4 xf5
    obtain ⟨c0, f0, c1, f1, c2, f2, y⟩ := x5.store3 (.int .i64 0) (.int .i64 0) (.string ⟨#[]⟩)
    have d0 := y.cell 0 (by simp)
    have d1 := y.cell 1 (by simp)
    have d2 := y.cell 2 (by simp)
    dsimp only [List.getElem_cons_zero, List.getElem_cons_succ] at d0 d1 d2
    have hbz := below_store3 hb5 (Nat.le_refl _) (.int .i64 0) (.int .i64 0) (.string ⟨#[]⟩)
    clear y x5 hb5
    go_wp2
    refine bodyPost_ret (v := .tuple #[.agg #[.int .i64 0, .int .i64 0, .string ⟨#[]⟩], .string ⟨#[]⟩, .int .i64 6]) ?_ rfl ⟨by rw [H.out], hbz⟩
    rw [results_ctt rfl]
    simp [asAddr, Result.andThen, go_sem, d0, d1, d2]
  subst h4
  have R := right_any ⟨code, chan, da⟩ _ (hk.below hb5)
  unfold encFr at R
  dsimp only at R
  cases h5 : frRight ⟨code, chan, da⟩
  case false =>
    have H := Lib.hid (frTakeV_bad (m := m) (show frE s m = 6 by rw [frE, if_pos E0.out, if_pos H1'.out, if_pos H2.out, if_pos H3.out, HV.out, HG.out, h5, if_neg (by simp)]) (by decide))
    rw [h5] at R
    clear h5 xf5
    go_wp2_with fail
    refine R.mono ?_
    rintro e w6 ⟨rfl, hb⟩
    have x6 := x5.kept hb
    have hb6 := hb5.trans (hb.mono hb5.size)
    clear x5 hb5 hb R
    obtain ⟨c0, f0, c1, f1, c2, f2, y⟩ := x6.store3 (.int .i64 0) (.int .i64 0) (.string ⟨#[]⟩)
    have d0 := y.cell 0 (by simp)
    have d1 := y.cell 1 (by simp)
    have d2 := y.cell 2 (by simp)
    dsimp only [List.getElem_cons_zero, List.getElem_cons_succ] at d0 d1 d2
    have hbz := below_store3 hb6 (Nat.le_refl _) (.int .i64 0) (.int .i64 0) (.string ⟨#[]⟩)
    clear y x6 hb6
    go_wp2
    refine bodyPost_ret (v := .tuple #[.agg #[.int .i64 0, .int .i64 0, .string ⟨#[]⟩], .string ⟨#[]⟩, .int .i64 6]) ?_ rfl ⟨by rw [H.out], hbz⟩
    rw [results_ctt rfl]
    simp [asAddr, Result.andThen, go_sem, d0, d1, d2]
  have H := Lib.hid (frTakeV_ok (m := m) (frE_of E0.out H1'.out H2.out H3.out HV.out (by rw [HG.out]; exact h5)))
  rw [C1.out, C2.out, E1.out, HR.out] at H
  rw [h5] at R
  clear h5
  go_wp2_with fail
  refine R.mono ?_
  rintro e w6 ⟨rfl, hb⟩
  have x6 := x5.kept hb
  have xf6 := xf5.kept hb
  have hb6 := hb5.trans (hb.mono hb5.size)
  clear x5 xf5 hb5 hb R k0 k1 k2
  have k0 := xf6.cell 0 (by simp)
  have k1 := xf6.cell 1 (by simp)
  have k2 := xf6.cell 2 (by simp)
  dsimp only [List.getElem_cons_zero, List.getElem_cons_succ] at k0 k1 k2
  clear xf6
  obtain ⟨c0, f0, c1, f1, c2, f2, y⟩ := x6.store3 (.int .i64 code) (.int .i64 chan) (.string da)
  have d0 := y.cell 0 (by simp)
  have d1 := y.cell 1 (by simp)
  have d2 := y.cell 2 (by simp)
  dsimp only [List.getElem_cons_zero, List.getElem_cons_succ] at d0 d1 d2
  have hbz := below_store3 hb6 (Nat.le_refl _) (.int .i64 code) (.int .i64 chan) (.string da)
  clear y x6 hb6
  go_wp2
  refine bodyPost_ret (v := .tuple #[.agg #[.int .i64 code, .int .i64 chan, .string da], .string r2, .int .i64 0]) ?_ rfl ⟨by rw [H.out], hbz⟩
  rw [results_ctt rfl]
  simp [asAddr, Result.andThen, go_sem, d0, d1, d2]
end Go.Proofs.YtjpijggbkiihhaaDoor
