/-
  interchangelaw04.FrameBack answers true; nothing that was there is changed. Conditions: the tables of widths and kinds are as their texts lay them; texts of fewer than 2^62 bytes.
-/
import Derived.Test.YtjpijggbkiihhaaDoorWFShown
import Derived.Test.YtjpijggbkiihhaaDoorWFTake
namespace Go.Proofs.YtjpijggbkiihhaaDoor
open Go.RowKit

theorem frTakeV_laid {f : Fr} (h : frRight f = true) (hd : f.d.size ≤ 4088) (more : ByteArray) : frTakeV (frB f ++ more) 4096 = .tuple #[.agg #[.int .i64 f.t, .int .i64 f.c, .string f.d], .string more, .int .i64 0] := by
  obtain ⟨e, g, r⟩ := fr_taken (m := 4096) h (by have : roomOf 4096 = 4088 := by decide
                                                 omega) more
  rw [frTakeV_ok e]
  have e1 : frCode (frB f ++ more) = f.t := congrArg Fr.t g
  have e2 : frChan (frB f ++ more) = f.c := congrArg Fr.c g
  have e3 : ttA 4 (fr2 (frB f ++ more)) = f.d := congrArg Fr.d g
  have e4 : takeR (frEnd (frB f ++ more)) 1 = more := r
  rw [e1, e2, e3, e4]
theorem none_right : frRight frNone = false := by decide

set_option maxRecDepth 100000 in
set_option maxHeartbeats 4000000 in
theorem frameBack_walk (t c : Int) (d more s : ByteArray) (w : World) (hw : Wid w) (hk : Kin w) (hm : more.size < 2305843009213693952) (hs : s.size < 4611686018427387904) :
    Calls Tryd.prog 4 #[.agg #[.int .i64 t, .int .i64 c, .string d], .string more, .string s] w fun e w' => e = .returned (.bool true) ∧ Below w.heap.size w w' := by
  have x0 := Bx.new w 23 [.int .i64 t, .int .i64 c, .string d]
  have hb0 : Below w.heap.size w (w.alloc (.cells [.int .i64 t, .int .i64 c, .string d].toArray 23)) := (Below.refl _ _).alloc (Nat.le_refl _) _
  go_enter Tryd.func4, Tryd.ntmps4
  go_wp2_with fail
  refine (frShown_any _ (hw.below hb0) (hk.below hb0)).mono ?_
  rintro e w1 ⟨rfl, hb⟩
  have x1 := x0.kept hb
  have hb1 := hb0.trans (hb.mono hb0.size)
  clear x0 hb0 hb
  have a0 := x1.cell 0 (by simp)
  have a1 := x1.cell 1 (by simp)
  have a2 := x1.cell 2 (by simp)
  dsimp only [List.getElem_cons_zero, List.getElem_cons_succ] at a0 a1 a2
  have B := frbytes_any ⟨t, c, d⟩ w1 (hw.below hb1) (hk.below hb1)
  unfold encFr at B
  dsimp only at B
  go_wp2_with fail
  refine B.mono ?_
  rintro e w2 ⟨rfl, hb⟩
  have x2 := x1.kept hb
  have hb2 := hb1.trans (hb.mono hb1.size)
  clear x1 hb1 hb a0 a1 a2 B
  cases hr : frRight ⟨t, c, d⟩
  · have e1 : frBytes ⟨t, c, d⟩ = ⟨#[]⟩ := by simp [frBytes, hr]
    have e2 : frBytesE ⟨t, c, d⟩ = 1 := by simp [frBytesE, hr]
    rw [e1, e2]
    clear e1 e2 hr
    have hb3 := hb2
    clear x2 hb2
    go_wp2_with fail
    have TT := frtake_any s 4096 _ (hw.below hb3) (hk.below hb3) hs
    refine TT.mono ?_
    rintro e w4 ⟨rfl, hb⟩
    have hb4 := hb3.trans (hb.mono hb3.size)
    clear TT hb hb3
    by_cases h0 : frE s 4096 = 0
    · rw [frTakeV_ok h0]
      obtain ⟨q1, q2, -⟩ := fr_laid h0
      have qs := fr_sizes h0
      have eG : frGot s = ⟨frCode s, frChan s, ttA 4 (fr2 s)⟩ := rfl
      have eR : frRest s = takeR (frEnd s) 1 := rfl
      rw [eG] at q1 q2 qs
      rw [eR] at q1 qs
      dsimp only at qs
      clear eG eR h0
      generalize frCode s = co at q1 q2 ⊢
      generalize frChan s = ch at q1 q2 ⊢
      generalize ttA 4 (fr2 s) = da at q1 q2 qs ⊢
      generalize takeR (frEnd s) 1 = r at q1 qs ⊢
      have y4 := Bx.new w4 23 [.int .i64 co, .int .i64 ch, .string da]
      have hb5 := hb4.alloc hb4.size (.cells [.int .i64 co, .int .i64 ch, .string da].toArray 23)
      have B := frbytes_ok ⟨co, ch, da⟩ _ (hw.below hb5) (hk.below hb5) q2
      unfold encFr at B
      dsimp only at B
      have hz := frB_size q2
      dsimp only at hz
      go_wp2_with fail
      refine B.mono ?_
      rintro e w5 ⟨rfl, hb⟩
      have y5 := y4.kept hb
      have hb6 := hb5.trans (hb.mono hb5.size)
      have R := right_any ⟨co, ch, da⟩ w5 (hk.below hb6)
      rw [q2] at R
      unfold encFr at R
      dsimp only at R
      clear B y4 hb hb5 q2
      have k0 := y5.cell 0 (by simp)
      have k1 := y5.cell 1 (by simp)
      have k2 := y5.cell 2 (by simp)
      dsimp only [List.getElem_cons_zero, List.getElem_cons_succ] at k0 k1 k2
      generalize frB ⟨co, ch, da⟩ = b at q1 hz ⊢
      have z2 : b.size + r.size ≤ 9223372036854775807 := by omega
      have z3 : ((b ++ r).toList == s.toList) = true := by rw [q1]; simp
      clear q1 qs hz
      go_wp2_with fail
      refine R.mono ?_
      rintro e w6 ⟨rfl, hb⟩
      go_wp2
      go_ret
      exact ⟨rfl, hb6.trans (hb.mono hb6.size)⟩
    · rw [frTakeV_bad rfl h0]
      have t1 : (frE s 4096 != 0) = true := by simpa using h0
      clear h0
      generalize frE s 4096 = x at t1 ⊢
      have hb5 := hb4.alloc hb4.size (.cells #[.int .i64 0, .int .i64 0, .string ⟨#[]⟩] 23)
      have B := frbytes_bad frNone _ (hk.below hb5) none_right
      unfold encFr frNone at B
      dsimp only at B
      go_wp2_with fail
      refine B.mono ?_
      rintro e w5 ⟨rfl, hb⟩
      go_wp2
      go_ret
      exact ⟨rfl, hb5.trans (hb.mono hb5.size)⟩
  · have e1 : frBytes ⟨t, c, d⟩ = frB ⟨t, c, d⟩ := by simp [frBytes, hr]
    have e2 : frBytesE ⟨t, c, d⟩ = 0 := by simp [frBytesE, hr]
    rw [e1, e2]
    clear e1 e2
    have hz := frB_size hr
    dsimp only at hz
    by_cases hd : d.size ≤ 4088
    · have T := frTakeV_laid hr hd more
      dsimp only at T
      have hd2 : (frB ⟨t, c, d⟩).size ≤ 4096 := by omega
      have T2 := frtake_any (frB ⟨t, c, d⟩ ++ more) 4096 w2 (hw.below hb2) (hk.below hb2) (by rw [ByteArray.size_append]; omega)
      rw [T] at T2
      clear T hr hz
      generalize frB ⟨t, c, d⟩ = a at hd2 T2 ⊢
      have z1 : a.size + more.size ≤ 9223372036854775807 := by omega
      go_wp2_with fail
      refine T2.mono ?_
      rintro e w3 ⟨rfl, hb⟩
      have x3 := (x2.kept hb).alloc (.cells #[.int .i64 t, .int .i64 c, .string d] 23)
      have hb3' := hb2.trans (hb.mono hb2.size)
      have hb3 := hb3'.alloc hb3'.size (.cells #[.int .i64 t, .int .i64 c, .string d] 23)
      have a0 := x3.cell 0 (by simp)
      have a1 := x3.cell 1 (by simp)
      have a2 := x3.cell 2 (by simp)
      dsimp only [List.getElem_cons_zero, List.getElem_cons_succ] at a0 a1 a2
      clear T2 x2 hb2 hb hb3' x3
      go_wp2_with fail
      have TT := frtake_any s 4096 _ (hw.below hb3) (hk.below hb3) hs
      refine TT.mono ?_
      rintro e w4 ⟨rfl, hb⟩
      have hb4 := hb3.trans (hb.mono hb3.size)
      clear TT hb hb3
      by_cases h0 : frE s 4096 = 0
      · rw [frTakeV_ok h0]
        obtain ⟨q1, q2, -⟩ := fr_laid h0
        have qs := fr_sizes h0
        have eG : frGot s = ⟨frCode s, frChan s, ttA 4 (fr2 s)⟩ := rfl
        have eR : frRest s = takeR (frEnd s) 1 := rfl
        rw [eG] at q1 q2 qs
        rw [eR] at q1 qs
        dsimp only at qs
        clear eG eR h0
        generalize frCode s = co at q1 q2 ⊢
        generalize frChan s = ch at q1 q2 ⊢
        generalize ttA 4 (fr2 s) = da at q1 q2 qs ⊢
        generalize takeR (frEnd s) 1 = r at q1 qs ⊢
        have y4 := Bx.new w4 23 [.int .i64 co, .int .i64 ch, .string da]
        have hb5 := hb4.alloc hb4.size (.cells [.int .i64 co, .int .i64 ch, .string da].toArray 23)
        have B := frbytes_ok ⟨co, ch, da⟩ _ (hw.below hb5) (hk.below hb5) q2
        unfold encFr at B
        dsimp only at B
        have hz := frB_size q2
        dsimp only at hz
        go_wp2_with fail
        refine B.mono ?_
        rintro e w5 ⟨rfl, hb⟩
        have y5 := y4.kept hb
        have hb6 := hb5.trans (hb.mono hb5.size)
        have R := right_any ⟨co, ch, da⟩ w5 (hk.below hb6)
        rw [q2] at R
        unfold encFr at R
        dsimp only at R
        clear B y4 hb hb5 q2
        have k0 := y5.cell 0 (by simp)
        have k1 := y5.cell 1 (by simp)
        have k2 := y5.cell 2 (by simp)
        dsimp only [List.getElem_cons_zero, List.getElem_cons_succ] at k0 k1 k2
        generalize frB ⟨co, ch, da⟩ = b at q1 hz ⊢
        have z2 : b.size + r.size ≤ 9223372036854775807 := by omega
        have z3 : ((b ++ r).toList == s.toList) = true := by rw [q1]; simp
        clear q1 qs hz
        go_wp2_with fail
        refine R.mono ?_
        rintro e w6 ⟨rfl, hb⟩
        go_wp2
        go_ret
        exact ⟨rfl, hb6.trans (hb.mono hb6.size)⟩
      · rw [frTakeV_bad rfl h0]
        have t1 : (frE s 4096 != 0) = true := by simpa using h0
        clear h0
        generalize frE s 4096 = x at t1 ⊢
        have hb5 := hb4.alloc hb4.size (.cells #[.int .i64 0, .int .i64 0, .string ⟨#[]⟩] 23)
        have B := frbytes_bad frNone _ (hk.below hb5) none_right
        unfold encFr frNone at B
        dsimp only at B
        go_wp2_with fail
        refine B.mono ?_
        rintro e w5 ⟨rfl, hb⟩
        go_wp2
        go_ret
        exact ⟨rfl, hb5.trans (hb.mono hb5.size)⟩
    · have hd2 : ¬ (frB ⟨t, c, d⟩).size ≤ 4096 := by omega
      clear hr hz
      generalize frB ⟨t, c, d⟩ = a at hd2 ⊢
      have hb3 := hb2
      clear x2 hb2
      go_wp2_with fail
      have TT := frtake_any s 4096 _ (hw.below hb3) (hk.below hb3) hs
      refine TT.mono ?_
      rintro e w4 ⟨rfl, hb⟩
      have hb4 := hb3.trans (hb.mono hb3.size)
      clear TT hb hb3
      by_cases h0 : frE s 4096 = 0
      · rw [frTakeV_ok h0]
        obtain ⟨q1, q2, -⟩ := fr_laid h0
        have qs := fr_sizes h0
        have eG : frGot s = ⟨frCode s, frChan s, ttA 4 (fr2 s)⟩ := rfl
        have eR : frRest s = takeR (frEnd s) 1 := rfl
        rw [eG] at q1 q2 qs
        rw [eR] at q1 qs
        dsimp only at qs
        clear eG eR h0
        generalize frCode s = co at q1 q2 ⊢
        generalize frChan s = ch at q1 q2 ⊢
        generalize ttA 4 (fr2 s) = da at q1 q2 qs ⊢
        generalize takeR (frEnd s) 1 = r at q1 qs ⊢
        have y4 := Bx.new w4 23 [.int .i64 co, .int .i64 ch, .string da]
        have hb5 := hb4.alloc hb4.size (.cells [.int .i64 co, .int .i64 ch, .string da].toArray 23)
        have B := frbytes_ok ⟨co, ch, da⟩ _ (hw.below hb5) (hk.below hb5) q2
        unfold encFr at B
        dsimp only at B
        have hz := frB_size q2
        dsimp only at hz
        go_wp2_with fail
        refine B.mono ?_
        rintro e w5 ⟨rfl, hb⟩
        have y5 := y4.kept hb
        have hb6 := hb5.trans (hb.mono hb5.size)
        have R := right_any ⟨co, ch, da⟩ w5 (hk.below hb6)
        rw [q2] at R
        unfold encFr at R
        dsimp only at R
        clear B y4 hb hb5 q2
        have k0 := y5.cell 0 (by simp)
        have k1 := y5.cell 1 (by simp)
        have k2 := y5.cell 2 (by simp)
        dsimp only [List.getElem_cons_zero, List.getElem_cons_succ] at k0 k1 k2
        generalize frB ⟨co, ch, da⟩ = b at q1 hz ⊢
        have z2 : b.size + r.size ≤ 9223372036854775807 := by omega
        have z3 : ((b ++ r).toList == s.toList) = true := by rw [q1]; simp
        clear q1 qs hz
        go_wp2_with fail
        refine R.mono ?_
        rintro e w6 ⟨rfl, hb⟩
        go_wp2
        go_ret
        exact ⟨rfl, hb6.trans (hb.mono hb6.size)⟩
      · rw [frTakeV_bad rfl h0]
        have t1 : (frE s 4096 != 0) = true := by simpa using h0
        clear h0
        generalize frE s 4096 = x at t1 ⊢
        have hb5 := hb4.alloc hb4.size (.cells #[.int .i64 0, .int .i64 0, .string ⟨#[]⟩] 23)
        have B := frbytes_bad frNone _ (hk.below hb5) none_right
        unfold encFr frNone at B
        dsimp only at B
        go_wp2_with fail
        refine B.mono ?_
        rintro e w5 ⟨rfl, hb⟩
        go_wp2
        go_ret
        exact ⟨rfl, hb5.trans (hb.mono hb5.size)⟩
end Go.Proofs.YtjpijggbkiihhaaDoor
