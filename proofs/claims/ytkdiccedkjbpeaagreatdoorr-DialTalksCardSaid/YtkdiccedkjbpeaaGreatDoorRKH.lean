/-
  Several texts joined in one file: each says at its own head, below, what it proves, and its conditions.
-/
import Derived.Test.YtkdiccedkjbpeaaGreatDoorRWWays
import Derived.Deep.DeepCutAuto
import Derived.Test.YtkdiccedkjbpeaaGreatDoorRWServe6
import Derived.Test.YtkdiccedkjbpeaaGreatDoorRWDial0
/-
  dial.steps makes a map that has, at the number of each state, the method by which a method is taken. No condition.
-/
namespace Go.Proofs.YtkdiccedkjbpeaaGreatDoorR
open Go.RowKit Go.Maps

theorem dLawInt : Keyed Tryz.prog 3 := int_keyed Tryz.underlying3
theorem dZeroStep (w : World) : (zeroValue 55).run Tryz.prog w = .ok .nilFunc w := by kernel_rfl
def dStepsD : DataW Unit := ((((((DataW.map []).put (.int .i64 1) (.lit (.int .i64 30))).put (.int .i64 2) (.lit (.int .i64 31))).put (.int .i64 3) (.lit (.int .i64 32))).put (.int .i64 4) (.lit (.int .i64 33))).put (.int .i64 5) (.lit (.int .i64 34))).put (.int .i64 6) (.lit (.int .i64 34))
def dFn (st : Int) : Nat := if st = 1 then 30 else if st = 2 then 31 else if st = 3 then 32 else if st = 4 then 33 else if st = 5 then 34 else 34
def DSteps (w : World) (M : Nat) : Prop := w.ownsMap Tryz.prog 3 funcElem M 6 dStepsD
theorem dWf_i64 {x : Int} (h : -9223372036854775808 ≤ x ∧ x ≤ 9223372036854775807) : (Lit.int .i64 x).wf = true := by
  simp [Lit.wf, IntKind.min, IntKind.max, IntKind.signed, IntKind.bits]
  omega
theorem dStep_in {st : Int} (h : 1 ≤ st ∧ st ≤ 6) : st = 1 ∨ st = 2 ∨ st = 3 ∨ st = 4 ∨ st = 5 ∨ st = 6 := by omega
theorem dSteps_out {st : Int} (h : ¬ (1 ≤ st ∧ st ≤ 6)) : Maps.has dStepsD (.int .i64 st) = false := by
  refine Maps.has_false_of_atKey fun z => ?_
  have h1 : (Lit.int .i64 st) ≠ .int .i64 1 := fun e => by simp at e; omega
  have h2 : (Lit.int .i64 st) ≠ .int .i64 2 := fun e => by simp at e; omega
  have h3 : (Lit.int .i64 st) ≠ .int .i64 3 := fun e => by simp at e; omega
  have h4 : (Lit.int .i64 st) ≠ .int .i64 4 := fun e => by simp at e; omega
  have h5 : (Lit.int .i64 st) ≠ .int .i64 5 := fun e => by simp at e; omega
  have h6 : (Lit.int .i64 st) ≠ .int .i64 6 := fun e => by simp at e; omega
  rw [dStepsD, Maps.atKey_put_other h6, Maps.atKey_put_other h5, Maps.atKey_put_other h4, Maps.atKey_put_other h3, Maps.atKey_put_other h2, Maps.atKey_put_other h1]
  rfl
theorem DSteps.look {w : World} {M : Nat} (h : DSteps w M) (st : Int) (hb : -9223372036854775808 ≤ st ∧ st ≤ 9223372036854775807) : ∃ v, (Instr.lookup 57 (.map (some M)) (.int .i64 st) true).run Tryz.prog w = .ok (.tuple #[v, .bool (decide (1 ≤ st ∧ st ≤ 6))]) w ∧ ((1 ≤ st ∧ st ≤ 6) → v = .func (.func (dFn st)) #[] #[]) := by
  obtain ⟨v, ps, hrun, hv⟩ := World.ownsMap.look_ok h dLawInt Tryz.underlying57 (dZeroStep w) (zd := .lit (.int .i64 (-1))) (zp := []) rfl (keyOf_int_mk (q := .i64) (a := st) Tryz.underlying3 (dWf_i64 hb))
  by_cases hs : 1 ≤ st ∧ st ≤ 6
  · have hh : Maps.has dStepsD (.int .i64 st) = true := by
      rcases dStep_in hs with rfl | rfl | rfl | rfl | rfl | rfl <;> kernel_rfl
    have ha : dStepsD.atKey (.int .i64 st) (.lit (.int .i64 (-1))) = .lit (.int .i64 ((dFn st : Nat) : Int)) := by
      rcases dStep_in hs with rfl | rfl | rfl | rfl | rfl | rfl <;> kernel_rfl
    rw [hh] at hrun
    rw [ha] at hv
    exact ⟨v, by rw [decide_eq_true hs]; exact hrun, fun _ => funcElem_inv hv⟩
  · rw [dSteps_out hs] at hrun
    exact ⟨v, by rw [decide_eq_false hs]; exact hrun, fun h' => absurd h' hs⟩

set_option maxRecDepth 100000 in
set_option maxHeartbeats 2000000 in
theorem dSteps_any (w : World) :
    Calls Tryz.prog 22 #[] w fun e w' => e = .returned (.map (some w.heap.size)) ∧ DSteps w' w.heap.size ∧ Below w.heap.size w w' := by
  have hmm := @run_makeMap Tryz.prog
  have hm0 := World.ownsMap_made w Tryz.prog 3 funcElem
  have hb0 : Below w.heap.size w (w.alloc (.map #[] 0)) := (Below.refl _ _).alloc (Nat.le_refl _) _
  obtain ⟨w1, hr1, hm1, hg1⟩ := hm0.update (t := 57) (e := 55) dLawInt Tryz.underlying57 (by decide) (keyOf_int_mk (q := .i64) (a := 1) Tryz.underlying3 (by decide)) (funcElem_mk 30)
  have hb1 := hb0.grown hg1 hb0.size (fun k e => by cases e; exact Nat.le_refl _)
  clear hm0 hg1 hb0
  obtain ⟨w2, hr2, hm2, hg2⟩ := hm1.update (t := 57) (e := 55) dLawInt Tryz.underlying57 (by decide) (keyOf_int_mk (q := .i64) (a := 2) Tryz.underlying3 (by decide)) (funcElem_mk 31)
  have hb2 := hb1.grown hg2 hb1.size (fun k e => by cases e; exact Nat.le_refl _)
  clear hm1 hg2 hb1
  obtain ⟨w3, hr3, hm3, hg3⟩ := hm2.update (t := 57) (e := 55) dLawInt Tryz.underlying57 (by decide) (keyOf_int_mk (q := .i64) (a := 3) Tryz.underlying3 (by decide)) (funcElem_mk 32)
  have hb3 := hb2.grown hg3 hb2.size (fun k e => by cases e; exact Nat.le_refl _)
  clear hm2 hg3 hb2
  obtain ⟨w4, hr4, hm4, hg4⟩ := hm3.update (t := 57) (e := 55) dLawInt Tryz.underlying57 (by decide) (keyOf_int_mk (q := .i64) (a := 4) Tryz.underlying3 (by decide)) (funcElem_mk 33)
  have hb4 := hb3.grown hg4 hb3.size (fun k e => by cases e; exact Nat.le_refl _)
  clear hm3 hg4 hb3
  obtain ⟨w5, hr5, hm5, hg5⟩ := hm4.update (t := 57) (e := 55) dLawInt Tryz.underlying57 (by decide) (keyOf_int_mk (q := .i64) (a := 5) Tryz.underlying3 (by decide)) (funcElem_mk 34)
  have hb5 := hb4.grown hg5 hb4.size (fun k e => by cases e; exact Nat.le_refl _)
  clear hm4 hg5 hb4
  obtain ⟨w6, hr6, hm6, hg6⟩ := hm5.update (t := 57) (e := 55) dLawInt Tryz.underlying57 (by decide) (keyOf_int_mk (q := .i64) (a := 6) Tryz.underlying3 (by decide)) (funcElem_mk 34)
  have hb6 := hb5.grown hg6 hb5.size (fun k e => by cases e; exact Nat.le_refl _)
  clear hm5 hg6 hb5
  go_enter Tryz.func22, Tryz.ntmps22
  go_wp2
  go_ret
  exact ⟨rfl, hm6, hb6⟩
end Go.Proofs.YtkdiccedkjbpeaaGreatDoorR

/-
  dial.Take, state by state: what the state's taking answers; a method that isn't right is refused with 7, a state that is none with 16; nothing that was there is changed. Conditions: the table of widths is as its text lays it; the method's values are numbers and texts of fewer than 2^47 bytes, and lie in old memory; the state is a number of 64 bits.
-/
namespace Go.Proofs.YtkdiccedkjbpeaaGreatDoorR
open Go.RowKit

theorem dBelow_named {n : Nat} {w w' : World} (_ : Below n w w') : ∃ x, x = w' := ⟨_, rfl⟩
set_option maxRecDepth 100000 in
set_option maxHeartbeats 4000000 in
theorem dTake_bad (h : Hd) (m : Me) (A : Option Addr) (cap : Nat) (w : World) (hw : Wid w) (hv : wfM m) (hA : ValsAt w A (rowV m.l)) (hE : ¬ mE m = 0) : Calls Tryz.prog 10 #[encHd h, encM m A cap] w (DnPost (dRefuse h 7) w) := by
  obtain ⟨st, ch, fr, bt, us, wo, ho⟩ := h
  obtain ⟨mc, mi, ml⟩ := m
  unfold encHd encM
  dsimp only
  obtain ⟨r, HG⟩ : ∃ r, Hid (r = dRefuse ⟨st, ch, fr, bt, us, wo, ho⟩ 7) := ⟨_, Lib.hid rfl⟩
  rw [← HG.out]
  unfold DnPost
  obtain ⟨W0, hW0⟩ : ∃ W0, W0 = ((w.alloc (.cells #[.int .i64 st, .int .i64 ch, .int .i64 fr, .int .i64 bt, .string us, .string wo, .string ho] 28)).alloc (.cells #[.int .i64 mc, .int .i64 mi, .slice A ml.length cap] 39)).alloc (.cells #[.int .i64 0, .int .i64 0, .int .i64 0, .int .i64 0, .string ⟨#[]⟩, .string ⟨#[]⟩, .string ⟨#[]⟩] 28) := ⟨_, rfl⟩
  have hb0 : Below w.heap.size w W0 := by rw [hW0]; exact (((Below.refl _ w).alloc (Nat.le_refl _) _).alloc (by simp) _).alloc (by simp; omega) _
  have hs0 : W0.heap.size = w.heap.size + 1 + 1 + 1 := by rw [hW0]; simp
  have hx : Bx W0 w.heap.size 28 [.int .i64 st, .int .i64 ch, .int .i64 fr, .int .i64 bt, .string us, .string wo, .string ho] := by rw [hW0]; exact ((Bx.new w 28 [.int .i64 st, .int .i64 ch, .int .i64 fr, .int .i64 bt, .string us, .string wo, .string ho]).alloc _).alloc _
  have hm : Bx W0 (w.heap.size + 1) 39 [.int .i64 mc, .int .i64 mi, .slice A ml.length cap] := by
    have h := (Bx.new (w.alloc (.cells #[.int .i64 st, .int .i64 ch, .int .i64 fr, .int .i64 bt, .string us, .string wo, .string ho] 28)) 39 [.int .i64 mc, .int .i64 mi, .slice A ml.length cap]).alloc (.cells #[.int .i64 0, .int .i64 0, .int .i64 0, .int .i64 0, .string ⟨#[]⟩, .string ⟨#[]⟩, .string ⟨#[]⟩] 28)
    rw [World.size_alloc] at h
    rw [hW0]; exact h
  have hr : Bx W0 (w.heap.size + 1 + 1) 28 [.int .i64 0, .int .i64 0, .int .i64 0, .int .i64 0, .string ⟨#[]⟩, .string ⟨#[]⟩, .string ⟨#[]⟩] := by
    have h := Bx.new ((w.alloc (.cells #[.int .i64 st, .int .i64 ch, .int .i64 fr, .int .i64 bt, .string us, .string wo, .string ho] 28)).alloc (.cells #[.int .i64 mc, .int .i64 mi, .slice A ml.length cap] 39)) 28 [.int .i64 0, .int .i64 0, .int .i64 0, .int .i64 0, .string ⟨#[]⟩, .string ⟨#[]⟩, .string ⟨#[]⟩]
    rw [World.size_alloc, World.size_alloc] at h
    rw [hW0]; exact h
  have hRi := mright_any ⟨mc, mi, ml⟩ A cap W0 (hw.below hb0) hv (hA.below hb0)
  unfold encM at hRi
  have e1 : (mE ⟨mc, mi, ml⟩ != 0) = true := bne_iff_ne.2 hE
  generalize mE ⟨mc, mi, ml⟩ = x at hRi e1 hE
  try unfold encHd at *
  try dsimp only at *
  clear hw hv hA
  go_enter Tryz.func10, Tryz.ntmps10
  go_wp2_with fail
  rw [← hW0]
  clear hW0
  with_reducible refine hRi.mono ?_
  rintro e w1 ⟨rfl, hb1⟩
  have hB := hb0.trans (hb1.mono hb0.size)
  replace hx := hx.kept hb1
  replace hm := hm.kept hb1
  replace hr := hr.kept hb1
  clear hRi hb1 hb0
  obtain ⟨x0, x1, x2, x3, x4, x5, x6⟩ := hx.seven
  obtain ⟨a0, f0, a1, f1, a2, f2, a3, f3, a4, f4, a5, f5, a6, f6, bR⟩ := hr.store7 (.int .i64 st) (.int .i64 ch) (.int .i64 fr) (.int .i64 bt) (.string us) (.string wo) (.string ho)
  have hBz := below_store7 hB (B := w.heap.size + 1 + 1) (by omega) (.int .i64 st) (.int .i64 ch) (.int .i64 fr) (.int .i64 bt) (.string us) (.string wo) (.string ho)
  have HS := Lib.hid (DSaid.store7 (w := w1) (n' := w.heap.size) (n := w.heap.size + 1 + 1 + 1) (l := []) (A := none) (k := 0) ⟨rfl, rfl⟩ (by omega) (B := w.heap.size + 1 + 1) (by omega) (.int .i64 st) (.int .i64 ch) (.int .i64 fr) (.int .i64 bt) (.string us) (.string wo) (.string ho))
  obtain ⟨y0, y1, y2, y3, y4, y5, y6⟩ := bR.seven
  clear bR hx hm hr hs0 hB 
  go_wp2
  first | refine bodyPost_ret (v := .tuple #[.agg #[.int .i64 st, .int .i64 ch, .int .i64 fr, .int .i64 bt, .string us, .string wo, .string ho], .slice none 0 0, .int .i64 7]) ?_ rfl ⟨none, 0, 0, by rw [HG.out] <;> rfl, by rw [HG.out]; exact HS.out, hBz⟩ | refine bodyPost_ret (v := .tuple #[.agg #[.int .i64 st, .int .i64 ch, .int .i64 fr, .int .i64 bt, .string us, .string wo, .string ho], .slice none 0 0, .int .i64 7]) ?_ rfl ⟨none, 0, ⟨0, by rw [HG.out] <;> rfl⟩, by rw [HG.out]; exact HS.out, hBz⟩
  rw [results_ctt rfl]
  simp [asAddr, Result.andThen, go_sem, y0, y1, y2, y3, y4, y5, y6]
set_option maxRecDepth 100000 in
set_option maxHeartbeats 4000000 in
theorem dTake_out (h : Hd) (m : Me) (A : Option Addr) (cap : Nat) (w : World) (hw : Wid w) (hv : wfM m) (hA : ValsAt w A (rowV m.l)) (hE : mE m = 0) (hb : -9223372036854775808 ≤ h.st ∧ h.st ≤ 9223372036854775807) (hst : ¬ (1 ≤ h.st ∧ h.st ≤ 6)) : Calls Tryz.prog 10 #[encHd h, encM m A cap] w (DnPost (dRefuse h 16) w) := by
  obtain ⟨st, ch, fr, bt, us, wo, ho⟩ := h
  obtain ⟨mc, mi, ml⟩ := m
  unfold encHd encM
  dsimp only
  obtain ⟨r, HG⟩ : ∃ r, Hid (r = dRefuse ⟨st, ch, fr, bt, us, wo, ho⟩ 16) := ⟨_, Lib.hid rfl⟩
  rw [← HG.out]
  unfold DnPost
  obtain ⟨W0, hW0⟩ : ∃ W0, W0 = ((w.alloc (.cells #[.int .i64 st, .int .i64 ch, .int .i64 fr, .int .i64 bt, .string us, .string wo, .string ho] 28)).alloc (.cells #[.int .i64 mc, .int .i64 mi, .slice A ml.length cap] 39)).alloc (.cells #[.int .i64 0, .int .i64 0, .int .i64 0, .int .i64 0, .string ⟨#[]⟩, .string ⟨#[]⟩, .string ⟨#[]⟩] 28) := ⟨_, rfl⟩
  have hb0 : Below w.heap.size w W0 := by rw [hW0]; exact (((Below.refl _ w).alloc (Nat.le_refl _) _).alloc (by simp) _).alloc (by simp; omega) _
  have hs0 : W0.heap.size = w.heap.size + 1 + 1 + 1 := by rw [hW0]; simp
  have hx : Bx W0 w.heap.size 28 [.int .i64 st, .int .i64 ch, .int .i64 fr, .int .i64 bt, .string us, .string wo, .string ho] := by rw [hW0]; exact ((Bx.new w 28 [.int .i64 st, .int .i64 ch, .int .i64 fr, .int .i64 bt, .string us, .string wo, .string ho]).alloc _).alloc _
  have hm : Bx W0 (w.heap.size + 1) 39 [.int .i64 mc, .int .i64 mi, .slice A ml.length cap] := by
    have h := (Bx.new (w.alloc (.cells #[.int .i64 st, .int .i64 ch, .int .i64 fr, .int .i64 bt, .string us, .string wo, .string ho] 28)) 39 [.int .i64 mc, .int .i64 mi, .slice A ml.length cap]).alloc (.cells #[.int .i64 0, .int .i64 0, .int .i64 0, .int .i64 0, .string ⟨#[]⟩, .string ⟨#[]⟩, .string ⟨#[]⟩] 28)
    rw [World.size_alloc] at h
    rw [hW0]; exact h
  have hr : Bx W0 (w.heap.size + 1 + 1) 28 [.int .i64 0, .int .i64 0, .int .i64 0, .int .i64 0, .string ⟨#[]⟩, .string ⟨#[]⟩, .string ⟨#[]⟩] := by
    have h := Bx.new ((w.alloc (.cells #[.int .i64 st, .int .i64 ch, .int .i64 fr, .int .i64 bt, .string us, .string wo, .string ho] 28)).alloc (.cells #[.int .i64 mc, .int .i64 mi, .slice A ml.length cap] 39)) 28 [.int .i64 0, .int .i64 0, .int .i64 0, .int .i64 0, .string ⟨#[]⟩, .string ⟨#[]⟩, .string ⟨#[]⟩]
    rw [World.size_alloc, World.size_alloc] at h
    rw [hW0]; exact h
  have hRi := mright_any ⟨mc, mi, ml⟩ A cap W0 (hw.below hb0) hv (hA.below hb0)
  unfold encM at hRi
  rw [hE] at hRi
  have hLk : ∀ W M, DSteps W M → ∃ v, (Instr.lookup 57 (.map (some M)) (.int .i64 st) true).run Tryz.prog W = .ok (.tuple #[v, .bool false]) W := fun W M h => by
    obtain ⟨v, h1, -⟩ := h.look st hb
    rw [decide_eq_false hst] at h1
    exact ⟨v, h1⟩
  try unfold encHd at *
  try dsimp only at *
  clear hw hv hA hb hst hE
  go_enter Tryz.func10, Tryz.ntmps10
  go_wp2_with fail
  rw [← hW0]
  clear hW0
  with_reducible refine hRi.mono ?_
  rintro e w1 ⟨rfl, hb1⟩
  have hB := hb0.trans (hb1.mono hb0.size)
  replace hx := hx.kept hb1
  replace hm := hm.kept hb1
  replace hr := hr.kept hb1
  clear hRi hb1 hb0
  have hSt := fun W => dSteps_any W
  obtain ⟨x0, x1, x2, x3, x4, x5, x6⟩ := hx.seven
  go_upto_region 3 with fail
  clear x0 x1 x2 x3 x4 x5 x6
  have keep : ∀ w', Below w1.heap.size w1 w' → w'.cell? ⟨w.heap.size, 0, none⟩ = some (.int .i64 st) := fun w' h => ((hx.kept h).seven).1
  have x0 := keep w1 (Below.refl _ _)
  go_cut [7, 8] (fun v o wx => o = .bool false ∧ Below w1.heap.size w1 wx)
  case first =>
    go_region_with (first | (go_at_call 22; refine (hSt _).mono ?_; rintro e w4 ⟨rfl, hM, hb4⟩; obtain ⟨v4, k4⟩ := hLk w4 w1.heap.size hM; obtain ⟨v5, k5⟩ := hLk w4.drew w1.heap.size hM; obtain ⟨v6, k6⟩ := hLk w4.drew.drew w1.heap.size hM; have z0 := keep w4 (Below.trans (by repeat (first | exact Below.refl _ _ | refine Below.drew ?_)) (hb4.mono (by simp)))))
    all_goals
      have hU : Below w1.heap.size w1 w4 := Below.trans (by repeat (first | exact Below.refl _ _ | refine Below.drew ?_)) (hb4.mono (by simp))
      go_wp2_with fail
      go_meet
      exact ⟨rfl, by repeat (first | exact hU | refine Below.drew ?_)⟩
  case rest =>
    obtain ⟨rfl, hbc⟩ := hcut
    obtain ⟨wC, hwC⟩ := dBelow_named hbc
    subst hwC
    have hB2 := hB.trans (hbc.mono hB.size)
    replace hx := hx.kept hbc
    replace hm := hm.kept hbc
    replace hr := hr.kept hbc
    clear keep x0 hLk hSt hbc hB
    obtain ⟨x0, x1, x2, x3, x4, x5, x6⟩ := hx.seven
    obtain ⟨a0, f0, a1, f1, a2, f2, a3, f3, a4, f4, a5, f5, a6, f6, bR⟩ := hr.store7 (.int .i64 st) (.int .i64 ch) (.int .i64 fr) (.int .i64 bt) (.string us) (.string wo) (.string ho)
    have hBz := below_store7 hB2 (B := w.heap.size + 1 + 1) (by omega) (.int .i64 st) (.int .i64 ch) (.int .i64 fr) (.int .i64 bt) (.string us) (.string wo) (.string ho)
    have HS := Lib.hid (DSaid.store7 (w := wC) (n' := w.heap.size) (n := w.heap.size + 1 + 1 + 1) (l := []) (A := none) (k := 0) ⟨rfl, rfl⟩ (by omega) (B := w.heap.size + 1 + 1) (by omega) (.int .i64 st) (.int .i64 ch) (.int .i64 fr) (.int .i64 bt) (.string us) (.string wo) (.string ho))
    obtain ⟨y0, y1, y2, y3, y4, y5, y6⟩ := bR.seven
    clear bR hx hm hr hs0 hB2 
    go_wp2
    first | refine bodyPost_ret (v := .tuple #[.agg #[.int .i64 st, .int .i64 ch, .int .i64 fr, .int .i64 bt, .string us, .string wo, .string ho], .slice none 0 0, .int .i64 16]) ?_ rfl ⟨none, 0, 0, by rw [HG.out] <;> rfl, by rw [HG.out]; exact HS.out, hBz⟩ | refine bodyPost_ret (v := .tuple #[.agg #[.int .i64 st, .int .i64 ch, .int .i64 fr, .int .i64 bt, .string us, .string wo, .string ho], .slice none 0 0, .int .i64 16]) ?_ rfl ⟨none, 0, ⟨0, by rw [HG.out] <;> rfl⟩, by rw [HG.out]; exact HS.out, hBz⟩
    rw [results_ctt rfl]
    simp [asAddr, Result.andThen, go_sem, y0, y1, y2, y3, y4, y5, y6]
end Go.Proofs.YtkdiccedkjbpeaaGreatDoorR

/-
  dial.Take in a state that is one: what the state's taking answers; nothing that was there is changed. Conditions: as WDial4 has them.
-/
namespace Go.Proofs.YtkdiccedkjbpeaaGreatDoorR
open Go.RowKit

set_option maxRecDepth 100000 in
set_option maxHeartbeats 4000000 in
theorem dTake_1 (h : Hd) (m : Me) (A : Option Addr) (cap : Nat) (w : World) (hw : Wid w) (hv : wfM m) (hA : ValsAt w A (rowV m.l)) (hE : mE m = 0) (hst : h.st = 1) (r : Dn) (hC : ∀ W, Below w.heap.size w W → Calls Tryz.prog 30 #[encHd h, encM m A cap] W (DnPost r W)) : Calls Tryz.prog 10 #[encHd h, encM m A cap] w (DnPost r w) := by
  obtain ⟨st, ch, fr, bt, us, wo, ho⟩ := h
  obtain ⟨mc, mi, ml⟩ := m
  unfold encHd encM
  dsimp only
  unfold DnPost
  obtain ⟨r2, HG⟩ : ∃ r2, Hid (r = r2) := ⟨r, Lib.hid rfl⟩
  obtain ⟨W0, hW0⟩ : ∃ W0, W0 = ((w.alloc (.cells #[.int .i64 st, .int .i64 ch, .int .i64 fr, .int .i64 bt, .string us, .string wo, .string ho] 28)).alloc (.cells #[.int .i64 mc, .int .i64 mi, .slice A ml.length cap] 39)).alloc (.cells #[.int .i64 0, .int .i64 0, .int .i64 0, .int .i64 0, .string ⟨#[]⟩, .string ⟨#[]⟩, .string ⟨#[]⟩] 28) := ⟨_, rfl⟩
  have hb0 : Below w.heap.size w W0 := by rw [hW0]; exact (((Below.refl _ w).alloc (Nat.le_refl _) _).alloc (by simp) _).alloc (by simp; omega) _
  have hs0 : W0.heap.size = w.heap.size + 1 + 1 + 1 := by rw [hW0]; simp
  have hx : Bx W0 w.heap.size 28 [.int .i64 st, .int .i64 ch, .int .i64 fr, .int .i64 bt, .string us, .string wo, .string ho] := by rw [hW0]; exact ((Bx.new w 28 [.int .i64 st, .int .i64 ch, .int .i64 fr, .int .i64 bt, .string us, .string wo, .string ho]).alloc _).alloc _
  have hm : Bx W0 (w.heap.size + 1) 39 [.int .i64 mc, .int .i64 mi, .slice A ml.length cap] := by
    have h := (Bx.new (w.alloc (.cells #[.int .i64 st, .int .i64 ch, .int .i64 fr, .int .i64 bt, .string us, .string wo, .string ho] 28)) 39 [.int .i64 mc, .int .i64 mi, .slice A ml.length cap]).alloc (.cells #[.int .i64 0, .int .i64 0, .int .i64 0, .int .i64 0, .string ⟨#[]⟩, .string ⟨#[]⟩, .string ⟨#[]⟩] 28)
    rw [World.size_alloc] at h
    rw [hW0]; exact h
  have hr : Bx W0 (w.heap.size + 1 + 1) 28 [.int .i64 0, .int .i64 0, .int .i64 0, .int .i64 0, .string ⟨#[]⟩, .string ⟨#[]⟩, .string ⟨#[]⟩] := by
    have h := Bx.new ((w.alloc (.cells #[.int .i64 st, .int .i64 ch, .int .i64 fr, .int .i64 bt, .string us, .string wo, .string ho] 28)).alloc (.cells #[.int .i64 mc, .int .i64 mi, .slice A ml.length cap] 39)) 28 [.int .i64 0, .int .i64 0, .int .i64 0, .int .i64 0, .string ⟨#[]⟩, .string ⟨#[]⟩, .string ⟨#[]⟩]
    rw [World.size_alloc, World.size_alloc] at h
    rw [hW0]; exact h
  have hRi := mright_any ⟨mc, mi, ml⟩ A cap W0 (hw.below hb0) hv (hA.below hb0)
  unfold encM at hRi
  rw [hE] at hRi
  unfold encHd encM DnPost at hC
  have hLk : ∀ W M, DSteps W M → (Instr.lookup 57 (.map (some M)) (.int .i64 1) true).run Tryz.prog W = .ok (.tuple #[.func (.func 30) #[] #[], .bool true]) W := fun W M h => by
    obtain ⟨v, h1, h2⟩ := h.look 1 ⟨by decide, by decide⟩
    rw [show decide ((1 : Int) ≤ 1 ∧ (1 : Int) ≤ 6) = true from rfl] at h1
    rw [h1, h2 ⟨by decide, by decide⟩]
    rfl
  try unfold encHd at *
  try dsimp only at *
  rw [HG.out] at hC
  obtain ⟨⟨p0, p1, p2, p3, p4, p5, p6⟩, ps, pe⟩ := r2
  dsimp only at hC
  subst hst
  clear hw hv hA hE
  go_enter Tryz.func10, Tryz.ntmps10
  go_wp2_with fail
  rw [← hW0]
  clear hW0
  with_reducible refine hRi.mono ?_
  rintro e w1 ⟨rfl, hb1⟩
  have hB := hb0.trans (hb1.mono hb0.size)
  replace hx := hx.kept hb1
  replace hm := hm.kept hb1
  replace hr := hr.kept hb1
  clear hRi hb1 hb0
  have hSt := fun W => dSteps_any W
  obtain ⟨x0, x1, x2, x3, x4, x5, x6⟩ := hx.seven
  go_upto_region 3 with fail
  clear x0 x1 x2 x3 x4 x5 x6
  have keep : ∀ w', Below w1.heap.size w1 w' → w'.cell? ⟨w.heap.size, 0, none⟩ = some (.int .i64 1) := fun w' h => ((hx.kept h).seven).1
  have x0 := keep w1 (Below.refl _ _)
  go_cut [7, 8] (fun v o wx => v = .func (.func 30) #[] #[] ∧ o = .bool true ∧ Below w1.heap.size w1 wx)
  case first =>
    clear hC
    go_region_with (first | (go_at_call 22; refine (hSt _).mono ?_; rintro e w4 ⟨rfl, hM, hb4⟩; have k4 := hLk w4 w1.heap.size hM; have k5 := hLk w4.drew w1.heap.size hM; have k6 := hLk w4.drew.drew w1.heap.size hM; have z0 := keep w4 (Below.trans (by repeat (first | exact Below.refl _ _ | refine Below.drew ?_)) (hb4.mono (by simp)))))
    all_goals
      have hU : Below w1.heap.size w1 w4 := Below.trans (by repeat (first | exact Below.refl _ _ | refine Below.drew ?_)) (hb4.mono (by simp))
      go_wp2_with fail
      go_meet
      exact ⟨rfl, rfl, by repeat (first | exact hU | refine Below.drew ?_)⟩
  case rest =>
    obtain ⟨rfl, rfl, hbc⟩ := hcut
    obtain ⟨wC, hwC⟩ := dBelow_named hbc
    subst hwC
    have hB2 := hB.trans (hbc.mono hB.size)
    replace hx := hx.kept hbc
    replace hm := hm.kept hbc
    replace hr := hr.kept hbc
    clear keep x0 hLk hSt hbc hB
    have hC1 := hC wC hB2
    obtain ⟨x0, x1, x2, x3, x4, x5, x6⟩ := hx.seven
    obtain ⟨m0, m1, m2⟩ := hm.three
    go_wp2_with fail
    with_reducible refine hC1.mono ?_
    rintro e w9 ⟨A9, k9, c9, rfl, hS, hb9⟩
    have hB9 := hB2.trans (hb9.mono hB2.size)
    have hlt := hr.lt
    replace hr := hr.kept hb9
    clear hC x0 x1 x2 x3 x4 x5 x6 m0 m1 m2
    obtain ⟨a0, f0, a1, f1, a2, f2, a3, f3, a4, f4, a5, f5, a6, f6, bR⟩ := hr.store7 (.int .i64 p0) (.int .i64 p1) (.int .i64 p2) (.int .i64 p3) (.string p4) (.string p5) (.string p6)
    have hBz := below_store7 hB9 (B := w.heap.size + 1 + 1) (by omega) (.int .i64 p0) (.int .i64 p1) (.int .i64 p2) (.int .i64 p3) (.string p4) (.string p5) (.string p6)
    have HS := Lib.hid (DSaid.store7 (w := w9) (n' := w.heap.size) hS (by omega) (B := w.heap.size + 1 + 1) (by omega) (.int .i64 p0) (.int .i64 p1) (.int .i64 p2) (.int .i64 p3) (.string p4) (.string p5) (.string p6))
    obtain ⟨y0, y1, y2, y3, y4, y5, y6⟩ := bR.seven
    clear bR hx hm hr hs0 hB9 hC1
    go_wp2
    first | refine bodyPost_ret (v := .tuple #[.agg #[.int .i64 p0, .int .i64 p1, .int .i64 p2, .int .i64 p3, .string p4, .string p5, .string p6], .slice A9 k9 c9, .int .i64 pe]) ?_ rfl ⟨A9, k9, c9, by rw [HG.out] <;> rfl, by rw [HG.out]; exact HS.out, hBz⟩ | refine bodyPost_ret (v := .tuple #[.agg #[.int .i64 p0, .int .i64 p1, .int .i64 p2, .int .i64 p3, .string p4, .string p5, .string p6], .slice A9 k9 c9, .int .i64 pe]) ?_ rfl ⟨A9, k9, ⟨c9, by rw [HG.out] <;> rfl⟩, by rw [HG.out]; exact HS.out, hBz⟩
    rw [results_ctt rfl]
    simp [asAddr, Result.andThen, go_sem, y0, y1, y2, y3, y4, y5, y6]
set_option maxRecDepth 100000 in
set_option maxHeartbeats 4000000 in
theorem dTake_2 (h : Hd) (m : Me) (A : Option Addr) (cap : Nat) (w : World) (hw : Wid w) (hv : wfM m) (hA : ValsAt w A (rowV m.l)) (hE : mE m = 0) (hst : h.st = 2) (r : Dn) (hC : ∀ W, Below w.heap.size w W → Calls Tryz.prog 31 #[encHd h, encM m A cap] W (DnPost r W)) : Calls Tryz.prog 10 #[encHd h, encM m A cap] w (DnPost r w) := by
  obtain ⟨st, ch, fr, bt, us, wo, ho⟩ := h
  obtain ⟨mc, mi, ml⟩ := m
  unfold encHd encM
  dsimp only
  unfold DnPost
  obtain ⟨r2, HG⟩ : ∃ r2, Hid (r = r2) := ⟨r, Lib.hid rfl⟩
  obtain ⟨W0, hW0⟩ : ∃ W0, W0 = ((w.alloc (.cells #[.int .i64 st, .int .i64 ch, .int .i64 fr, .int .i64 bt, .string us, .string wo, .string ho] 28)).alloc (.cells #[.int .i64 mc, .int .i64 mi, .slice A ml.length cap] 39)).alloc (.cells #[.int .i64 0, .int .i64 0, .int .i64 0, .int .i64 0, .string ⟨#[]⟩, .string ⟨#[]⟩, .string ⟨#[]⟩] 28) := ⟨_, rfl⟩
  have hb0 : Below w.heap.size w W0 := by rw [hW0]; exact (((Below.refl _ w).alloc (Nat.le_refl _) _).alloc (by simp) _).alloc (by simp; omega) _
  have hs0 : W0.heap.size = w.heap.size + 1 + 1 + 1 := by rw [hW0]; simp
  have hx : Bx W0 w.heap.size 28 [.int .i64 st, .int .i64 ch, .int .i64 fr, .int .i64 bt, .string us, .string wo, .string ho] := by rw [hW0]; exact ((Bx.new w 28 [.int .i64 st, .int .i64 ch, .int .i64 fr, .int .i64 bt, .string us, .string wo, .string ho]).alloc _).alloc _
  have hm : Bx W0 (w.heap.size + 1) 39 [.int .i64 mc, .int .i64 mi, .slice A ml.length cap] := by
    have h := (Bx.new (w.alloc (.cells #[.int .i64 st, .int .i64 ch, .int .i64 fr, .int .i64 bt, .string us, .string wo, .string ho] 28)) 39 [.int .i64 mc, .int .i64 mi, .slice A ml.length cap]).alloc (.cells #[.int .i64 0, .int .i64 0, .int .i64 0, .int .i64 0, .string ⟨#[]⟩, .string ⟨#[]⟩, .string ⟨#[]⟩] 28)
    rw [World.size_alloc] at h
    rw [hW0]; exact h
  have hr : Bx W0 (w.heap.size + 1 + 1) 28 [.int .i64 0, .int .i64 0, .int .i64 0, .int .i64 0, .string ⟨#[]⟩, .string ⟨#[]⟩, .string ⟨#[]⟩] := by
    have h := Bx.new ((w.alloc (.cells #[.int .i64 st, .int .i64 ch, .int .i64 fr, .int .i64 bt, .string us, .string wo, .string ho] 28)).alloc (.cells #[.int .i64 mc, .int .i64 mi, .slice A ml.length cap] 39)) 28 [.int .i64 0, .int .i64 0, .int .i64 0, .int .i64 0, .string ⟨#[]⟩, .string ⟨#[]⟩, .string ⟨#[]⟩]
    rw [World.size_alloc, World.size_alloc] at h
    rw [hW0]; exact h
  have hRi := mright_any ⟨mc, mi, ml⟩ A cap W0 (hw.below hb0) hv (hA.below hb0)
  unfold encM at hRi
  rw [hE] at hRi
  unfold encHd encM DnPost at hC
  have hLk : ∀ W M, DSteps W M → (Instr.lookup 57 (.map (some M)) (.int .i64 2) true).run Tryz.prog W = .ok (.tuple #[.func (.func 31) #[] #[], .bool true]) W := fun W M h => by
    obtain ⟨v, h1, h2⟩ := h.look 2 ⟨by decide, by decide⟩
    rw [show decide ((1 : Int) ≤ 2 ∧ (2 : Int) ≤ 6) = true from rfl] at h1
    rw [h1, h2 ⟨by decide, by decide⟩]
    rfl
  try unfold encHd at *
  try dsimp only at *
  rw [HG.out] at hC
  obtain ⟨⟨p0, p1, p2, p3, p4, p5, p6⟩, ps, pe⟩ := r2
  dsimp only at hC
  subst hst
  clear hw hv hA hE
  go_enter Tryz.func10, Tryz.ntmps10
  go_wp2_with fail
  rw [← hW0]
  clear hW0
  with_reducible refine hRi.mono ?_
  rintro e w1 ⟨rfl, hb1⟩
  have hB := hb0.trans (hb1.mono hb0.size)
  replace hx := hx.kept hb1
  replace hm := hm.kept hb1
  replace hr := hr.kept hb1
  clear hRi hb1 hb0
  have hSt := fun W => dSteps_any W
  obtain ⟨x0, x1, x2, x3, x4, x5, x6⟩ := hx.seven
  go_upto_region 3 with fail
  clear x0 x1 x2 x3 x4 x5 x6
  have keep : ∀ w', Below w1.heap.size w1 w' → w'.cell? ⟨w.heap.size, 0, none⟩ = some (.int .i64 2) := fun w' h => ((hx.kept h).seven).1
  have x0 := keep w1 (Below.refl _ _)
  go_cut [7, 8] (fun v o wx => v = .func (.func 31) #[] #[] ∧ o = .bool true ∧ Below w1.heap.size w1 wx)
  case first =>
    clear hC
    go_region_with (first | (go_at_call 22; refine (hSt _).mono ?_; rintro e w4 ⟨rfl, hM, hb4⟩; have k4 := hLk w4 w1.heap.size hM; have k5 := hLk w4.drew w1.heap.size hM; have k6 := hLk w4.drew.drew w1.heap.size hM; have z0 := keep w4 (Below.trans (by repeat (first | exact Below.refl _ _ | refine Below.drew ?_)) (hb4.mono (by simp)))))
    all_goals
      have hU : Below w1.heap.size w1 w4 := Below.trans (by repeat (first | exact Below.refl _ _ | refine Below.drew ?_)) (hb4.mono (by simp))
      go_wp2_with fail
      go_meet
      exact ⟨rfl, rfl, by repeat (first | exact hU | refine Below.drew ?_)⟩
  case rest =>
    obtain ⟨rfl, rfl, hbc⟩ := hcut
    obtain ⟨wC, hwC⟩ := dBelow_named hbc
    subst hwC
    have hB2 := hB.trans (hbc.mono hB.size)
    replace hx := hx.kept hbc
    replace hm := hm.kept hbc
    replace hr := hr.kept hbc
    clear keep x0 hLk hSt hbc hB
    have hC1 := hC wC hB2
    obtain ⟨x0, x1, x2, x3, x4, x5, x6⟩ := hx.seven
    obtain ⟨m0, m1, m2⟩ := hm.three
    go_wp2_with fail
    with_reducible refine hC1.mono ?_
    rintro e w9 ⟨A9, k9, c9, rfl, hS, hb9⟩
    have hB9 := hB2.trans (hb9.mono hB2.size)
    have hlt := hr.lt
    replace hr := hr.kept hb9
    clear hC x0 x1 x2 x3 x4 x5 x6 m0 m1 m2
    obtain ⟨a0, f0, a1, f1, a2, f2, a3, f3, a4, f4, a5, f5, a6, f6, bR⟩ := hr.store7 (.int .i64 p0) (.int .i64 p1) (.int .i64 p2) (.int .i64 p3) (.string p4) (.string p5) (.string p6)
    have hBz := below_store7 hB9 (B := w.heap.size + 1 + 1) (by omega) (.int .i64 p0) (.int .i64 p1) (.int .i64 p2) (.int .i64 p3) (.string p4) (.string p5) (.string p6)
    have HS := Lib.hid (DSaid.store7 (w := w9) (n' := w.heap.size) hS (by omega) (B := w.heap.size + 1 + 1) (by omega) (.int .i64 p0) (.int .i64 p1) (.int .i64 p2) (.int .i64 p3) (.string p4) (.string p5) (.string p6))
    obtain ⟨y0, y1, y2, y3, y4, y5, y6⟩ := bR.seven
    clear bR hx hm hr hs0 hB9 hC1
    go_wp2
    first | refine bodyPost_ret (v := .tuple #[.agg #[.int .i64 p0, .int .i64 p1, .int .i64 p2, .int .i64 p3, .string p4, .string p5, .string p6], .slice A9 k9 c9, .int .i64 pe]) ?_ rfl ⟨A9, k9, c9, by rw [HG.out] <;> rfl, by rw [HG.out]; exact HS.out, hBz⟩ | refine bodyPost_ret (v := .tuple #[.agg #[.int .i64 p0, .int .i64 p1, .int .i64 p2, .int .i64 p3, .string p4, .string p5, .string p6], .slice A9 k9 c9, .int .i64 pe]) ?_ rfl ⟨A9, k9, ⟨c9, by rw [HG.out] <;> rfl⟩, by rw [HG.out]; exact HS.out, hBz⟩
    rw [results_ctt rfl]
    simp [asAddr, Result.andThen, go_sem, y0, y1, y2, y3, y4, y5, y6]
set_option maxRecDepth 100000 in
set_option maxHeartbeats 4000000 in
theorem dTake_3 (h : Hd) (m : Me) (A : Option Addr) (cap : Nat) (w : World) (hw : Wid w) (hv : wfM m) (hA : ValsAt w A (rowV m.l)) (hE : mE m = 0) (hst : h.st = 3) (r : Dn) (hC : ∀ W, Below w.heap.size w W → Calls Tryz.prog 32 #[encHd h, encM m A cap] W (DnPost r W)) : Calls Tryz.prog 10 #[encHd h, encM m A cap] w (DnPost r w) := by
  obtain ⟨st, ch, fr, bt, us, wo, ho⟩ := h
  obtain ⟨mc, mi, ml⟩ := m
  unfold encHd encM
  dsimp only
  unfold DnPost
  obtain ⟨r2, HG⟩ : ∃ r2, Hid (r = r2) := ⟨r, Lib.hid rfl⟩
  obtain ⟨W0, hW0⟩ : ∃ W0, W0 = ((w.alloc (.cells #[.int .i64 st, .int .i64 ch, .int .i64 fr, .int .i64 bt, .string us, .string wo, .string ho] 28)).alloc (.cells #[.int .i64 mc, .int .i64 mi, .slice A ml.length cap] 39)).alloc (.cells #[.int .i64 0, .int .i64 0, .int .i64 0, .int .i64 0, .string ⟨#[]⟩, .string ⟨#[]⟩, .string ⟨#[]⟩] 28) := ⟨_, rfl⟩
  have hb0 : Below w.heap.size w W0 := by rw [hW0]; exact (((Below.refl _ w).alloc (Nat.le_refl _) _).alloc (by simp) _).alloc (by simp; omega) _
  have hs0 : W0.heap.size = w.heap.size + 1 + 1 + 1 := by rw [hW0]; simp
  have hx : Bx W0 w.heap.size 28 [.int .i64 st, .int .i64 ch, .int .i64 fr, .int .i64 bt, .string us, .string wo, .string ho] := by rw [hW0]; exact ((Bx.new w 28 [.int .i64 st, .int .i64 ch, .int .i64 fr, .int .i64 bt, .string us, .string wo, .string ho]).alloc _).alloc _
  have hm : Bx W0 (w.heap.size + 1) 39 [.int .i64 mc, .int .i64 mi, .slice A ml.length cap] := by
    have h := (Bx.new (w.alloc (.cells #[.int .i64 st, .int .i64 ch, .int .i64 fr, .int .i64 bt, .string us, .string wo, .string ho] 28)) 39 [.int .i64 mc, .int .i64 mi, .slice A ml.length cap]).alloc (.cells #[.int .i64 0, .int .i64 0, .int .i64 0, .int .i64 0, .string ⟨#[]⟩, .string ⟨#[]⟩, .string ⟨#[]⟩] 28)
    rw [World.size_alloc] at h
    rw [hW0]; exact h
  have hr : Bx W0 (w.heap.size + 1 + 1) 28 [.int .i64 0, .int .i64 0, .int .i64 0, .int .i64 0, .string ⟨#[]⟩, .string ⟨#[]⟩, .string ⟨#[]⟩] := by
    have h := Bx.new ((w.alloc (.cells #[.int .i64 st, .int .i64 ch, .int .i64 fr, .int .i64 bt, .string us, .string wo, .string ho] 28)).alloc (.cells #[.int .i64 mc, .int .i64 mi, .slice A ml.length cap] 39)) 28 [.int .i64 0, .int .i64 0, .int .i64 0, .int .i64 0, .string ⟨#[]⟩, .string ⟨#[]⟩, .string ⟨#[]⟩]
    rw [World.size_alloc, World.size_alloc] at h
    rw [hW0]; exact h
  have hRi := mright_any ⟨mc, mi, ml⟩ A cap W0 (hw.below hb0) hv (hA.below hb0)
  unfold encM at hRi
  rw [hE] at hRi
  unfold encHd encM DnPost at hC
  have hLk : ∀ W M, DSteps W M → (Instr.lookup 57 (.map (some M)) (.int .i64 3) true).run Tryz.prog W = .ok (.tuple #[.func (.func 32) #[] #[], .bool true]) W := fun W M h => by
    obtain ⟨v, h1, h2⟩ := h.look 3 ⟨by decide, by decide⟩
    rw [show decide ((1 : Int) ≤ 3 ∧ (3 : Int) ≤ 6) = true from rfl] at h1
    rw [h1, h2 ⟨by decide, by decide⟩]
    rfl
  try unfold encHd at *
  try dsimp only at *
  rw [HG.out] at hC
  obtain ⟨⟨p0, p1, p2, p3, p4, p5, p6⟩, ps, pe⟩ := r2
  dsimp only at hC
  subst hst
  clear hw hv hA hE
  go_enter Tryz.func10, Tryz.ntmps10
  go_wp2_with fail
  rw [← hW0]
  clear hW0
  with_reducible refine hRi.mono ?_
  rintro e w1 ⟨rfl, hb1⟩
  have hB := hb0.trans (hb1.mono hb0.size)
  replace hx := hx.kept hb1
  replace hm := hm.kept hb1
  replace hr := hr.kept hb1
  clear hRi hb1 hb0
  have hSt := fun W => dSteps_any W
  obtain ⟨x0, x1, x2, x3, x4, x5, x6⟩ := hx.seven
  go_upto_region 3 with fail
  clear x0 x1 x2 x3 x4 x5 x6
  have keep : ∀ w', Below w1.heap.size w1 w' → w'.cell? ⟨w.heap.size, 0, none⟩ = some (.int .i64 3) := fun w' h => ((hx.kept h).seven).1
  have x0 := keep w1 (Below.refl _ _)
  go_cut [7, 8] (fun v o wx => v = .func (.func 32) #[] #[] ∧ o = .bool true ∧ Below w1.heap.size w1 wx)
  case first =>
    clear hC
    go_region_with (first | (go_at_call 22; refine (hSt _).mono ?_; rintro e w4 ⟨rfl, hM, hb4⟩; have k4 := hLk w4 w1.heap.size hM; have k5 := hLk w4.drew w1.heap.size hM; have k6 := hLk w4.drew.drew w1.heap.size hM; have z0 := keep w4 (Below.trans (by repeat (first | exact Below.refl _ _ | refine Below.drew ?_)) (hb4.mono (by simp)))))
    all_goals
      have hU : Below w1.heap.size w1 w4 := Below.trans (by repeat (first | exact Below.refl _ _ | refine Below.drew ?_)) (hb4.mono (by simp))
      go_wp2_with fail
      go_meet
      exact ⟨rfl, rfl, by repeat (first | exact hU | refine Below.drew ?_)⟩
  case rest =>
    obtain ⟨rfl, rfl, hbc⟩ := hcut
    obtain ⟨wC, hwC⟩ := dBelow_named hbc
    subst hwC
    have hB2 := hB.trans (hbc.mono hB.size)
    replace hx := hx.kept hbc
    replace hm := hm.kept hbc
    replace hr := hr.kept hbc
    clear keep x0 hLk hSt hbc hB
    have hC1 := hC wC hB2
    obtain ⟨x0, x1, x2, x3, x4, x5, x6⟩ := hx.seven
    obtain ⟨m0, m1, m2⟩ := hm.three
    go_wp2_with fail
    with_reducible refine hC1.mono ?_
    rintro e w9 ⟨A9, k9, c9, rfl, hS, hb9⟩
    have hB9 := hB2.trans (hb9.mono hB2.size)
    have hlt := hr.lt
    replace hr := hr.kept hb9
    clear hC x0 x1 x2 x3 x4 x5 x6 m0 m1 m2
    obtain ⟨a0, f0, a1, f1, a2, f2, a3, f3, a4, f4, a5, f5, a6, f6, bR⟩ := hr.store7 (.int .i64 p0) (.int .i64 p1) (.int .i64 p2) (.int .i64 p3) (.string p4) (.string p5) (.string p6)
    have hBz := below_store7 hB9 (B := w.heap.size + 1 + 1) (by omega) (.int .i64 p0) (.int .i64 p1) (.int .i64 p2) (.int .i64 p3) (.string p4) (.string p5) (.string p6)
    have HS := Lib.hid (DSaid.store7 (w := w9) (n' := w.heap.size) hS (by omega) (B := w.heap.size + 1 + 1) (by omega) (.int .i64 p0) (.int .i64 p1) (.int .i64 p2) (.int .i64 p3) (.string p4) (.string p5) (.string p6))
    obtain ⟨y0, y1, y2, y3, y4, y5, y6⟩ := bR.seven
    clear bR hx hm hr hs0 hB9 hC1
    go_wp2
    first | refine bodyPost_ret (v := .tuple #[.agg #[.int .i64 p0, .int .i64 p1, .int .i64 p2, .int .i64 p3, .string p4, .string p5, .string p6], .slice A9 k9 c9, .int .i64 pe]) ?_ rfl ⟨A9, k9, c9, by rw [HG.out] <;> rfl, by rw [HG.out]; exact HS.out, hBz⟩ | refine bodyPost_ret (v := .tuple #[.agg #[.int .i64 p0, .int .i64 p1, .int .i64 p2, .int .i64 p3, .string p4, .string p5, .string p6], .slice A9 k9 c9, .int .i64 pe]) ?_ rfl ⟨A9, k9, ⟨c9, by rw [HG.out] <;> rfl⟩, by rw [HG.out]; exact HS.out, hBz⟩
    rw [results_ctt rfl]
    simp [asAddr, Result.andThen, go_sem, y0, y1, y2, y3, y4, y5, y6]
set_option maxRecDepth 100000 in
set_option maxHeartbeats 4000000 in
theorem dTake_4 (h : Hd) (m : Me) (A : Option Addr) (cap : Nat) (w : World) (hw : Wid w) (hv : wfM m) (hA : ValsAt w A (rowV m.l)) (hE : mE m = 0) (hst : h.st = 4) (r : Dn) (hC : ∀ W, Below w.heap.size w W → Calls Tryz.prog 33 #[encHd h, encM m A cap] W (DnPost r W)) : Calls Tryz.prog 10 #[encHd h, encM m A cap] w (DnPost r w) := by
  obtain ⟨st, ch, fr, bt, us, wo, ho⟩ := h
  obtain ⟨mc, mi, ml⟩ := m
  unfold encHd encM
  dsimp only
  unfold DnPost
  obtain ⟨r2, HG⟩ : ∃ r2, Hid (r = r2) := ⟨r, Lib.hid rfl⟩
  obtain ⟨W0, hW0⟩ : ∃ W0, W0 = ((w.alloc (.cells #[.int .i64 st, .int .i64 ch, .int .i64 fr, .int .i64 bt, .string us, .string wo, .string ho] 28)).alloc (.cells #[.int .i64 mc, .int .i64 mi, .slice A ml.length cap] 39)).alloc (.cells #[.int .i64 0, .int .i64 0, .int .i64 0, .int .i64 0, .string ⟨#[]⟩, .string ⟨#[]⟩, .string ⟨#[]⟩] 28) := ⟨_, rfl⟩
  have hb0 : Below w.heap.size w W0 := by rw [hW0]; exact (((Below.refl _ w).alloc (Nat.le_refl _) _).alloc (by simp) _).alloc (by simp; omega) _
  have hs0 : W0.heap.size = w.heap.size + 1 + 1 + 1 := by rw [hW0]; simp
  have hx : Bx W0 w.heap.size 28 [.int .i64 st, .int .i64 ch, .int .i64 fr, .int .i64 bt, .string us, .string wo, .string ho] := by rw [hW0]; exact ((Bx.new w 28 [.int .i64 st, .int .i64 ch, .int .i64 fr, .int .i64 bt, .string us, .string wo, .string ho]).alloc _).alloc _
  have hm : Bx W0 (w.heap.size + 1) 39 [.int .i64 mc, .int .i64 mi, .slice A ml.length cap] := by
    have h := (Bx.new (w.alloc (.cells #[.int .i64 st, .int .i64 ch, .int .i64 fr, .int .i64 bt, .string us, .string wo, .string ho] 28)) 39 [.int .i64 mc, .int .i64 mi, .slice A ml.length cap]).alloc (.cells #[.int .i64 0, .int .i64 0, .int .i64 0, .int .i64 0, .string ⟨#[]⟩, .string ⟨#[]⟩, .string ⟨#[]⟩] 28)
    rw [World.size_alloc] at h
    rw [hW0]; exact h
  have hr : Bx W0 (w.heap.size + 1 + 1) 28 [.int .i64 0, .int .i64 0, .int .i64 0, .int .i64 0, .string ⟨#[]⟩, .string ⟨#[]⟩, .string ⟨#[]⟩] := by
    have h := Bx.new ((w.alloc (.cells #[.int .i64 st, .int .i64 ch, .int .i64 fr, .int .i64 bt, .string us, .string wo, .string ho] 28)).alloc (.cells #[.int .i64 mc, .int .i64 mi, .slice A ml.length cap] 39)) 28 [.int .i64 0, .int .i64 0, .int .i64 0, .int .i64 0, .string ⟨#[]⟩, .string ⟨#[]⟩, .string ⟨#[]⟩]
    rw [World.size_alloc, World.size_alloc] at h
    rw [hW0]; exact h
  have hRi := mright_any ⟨mc, mi, ml⟩ A cap W0 (hw.below hb0) hv (hA.below hb0)
  unfold encM at hRi
  rw [hE] at hRi
  unfold encHd encM DnPost at hC
  have hLk : ∀ W M, DSteps W M → (Instr.lookup 57 (.map (some M)) (.int .i64 4) true).run Tryz.prog W = .ok (.tuple #[.func (.func 33) #[] #[], .bool true]) W := fun W M h => by
    obtain ⟨v, h1, h2⟩ := h.look 4 ⟨by decide, by decide⟩
    rw [show decide ((1 : Int) ≤ 4 ∧ (4 : Int) ≤ 6) = true from rfl] at h1
    rw [h1, h2 ⟨by decide, by decide⟩]
    rfl
  try unfold encHd at *
  try dsimp only at *
  rw [HG.out] at hC
  obtain ⟨⟨p0, p1, p2, p3, p4, p5, p6⟩, ps, pe⟩ := r2
  dsimp only at hC
  subst hst
  clear hw hv hA hE
  go_enter Tryz.func10, Tryz.ntmps10
  go_wp2_with fail
  rw [← hW0]
  clear hW0
  with_reducible refine hRi.mono ?_
  rintro e w1 ⟨rfl, hb1⟩
  have hB := hb0.trans (hb1.mono hb0.size)
  replace hx := hx.kept hb1
  replace hm := hm.kept hb1
  replace hr := hr.kept hb1
  clear hRi hb1 hb0
  have hSt := fun W => dSteps_any W
  obtain ⟨x0, x1, x2, x3, x4, x5, x6⟩ := hx.seven
  go_upto_region 3 with fail
  clear x0 x1 x2 x3 x4 x5 x6
  have keep : ∀ w', Below w1.heap.size w1 w' → w'.cell? ⟨w.heap.size, 0, none⟩ = some (.int .i64 4) := fun w' h => ((hx.kept h).seven).1
  have x0 := keep w1 (Below.refl _ _)
  go_cut [7, 8] (fun v o wx => v = .func (.func 33) #[] #[] ∧ o = .bool true ∧ Below w1.heap.size w1 wx)
  case first =>
    clear hC
    go_region_with (first | (go_at_call 22; refine (hSt _).mono ?_; rintro e w4 ⟨rfl, hM, hb4⟩; have k4 := hLk w4 w1.heap.size hM; have k5 := hLk w4.drew w1.heap.size hM; have k6 := hLk w4.drew.drew w1.heap.size hM; have z0 := keep w4 (Below.trans (by repeat (first | exact Below.refl _ _ | refine Below.drew ?_)) (hb4.mono (by simp)))))
    all_goals
      have hU : Below w1.heap.size w1 w4 := Below.trans (by repeat (first | exact Below.refl _ _ | refine Below.drew ?_)) (hb4.mono (by simp))
      go_wp2_with fail
      go_meet
      exact ⟨rfl, rfl, by repeat (first | exact hU | refine Below.drew ?_)⟩
  case rest =>
    obtain ⟨rfl, rfl, hbc⟩ := hcut
    obtain ⟨wC, hwC⟩ := dBelow_named hbc
    subst hwC
    have hB2 := hB.trans (hbc.mono hB.size)
    replace hx := hx.kept hbc
    replace hm := hm.kept hbc
    replace hr := hr.kept hbc
    clear keep x0 hLk hSt hbc hB
    have hC1 := hC wC hB2
    obtain ⟨x0, x1, x2, x3, x4, x5, x6⟩ := hx.seven
    obtain ⟨m0, m1, m2⟩ := hm.three
    go_wp2_with fail
    with_reducible refine hC1.mono ?_
    rintro e w9 ⟨A9, k9, c9, rfl, hS, hb9⟩
    have hB9 := hB2.trans (hb9.mono hB2.size)
    have hlt := hr.lt
    replace hr := hr.kept hb9
    clear hC x0 x1 x2 x3 x4 x5 x6 m0 m1 m2
    obtain ⟨a0, f0, a1, f1, a2, f2, a3, f3, a4, f4, a5, f5, a6, f6, bR⟩ := hr.store7 (.int .i64 p0) (.int .i64 p1) (.int .i64 p2) (.int .i64 p3) (.string p4) (.string p5) (.string p6)
    have hBz := below_store7 hB9 (B := w.heap.size + 1 + 1) (by omega) (.int .i64 p0) (.int .i64 p1) (.int .i64 p2) (.int .i64 p3) (.string p4) (.string p5) (.string p6)
    have HS := Lib.hid (DSaid.store7 (w := w9) (n' := w.heap.size) hS (by omega) (B := w.heap.size + 1 + 1) (by omega) (.int .i64 p0) (.int .i64 p1) (.int .i64 p2) (.int .i64 p3) (.string p4) (.string p5) (.string p6))
    obtain ⟨y0, y1, y2, y3, y4, y5, y6⟩ := bR.seven
    clear bR hx hm hr hs0 hB9 hC1
    go_wp2
    first | refine bodyPost_ret (v := .tuple #[.agg #[.int .i64 p0, .int .i64 p1, .int .i64 p2, .int .i64 p3, .string p4, .string p5, .string p6], .slice A9 k9 c9, .int .i64 pe]) ?_ rfl ⟨A9, k9, c9, by rw [HG.out] <;> rfl, by rw [HG.out]; exact HS.out, hBz⟩ | refine bodyPost_ret (v := .tuple #[.agg #[.int .i64 p0, .int .i64 p1, .int .i64 p2, .int .i64 p3, .string p4, .string p5, .string p6], .slice A9 k9 c9, .int .i64 pe]) ?_ rfl ⟨A9, k9, ⟨c9, by rw [HG.out] <;> rfl⟩, by rw [HG.out]; exact HS.out, hBz⟩
    rw [results_ctt rfl]
    simp [asAddr, Result.andThen, go_sem, y0, y1, y2, y3, y4, y5, y6]
set_option maxRecDepth 100000 in
set_option maxHeartbeats 4000000 in
theorem dTake_5 (h : Hd) (m : Me) (A : Option Addr) (cap : Nat) (w : World) (hw : Wid w) (hv : wfM m) (hA : ValsAt w A (rowV m.l)) (hE : mE m = 0) (hst : h.st = 5) (r : Dn) (hC : ∀ W, Below w.heap.size w W → Calls Tryz.prog 34 #[encHd h, encM m A cap] W (DnPost r W)) : Calls Tryz.prog 10 #[encHd h, encM m A cap] w (DnPost r w) := by
  obtain ⟨st, ch, fr, bt, us, wo, ho⟩ := h
  obtain ⟨mc, mi, ml⟩ := m
  unfold encHd encM
  dsimp only
  unfold DnPost
  obtain ⟨r2, HG⟩ : ∃ r2, Hid (r = r2) := ⟨r, Lib.hid rfl⟩
  obtain ⟨W0, hW0⟩ : ∃ W0, W0 = ((w.alloc (.cells #[.int .i64 st, .int .i64 ch, .int .i64 fr, .int .i64 bt, .string us, .string wo, .string ho] 28)).alloc (.cells #[.int .i64 mc, .int .i64 mi, .slice A ml.length cap] 39)).alloc (.cells #[.int .i64 0, .int .i64 0, .int .i64 0, .int .i64 0, .string ⟨#[]⟩, .string ⟨#[]⟩, .string ⟨#[]⟩] 28) := ⟨_, rfl⟩
  have hb0 : Below w.heap.size w W0 := by rw [hW0]; exact (((Below.refl _ w).alloc (Nat.le_refl _) _).alloc (by simp) _).alloc (by simp; omega) _
  have hs0 : W0.heap.size = w.heap.size + 1 + 1 + 1 := by rw [hW0]; simp
  have hx : Bx W0 w.heap.size 28 [.int .i64 st, .int .i64 ch, .int .i64 fr, .int .i64 bt, .string us, .string wo, .string ho] := by rw [hW0]; exact ((Bx.new w 28 [.int .i64 st, .int .i64 ch, .int .i64 fr, .int .i64 bt, .string us, .string wo, .string ho]).alloc _).alloc _
  have hm : Bx W0 (w.heap.size + 1) 39 [.int .i64 mc, .int .i64 mi, .slice A ml.length cap] := by
    have h := (Bx.new (w.alloc (.cells #[.int .i64 st, .int .i64 ch, .int .i64 fr, .int .i64 bt, .string us, .string wo, .string ho] 28)) 39 [.int .i64 mc, .int .i64 mi, .slice A ml.length cap]).alloc (.cells #[.int .i64 0, .int .i64 0, .int .i64 0, .int .i64 0, .string ⟨#[]⟩, .string ⟨#[]⟩, .string ⟨#[]⟩] 28)
    rw [World.size_alloc] at h
    rw [hW0]; exact h
  have hr : Bx W0 (w.heap.size + 1 + 1) 28 [.int .i64 0, .int .i64 0, .int .i64 0, .int .i64 0, .string ⟨#[]⟩, .string ⟨#[]⟩, .string ⟨#[]⟩] := by
    have h := Bx.new ((w.alloc (.cells #[.int .i64 st, .int .i64 ch, .int .i64 fr, .int .i64 bt, .string us, .string wo, .string ho] 28)).alloc (.cells #[.int .i64 mc, .int .i64 mi, .slice A ml.length cap] 39)) 28 [.int .i64 0, .int .i64 0, .int .i64 0, .int .i64 0, .string ⟨#[]⟩, .string ⟨#[]⟩, .string ⟨#[]⟩]
    rw [World.size_alloc, World.size_alloc] at h
    rw [hW0]; exact h
  have hRi := mright_any ⟨mc, mi, ml⟩ A cap W0 (hw.below hb0) hv (hA.below hb0)
  unfold encM at hRi
  rw [hE] at hRi
  unfold encHd encM DnPost at hC
  have hLk : ∀ W M, DSteps W M → (Instr.lookup 57 (.map (some M)) (.int .i64 5) true).run Tryz.prog W = .ok (.tuple #[.func (.func 34) #[] #[], .bool true]) W := fun W M h => by
    obtain ⟨v, h1, h2⟩ := h.look 5 ⟨by decide, by decide⟩
    rw [show decide ((1 : Int) ≤ 5 ∧ (5 : Int) ≤ 6) = true from rfl] at h1
    rw [h1, h2 ⟨by decide, by decide⟩]
    rfl
  try unfold encHd at *
  try dsimp only at *
  rw [HG.out] at hC
  obtain ⟨⟨p0, p1, p2, p3, p4, p5, p6⟩, ps, pe⟩ := r2
  dsimp only at hC
  subst hst
  clear hw hv hA hE
  go_enter Tryz.func10, Tryz.ntmps10
  go_wp2_with fail
  rw [← hW0]
  clear hW0
  with_reducible refine hRi.mono ?_
  rintro e w1 ⟨rfl, hb1⟩
  have hB := hb0.trans (hb1.mono hb0.size)
  replace hx := hx.kept hb1
  replace hm := hm.kept hb1
  replace hr := hr.kept hb1
  clear hRi hb1 hb0
  have hSt := fun W => dSteps_any W
  obtain ⟨x0, x1, x2, x3, x4, x5, x6⟩ := hx.seven
  go_upto_region 3 with fail
  clear x0 x1 x2 x3 x4 x5 x6
  have keep : ∀ w', Below w1.heap.size w1 w' → w'.cell? ⟨w.heap.size, 0, none⟩ = some (.int .i64 5) := fun w' h => ((hx.kept h).seven).1
  have x0 := keep w1 (Below.refl _ _)
  go_cut [7, 8] (fun v o wx => v = .func (.func 34) #[] #[] ∧ o = .bool true ∧ Below w1.heap.size w1 wx)
  case first =>
    clear hC
    go_region_with (first | (go_at_call 22; refine (hSt _).mono ?_; rintro e w4 ⟨rfl, hM, hb4⟩; have k4 := hLk w4 w1.heap.size hM; have k5 := hLk w4.drew w1.heap.size hM; have k6 := hLk w4.drew.drew w1.heap.size hM; have z0 := keep w4 (Below.trans (by repeat (first | exact Below.refl _ _ | refine Below.drew ?_)) (hb4.mono (by simp)))))
    all_goals
      have hU : Below w1.heap.size w1 w4 := Below.trans (by repeat (first | exact Below.refl _ _ | refine Below.drew ?_)) (hb4.mono (by simp))
      go_wp2_with fail
      go_meet
      exact ⟨rfl, rfl, by repeat (first | exact hU | refine Below.drew ?_)⟩
  case rest =>
    obtain ⟨rfl, rfl, hbc⟩ := hcut
    obtain ⟨wC, hwC⟩ := dBelow_named hbc
    subst hwC
    have hB2 := hB.trans (hbc.mono hB.size)
    replace hx := hx.kept hbc
    replace hm := hm.kept hbc
    replace hr := hr.kept hbc
    clear keep x0 hLk hSt hbc hB
    have hC1 := hC wC hB2
    obtain ⟨x0, x1, x2, x3, x4, x5, x6⟩ := hx.seven
    obtain ⟨m0, m1, m2⟩ := hm.three
    go_wp2_with fail
    with_reducible refine hC1.mono ?_
    rintro e w9 ⟨A9, k9, c9, rfl, hS, hb9⟩
    have hB9 := hB2.trans (hb9.mono hB2.size)
    have hlt := hr.lt
    replace hr := hr.kept hb9
    clear hC x0 x1 x2 x3 x4 x5 x6 m0 m1 m2
    obtain ⟨a0, f0, a1, f1, a2, f2, a3, f3, a4, f4, a5, f5, a6, f6, bR⟩ := hr.store7 (.int .i64 p0) (.int .i64 p1) (.int .i64 p2) (.int .i64 p3) (.string p4) (.string p5) (.string p6)
    have hBz := below_store7 hB9 (B := w.heap.size + 1 + 1) (by omega) (.int .i64 p0) (.int .i64 p1) (.int .i64 p2) (.int .i64 p3) (.string p4) (.string p5) (.string p6)
    have HS := Lib.hid (DSaid.store7 (w := w9) (n' := w.heap.size) hS (by omega) (B := w.heap.size + 1 + 1) (by omega) (.int .i64 p0) (.int .i64 p1) (.int .i64 p2) (.int .i64 p3) (.string p4) (.string p5) (.string p6))
    obtain ⟨y0, y1, y2, y3, y4, y5, y6⟩ := bR.seven
    clear bR hx hm hr hs0 hB9 hC1
    go_wp2
    first | refine bodyPost_ret (v := .tuple #[.agg #[.int .i64 p0, .int .i64 p1, .int .i64 p2, .int .i64 p3, .string p4, .string p5, .string p6], .slice A9 k9 c9, .int .i64 pe]) ?_ rfl ⟨A9, k9, c9, by rw [HG.out] <;> rfl, by rw [HG.out]; exact HS.out, hBz⟩ | refine bodyPost_ret (v := .tuple #[.agg #[.int .i64 p0, .int .i64 p1, .int .i64 p2, .int .i64 p3, .string p4, .string p5, .string p6], .slice A9 k9 c9, .int .i64 pe]) ?_ rfl ⟨A9, k9, ⟨c9, by rw [HG.out] <;> rfl⟩, by rw [HG.out]; exact HS.out, hBz⟩
    rw [results_ctt rfl]
    simp [asAddr, Result.andThen, go_sem, y0, y1, y2, y3, y4, y5, y6]
set_option maxRecDepth 100000 in
set_option maxHeartbeats 4000000 in
theorem dTake_6 (h : Hd) (m : Me) (A : Option Addr) (cap : Nat) (w : World) (hw : Wid w) (hv : wfM m) (hA : ValsAt w A (rowV m.l)) (hE : mE m = 0) (hst : h.st = 6) (r : Dn) (hC : ∀ W, Below w.heap.size w W → Calls Tryz.prog 34 #[encHd h, encM m A cap] W (DnPost r W)) : Calls Tryz.prog 10 #[encHd h, encM m A cap] w (DnPost r w) := by
  obtain ⟨st, ch, fr, bt, us, wo, ho⟩ := h
  obtain ⟨mc, mi, ml⟩ := m
  unfold encHd encM
  dsimp only
  unfold DnPost
  obtain ⟨r2, HG⟩ : ∃ r2, Hid (r = r2) := ⟨r, Lib.hid rfl⟩
  obtain ⟨W0, hW0⟩ : ∃ W0, W0 = ((w.alloc (.cells #[.int .i64 st, .int .i64 ch, .int .i64 fr, .int .i64 bt, .string us, .string wo, .string ho] 28)).alloc (.cells #[.int .i64 mc, .int .i64 mi, .slice A ml.length cap] 39)).alloc (.cells #[.int .i64 0, .int .i64 0, .int .i64 0, .int .i64 0, .string ⟨#[]⟩, .string ⟨#[]⟩, .string ⟨#[]⟩] 28) := ⟨_, rfl⟩
  have hb0 : Below w.heap.size w W0 := by rw [hW0]; exact (((Below.refl _ w).alloc (Nat.le_refl _) _).alloc (by simp) _).alloc (by simp; omega) _
  have hs0 : W0.heap.size = w.heap.size + 1 + 1 + 1 := by rw [hW0]; simp
  have hx : Bx W0 w.heap.size 28 [.int .i64 st, .int .i64 ch, .int .i64 fr, .int .i64 bt, .string us, .string wo, .string ho] := by rw [hW0]; exact ((Bx.new w 28 [.int .i64 st, .int .i64 ch, .int .i64 fr, .int .i64 bt, .string us, .string wo, .string ho]).alloc _).alloc _
  have hm : Bx W0 (w.heap.size + 1) 39 [.int .i64 mc, .int .i64 mi, .slice A ml.length cap] := by
    have h := (Bx.new (w.alloc (.cells #[.int .i64 st, .int .i64 ch, .int .i64 fr, .int .i64 bt, .string us, .string wo, .string ho] 28)) 39 [.int .i64 mc, .int .i64 mi, .slice A ml.length cap]).alloc (.cells #[.int .i64 0, .int .i64 0, .int .i64 0, .int .i64 0, .string ⟨#[]⟩, .string ⟨#[]⟩, .string ⟨#[]⟩] 28)
    rw [World.size_alloc] at h
    rw [hW0]; exact h
  have hr : Bx W0 (w.heap.size + 1 + 1) 28 [.int .i64 0, .int .i64 0, .int .i64 0, .int .i64 0, .string ⟨#[]⟩, .string ⟨#[]⟩, .string ⟨#[]⟩] := by
    have h := Bx.new ((w.alloc (.cells #[.int .i64 st, .int .i64 ch, .int .i64 fr, .int .i64 bt, .string us, .string wo, .string ho] 28)).alloc (.cells #[.int .i64 mc, .int .i64 mi, .slice A ml.length cap] 39)) 28 [.int .i64 0, .int .i64 0, .int .i64 0, .int .i64 0, .string ⟨#[]⟩, .string ⟨#[]⟩, .string ⟨#[]⟩]
    rw [World.size_alloc, World.size_alloc] at h
    rw [hW0]; exact h
  have hRi := mright_any ⟨mc, mi, ml⟩ A cap W0 (hw.below hb0) hv (hA.below hb0)
  unfold encM at hRi
  rw [hE] at hRi
  unfold encHd encM DnPost at hC
  have hLk : ∀ W M, DSteps W M → (Instr.lookup 57 (.map (some M)) (.int .i64 6) true).run Tryz.prog W = .ok (.tuple #[.func (.func 34) #[] #[], .bool true]) W := fun W M h => by
    obtain ⟨v, h1, h2⟩ := h.look 6 ⟨by decide, by decide⟩
    rw [show decide ((1 : Int) ≤ 6 ∧ (6 : Int) ≤ 6) = true from rfl] at h1
    rw [h1, h2 ⟨by decide, by decide⟩]
    rfl
  try unfold encHd at *
  try dsimp only at *
  rw [HG.out] at hC
  obtain ⟨⟨p0, p1, p2, p3, p4, p5, p6⟩, ps, pe⟩ := r2
  dsimp only at hC
  subst hst
  clear hw hv hA hE
  go_enter Tryz.func10, Tryz.ntmps10
  go_wp2_with fail
  rw [← hW0]
  clear hW0
  with_reducible refine hRi.mono ?_
  rintro e w1 ⟨rfl, hb1⟩
  have hB := hb0.trans (hb1.mono hb0.size)
  replace hx := hx.kept hb1
  replace hm := hm.kept hb1
  replace hr := hr.kept hb1
  clear hRi hb1 hb0
  have hSt := fun W => dSteps_any W
  obtain ⟨x0, x1, x2, x3, x4, x5, x6⟩ := hx.seven
  go_upto_region 3 with fail
  clear x0 x1 x2 x3 x4 x5 x6
  have keep : ∀ w', Below w1.heap.size w1 w' → w'.cell? ⟨w.heap.size, 0, none⟩ = some (.int .i64 6) := fun w' h => ((hx.kept h).seven).1
  have x0 := keep w1 (Below.refl _ _)
  go_cut [7, 8] (fun v o wx => v = .func (.func 34) #[] #[] ∧ o = .bool true ∧ Below w1.heap.size w1 wx)
  case first =>
    clear hC
    go_region_with (first | (go_at_call 22; refine (hSt _).mono ?_; rintro e w4 ⟨rfl, hM, hb4⟩; have k4 := hLk w4 w1.heap.size hM; have k5 := hLk w4.drew w1.heap.size hM; have k6 := hLk w4.drew.drew w1.heap.size hM; have z0 := keep w4 (Below.trans (by repeat (first | exact Below.refl _ _ | refine Below.drew ?_)) (hb4.mono (by simp)))))
    all_goals
      have hU : Below w1.heap.size w1 w4 := Below.trans (by repeat (first | exact Below.refl _ _ | refine Below.drew ?_)) (hb4.mono (by simp))
      go_wp2_with fail
      go_meet
      exact ⟨rfl, rfl, by repeat (first | exact hU | refine Below.drew ?_)⟩
  case rest =>
    obtain ⟨rfl, rfl, hbc⟩ := hcut
    obtain ⟨wC, hwC⟩ := dBelow_named hbc
    subst hwC
    have hB2 := hB.trans (hbc.mono hB.size)
    replace hx := hx.kept hbc
    replace hm := hm.kept hbc
    replace hr := hr.kept hbc
    clear keep x0 hLk hSt hbc hB
    have hC1 := hC wC hB2
    obtain ⟨x0, x1, x2, x3, x4, x5, x6⟩ := hx.seven
    obtain ⟨m0, m1, m2⟩ := hm.three
    go_wp2_with fail
    with_reducible refine hC1.mono ?_
    rintro e w9 ⟨A9, k9, c9, rfl, hS, hb9⟩
    have hB9 := hB2.trans (hb9.mono hB2.size)
    have hlt := hr.lt
    replace hr := hr.kept hb9
    clear hC x0 x1 x2 x3 x4 x5 x6 m0 m1 m2
    obtain ⟨a0, f0, a1, f1, a2, f2, a3, f3, a4, f4, a5, f5, a6, f6, bR⟩ := hr.store7 (.int .i64 p0) (.int .i64 p1) (.int .i64 p2) (.int .i64 p3) (.string p4) (.string p5) (.string p6)
    have hBz := below_store7 hB9 (B := w.heap.size + 1 + 1) (by omega) (.int .i64 p0) (.int .i64 p1) (.int .i64 p2) (.int .i64 p3) (.string p4) (.string p5) (.string p6)
    have HS := Lib.hid (DSaid.store7 (w := w9) (n' := w.heap.size) hS (by omega) (B := w.heap.size + 1 + 1) (by omega) (.int .i64 p0) (.int .i64 p1) (.int .i64 p2) (.int .i64 p3) (.string p4) (.string p5) (.string p6))
    obtain ⟨y0, y1, y2, y3, y4, y5, y6⟩ := bR.seven
    clear bR hx hm hr hs0 hB9 hC1
    go_wp2
    first | refine bodyPost_ret (v := .tuple #[.agg #[.int .i64 p0, .int .i64 p1, .int .i64 p2, .int .i64 p3, .string p4, .string p5, .string p6], .slice A9 k9 c9, .int .i64 pe]) ?_ rfl ⟨A9, k9, c9, by rw [HG.out] <;> rfl, by rw [HG.out]; exact HS.out, hBz⟩ | refine bodyPost_ret (v := .tuple #[.agg #[.int .i64 p0, .int .i64 p1, .int .i64 p2, .int .i64 p3, .string p4, .string p5, .string p6], .slice A9 k9 c9, .int .i64 pe]) ?_ rfl ⟨A9, k9, ⟨c9, by rw [HG.out] <;> rfl⟩, by rw [HG.out]; exact HS.out, hBz⟩
    rw [results_ctt rfl]
    simp [asAddr, Result.andThen, go_sem, y0, y1, y2, y3, y4, y5, y6]

/-- where a state takes a method, its taking is what the plain function has -/
theorem dTake_sts (st : Int) (h : ¬ (1 ≤ st ∧ st ≤ 6)) : ¬ st = 1 ∧ ¬ st = 2 ∧ ¬ st = 3 ∧ ¬ st = 4 ∧ ¬ (st = 5 ∨ st = 6) := by omega
end Go.Proofs.YtkdiccedkjbpeaaGreatDoorR
