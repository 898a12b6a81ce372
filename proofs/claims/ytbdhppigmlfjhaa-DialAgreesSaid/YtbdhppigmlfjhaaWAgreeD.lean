/-
  dial.Agree answers what two agree on, as a plain function says; nothing that was there is changed. No condition.
-/
import Derived.Deep.RegionHeld3
import Derived.Deep.DeepCutAuto
import Derived.Lib.MinMax
import Derived.Test.YtbdhppigmlfjhaaWServeT
namespace Go.Proofs.Ytbdhppigmlfjhaa
open Go.RowKit

/-- why two don't agree -/
def dgE (mc mf mb tc tf tb : Int) : Int := if tRight mc mf mb = true then (if tc < 0 ∨ tf < 0 ∨ tb < 0 then 1 else if 0 < tf ∧ tf < 4096 then 16 else 0) else 1
def lessN (m t : Int) : Int := if t = 0 then m else min m t
def dgV (e a : Int) : Int := if e = 0 then a else 0
theorem results_ctw {fn : Func} {p t : Tmp} {ty : TypeId} (h : fn.results = #[.cell p ty, .tmp t]) (tmps : Array Value) (P : Program) (w : World) :
    (results fn tmps).run P w = ((asAddr (tmps.getD p undef)).run P w).andThen fun a w₁ => ((loadVar ty a).run P w₁).andThen fun v w₂ => .ok (.tuple #[v, tmps.getD t undef]) w₂ := by
  simp only [results, h]
  simp [Sem.run_bind, Result.andThen]
theorem run_min3 {P : Program} (w : World) (ts : Array TypeId) (t : TypeId) (k k' k'' : IntKind) (x y z : Int) :
    (Builtin.min_ ts t #[.int k x, .int k' y, .int k'' z]).run P w = .ok (.int k (min (min x y) z)) w := by
  have e : ∀ a b : Int, (if b < a then b else a) = min a b := fun a b => by
    rw [Int.min_def]
    split <;> split <;> omega
  simp [Builtin.min_, Builtin.min2, e]
attribute [local go_sem high] run_min3
theorem lesser1_any (m t : Int) (w : World) : Calls Try.prog 14 #[.int .i64 m, .int .i64 t] w fun e w' => e = .returned (.int .i64 (lessN m t)) ∧ Below w.heap.size w w' := by
  by_cases h : t = 0
  · have H : Hid (lessN m t = m) := Lib.hid (by rw [lessN, if_pos h])
    subst h
    go_enter Try.func14, Try.ntmps14
    go_wp2
    go_ret
    exact ⟨by rw [H.out]; rfl, Below.refl _ _⟩
  · have H : Hid (lessN m t = min m t) := Lib.hid (by rw [lessN, if_neg h])
    have t1 : (t == 0) = false := by simpa using h
    clear h
    go_enter Try.func14, Try.ntmps14
    go_wp2
    go_ret
    exact ⟨by rw [H.out]; rfl, Below.refl _ _⟩

set_option maxRecDepth 100000 in
set_option maxHeartbeats 4000000 in
theorem dAgree_any (mc mf mb tc tf tb : Int) (w : World) : Calls Try.prog 7 #[.agg #[.int .i64 mc, .int .i64 mf, .int .i64 mb], .agg #[.int .i64 tc, .int .i64 tf, .int .i64 tb]] w fun e w' => e = .returned (.tuple #[.agg #[.int .i64 (dgV (dgE mc mf mb tc tf tb) (lessN mc tc)), .int .i64 (dgV (dgE mc mf mb tc tf tb) (lessN mf tf)), .int .i64 (dgV (dgE mc mf mb tc tf tb) (min mb tb))], .int .i64 (dgE mc mf mb tc tf tb)]) ∧ Below w.heap.size w w' := by
  obtain ⟨W0, hW0⟩ : ∃ W0, W0 = ((w.alloc (.cells #[.int .i64 mc, .int .i64 mf, .int .i64 mb] 23)).alloc (.cells #[.int .i64 tc, .int .i64 tf, .int .i64 tb] 23)).alloc (.cells #[.int .i64 0, .int .i64 0, .int .i64 0] 23) := ⟨_, rfl⟩
  have hb0 : Below w.heap.size w W0 := by rw [hW0]; exact (((Below.refl _ w).alloc (Nat.le_refl _) _).alloc (by simp) _).alloc (by simp; omega) _
  have hm : Bx W0 w.heap.size 23 [.int .i64 mc, .int .i64 mf, .int .i64 mb] := by rw [hW0]; exact ((Bx.new w _ _).alloc _).alloc _
  have ht : Bx W0 (w.heap.size + 1) 23 [.int .i64 tc, .int .i64 tf, .int .i64 tb] := by
    have h := (Bx.new (w.alloc (.cells #[.int .i64 mc, .int .i64 mf, .int .i64 mb] 23)) 23 [.int .i64 tc, .int .i64 tf, .int .i64 tb]).alloc (.cells #[.int .i64 0, .int .i64 0, .int .i64 0] 23)
    rw [World.size_alloc] at h
    rw [hW0]; exact h
  have hr : Bx W0 (w.heap.size + 1 + 1) 23 [.int .i64 0, .int .i64 0, .int .i64 0] := by
    have h := Bx.new ((w.alloc (.cells #[.int .i64 mc, .int .i64 mf, .int .i64 mb] 23)).alloc (.cells #[.int .i64 tc, .int .i64 tf, .int .i64 tb] 23)) 23 [.int .i64 0, .int .i64 0, .int .i64 0]
    rw [World.size_alloc, World.size_alloc] at h
    rw [hW0]; exact h
  have hR := sRight_any mc mf mb W0
  have HE : Hid (dgE mc mf mb tc tf tb = if tRight mc mf mb = true then (if tc < 0 ∨ tf < 0 ∨ tb < 0 then 1 else if 0 < tf ∧ tf < 4096 then 16 else 0) else 1) := Lib.hid rfl
  generalize dgE mc mf mb tc tf tb = E at *
  generalize tRight mc mf mb = q at *
  obtain ⟨v1, hv1⟩ : ∃ v, dgV E (lessN mc tc) = v := ⟨_, rfl⟩
  obtain ⟨v2, hv2⟩ : ∃ v, dgV E (lessN mf tf) = v := ⟨_, rfl⟩
  obtain ⟨v3, hv3⟩ : ∃ v, dgV E (min mb tb) = v := ⟨_, rfl⟩
  rw [hv1, hv2, hv3]
  have HV1 := Lib.hid hv1
  have HV2 := Lib.hid hv2
  have HV3 := Lib.hid hv3
  clear hv1 hv2 hv3
  have hL1 := fun W => lesser1_any mc tc W
  have hL2 := fun W => lesser1_any mf tf W
  generalize lessN mc tc = l1 at *
  generalize lessN mf tf = l2 at *
  go_enter Try.func7, Try.ntmps7
  go_upto_region 1 with fail
  rw [← hW0]
  clear hW0
  obtain ⟨x0, x1, x2⟩ := hm.three
  go_wp2_with fail
  with_reducible refine hR.mono ?_
  rintro e w1 ⟨rfl, hb1⟩
  have hB1 := hb0.trans (hb1.mono hb0.size)
  replace hm := hm.kept hb1
  replace ht := ht.kept hb1
  replace hr := hr.kept hb1
  clear hR hb0 hb1 x0 x1 x2
  obtain ⟨y0, y1, y2⟩ := ht.three
  cases q
  · have HG : Hid (E = 1) := Lib.hid (by rw [HE.out]; rfl)
    obtain ⟨a0, f0, a1, f1, a2, f2, bR⟩ := hr.store3 (.int .i64 0) (.int .i64 0) (.int .i64 0)
    have hBz := below_store3 hB1 (B := w.heap.size + 1 + 1) (by omega) (.int .i64 0) (.int .i64 0) (.int .i64 0)
    obtain ⟨z0, z1, z2⟩ := bR.three
    clear hm ht hr hB1 bR HE hL1 hL2 y0 y1 y2
    go_wp2
    refine bodyPost_ret (v := .tuple #[.agg #[.int .i64 0, .int .i64 0, .int .i64 0], .int .i64 1]) ?_ rfl ⟨by rw [← HV1.out, ← HV2.out, ← HV3.out, HG.out]; rfl, hBz⟩
    rw [results_ctw rfl]
    simp [asAddr, Result.andThen, go_sem, z0, z1, z2]
  · obtain ⟨mn, hmn⟩ : ∃ mn, min (min tc tf) tb = mn := ⟨_, rfl⟩
    by_cases hn : tc < 0 ∨ tf < 0 ∨ tb < 0
    · have HG : Hid (E = 1) := Lib.hid (by rw [HE.out, if_pos rfl, if_pos hn])
      have tt : mn < 0 := by omega
      obtain ⟨a0, f0, a1, f1, a2, f2, bR⟩ := hr.store3 (.int .i64 0) (.int .i64 0) (.int .i64 0)
      have hBz := below_store3 hB1 (B := w.heap.size + 1 + 1) (by omega) (.int .i64 0) (.int .i64 0) (.int .i64 0)
      obtain ⟨z0, z1, z2⟩ := bR.three
      clear hm ht hr hB1 bR HE hL1 hL2 hn
      go_wp2
      refine bodyPost_ret (v := .tuple #[.agg #[.int .i64 0, .int .i64 0, .int .i64 0], .int .i64 1]) ?_ rfl ⟨by rw [← HV1.out, ← HV2.out, ← HV3.out, HG.out]; rfl, hBz⟩
      rw [results_ctw rfl]
      simp [asAddr, Result.andThen, go_sem, z0, z1, z2]
    · have HE2 : Hid (E = if 0 < tf ∧ tf < 4096 then 16 else 0) := Lib.hid (by rw [HE.out, if_pos rfl, if_neg hn])
      have tt : ¬ mn < 0 := by omega
      clear HE
      by_cases hf : 0 < tf ∧ tf < 4096
      · have HG : Hid (E = 16) := Lib.hid (by rw [HE2.out, if_pos hf])
        have t1 : decide (0 < tf) = true := decide_eq_true hf.1
        have t2 : decide (tf < 4096) = true := decide_eq_true hf.2
        obtain ⟨a0, f0, a1, f1, a2, f2, bR⟩ := hr.store3 (.int .i64 0) (.int .i64 0) (.int .i64 0)
        have hBz := below_store3 hB1 (B := w.heap.size + 1 + 1) (by omega) (.int .i64 0) (.int .i64 0) (.int .i64 0)
        obtain ⟨z0, z1, z2⟩ := bR.three
        clear hm ht hr hB1 bR HE2 hL1 hL2 hn hf
        go_wp2
        refine bodyPost_ret (v := .tuple #[.agg #[.int .i64 0, .int .i64 0, .int .i64 0], .int .i64 16]) ?_ rfl ⟨by rw [← HV1.out, ← HV2.out, ← HV3.out, HG.out]; rfl, hBz⟩
        rw [results_ctw rfl]
        simp [asAddr, Result.andThen, go_sem, z0, z1, z2]
      · have HG : Hid (E = 0) := Lib.hid (by rw [HE2.out, if_neg hf])
        obtain ⟨p, hp⟩ : ∃ p, (decide (0 < tf) && decide (tf < 4096)) = p := ⟨_, rfl⟩
        have hp2 : p = false := by rw [← hp]; simp; omega
        have keep : ∀ w', Below w1.heap.size w1 w' → w'.cell? ⟨w.heap.size, 0, none⟩ = some (.int .i64 mc) ∧ w'.cell? ⟨w.heap.size, 1, none⟩ = some (.int .i64 mf) ∧ w'.cell? ⟨w.heap.size, 2, none⟩ = some (.int .i64 mb) ∧ w'.cell? ⟨w.heap.size + 1, 0, none⟩ = some (.int .i64 tc) ∧ w'.cell? ⟨w.heap.size + 1, 1, none⟩ = some (.int .i64 tf) ∧ w'.cell? ⟨w.heap.size + 1, 2, none⟩ = some (.int .i64 tb) := fun w' h => ⟨(hm.kept h).three.1, (hm.kept h).three.2.1, (hm.kept h).three.2.2, (ht.kept h).three.1, (ht.kept h).three.2.1, (ht.kept h).three.2.2⟩
        have hq0 : Below w1.heap.size w1 w1.drew := (Below.refl _ w1).drew
        have hlt := hr.lt
        clear HE2 hp
        by_cases h0 : 0 < tf
        · have t1 : decide (0 < tf) = true := decide_eq_true h0
          have t2 : decide (tf < 4096) = false := decide_eq_false (by omega)
          clear hn hf h0
          go_upto_region 6 with fail
          clear tt t1 t2 y0 y1 y2 hmn
          go_region_held3 (fun w' => w'.cell? ⟨w.heap.size, 0, none⟩ = some (.int .i64 mc) ∧ w'.cell? ⟨w.heap.size, 1, none⟩ = some (.int .i64 mf) ∧ w'.cell? ⟨w.heap.size, 2, none⟩ = some (.int .i64 mb) ∧ w'.cell? ⟨w.heap.size + 1, 0, none⟩ = some (.int .i64 tc) ∧ w'.cell? ⟨w.heap.size + 1, 1, none⟩ = some (.int .i64 tf) ∧ w'.cell? ⟨w.heap.size + 1, 2, none⟩ = some (.int .i64 tb)) (first | (with_reducible exact hk3) | (with_reducible exact keep _ hk2) | (with_reducible exact keep _ hk1) | (with_reducible exact keep _ hq0)) (first | (go_at_call 14; with_reducible refine (hL1 w1.drew).mono ?_; rintro e w3 ⟨rfl, hr1⟩; have hk1 : Below w1.heap.size w1 w3 := hq0.trans (hr1.mono hq0.size)) | (go_at_call 14; with_reducible refine (hL2 w3).mono ?_; rintro e w4 ⟨rfl, hr2⟩; have hk2 : Below w1.heap.size w1 w4 := hk1.trans (hr2.mono hk1.size); have hr3 := hr.kept hk2; obtain ⟨a0, f0, a1, f1, a2, f2, bR⟩ := hr3.store3 (.int .i64 l1) (.int .i64 l2) (.int .i64 (min mb tb)); have hm3 := (((hm.kept hk2).other (B' := w.heap.size + 1 + 1) (by omega) 0 (.int .i64 l1)).other (B' := w.heap.size + 1 + 1) (by omega) 1 (.int .i64 l2)).other (B' := w.heap.size + 1 + 1) (by omega) 2 (.int .i64 (min mb tb)); have ht3 := (((ht.kept hk2).other (B' := w.heap.size + 1 + 1) (by omega) 0 (.int .i64 l1)).other (B' := w.heap.size + 1 + 1) (by omega) 1 (.int .i64 l2)).other (B' := w.heap.size + 1 + 1) (by omega) 2 (.int .i64 (min mb tb)); have hk3 := And.intro hm3.three.1 (And.intro hm3.three.2.1 (And.intro hm3.three.2.2 (And.intro ht3.three.1 (And.intro ht3.three.2.1 ht3.three.2.2))))))
          all_goals
            have hBz := below_store3 (hB1.trans (hk2.mono hB1.size)) (B := w.heap.size + 1 + 1) (by omega) (.int .i64 l1) (.int .i64 l2) (.int .i64 (min mb tb))
            obtain ⟨z0, z1, z2⟩ := bR.three
            go_wp2
            refine bodyPost_ret (v := .tuple #[.agg #[.int .i64 l1, .int .i64 l2, .int .i64 (min mb tb)], .int .i64 0]) ?_ rfl ⟨by rw [← HV1.out, ← HV2.out, ← HV3.out, HG.out]; rfl, hBz⟩
            rw [results_ctw rfl]
            simp [asAddr, Result.andThen, go_sem, z0, z1, z2]
        · have t1 : decide (0 < tf) = false := decide_eq_false h0
          clear hn hf h0
          go_upto_region 6 with fail
          clear tt t1 y0 y1 y2 hmn
          go_region_held3 (fun w' => w'.cell? ⟨w.heap.size, 0, none⟩ = some (.int .i64 mc) ∧ w'.cell? ⟨w.heap.size, 1, none⟩ = some (.int .i64 mf) ∧ w'.cell? ⟨w.heap.size, 2, none⟩ = some (.int .i64 mb) ∧ w'.cell? ⟨w.heap.size + 1, 0, none⟩ = some (.int .i64 tc) ∧ w'.cell? ⟨w.heap.size + 1, 1, none⟩ = some (.int .i64 tf) ∧ w'.cell? ⟨w.heap.size + 1, 2, none⟩ = some (.int .i64 tb)) (first | (with_reducible exact hk3) | (with_reducible exact keep _ hk2) | (with_reducible exact keep _ hk1) | (with_reducible exact keep _ hq0)) (first | (go_at_call 14; with_reducible refine (hL1 w1.drew).mono ?_; rintro e w3 ⟨rfl, hr1⟩; have hk1 : Below w1.heap.size w1 w3 := hq0.trans (hr1.mono hq0.size)) | (go_at_call 14; with_reducible refine (hL2 w3).mono ?_; rintro e w4 ⟨rfl, hr2⟩; have hk2 : Below w1.heap.size w1 w4 := hk1.trans (hr2.mono hk1.size); have hr3 := hr.kept hk2; obtain ⟨a0, f0, a1, f1, a2, f2, bR⟩ := hr3.store3 (.int .i64 l1) (.int .i64 l2) (.int .i64 (min mb tb)); have hm3 := (((hm.kept hk2).other (B' := w.heap.size + 1 + 1) (by omega) 0 (.int .i64 l1)).other (B' := w.heap.size + 1 + 1) (by omega) 1 (.int .i64 l2)).other (B' := w.heap.size + 1 + 1) (by omega) 2 (.int .i64 (min mb tb)); have ht3 := (((ht.kept hk2).other (B' := w.heap.size + 1 + 1) (by omega) 0 (.int .i64 l1)).other (B' := w.heap.size + 1 + 1) (by omega) 1 (.int .i64 l2)).other (B' := w.heap.size + 1 + 1) (by omega) 2 (.int .i64 (min mb tb)); have hk3 := And.intro hm3.three.1 (And.intro hm3.three.2.1 (And.intro hm3.three.2.2 (And.intro ht3.three.1 (And.intro ht3.three.2.1 ht3.three.2.2))))))
          all_goals
            have hBz := below_store3 (hB1.trans (hk2.mono hB1.size)) (B := w.heap.size + 1 + 1) (by omega) (.int .i64 l1) (.int .i64 l2) (.int .i64 (min mb tb))
            obtain ⟨z0, z1, z2⟩ := bR.three
            go_wp2
            refine bodyPost_ret (v := .tuple #[.agg #[.int .i64 l1, .int .i64 l2, .int .i64 (min mb tb)], .int .i64 0]) ?_ rfl ⟨by rw [← HV1.out, ← HV2.out, ← HV3.out, HG.out]; rfl, hBz⟩
            rw [results_ctw rfl]
            simp [asAddr, Result.andThen, go_sem, z0, z1, z2]
end Go.Proofs.Ytbdhppigmlfjhaa
