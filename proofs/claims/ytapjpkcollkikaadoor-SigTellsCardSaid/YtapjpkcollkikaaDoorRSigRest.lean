/-
  The document's own Content, Replies, Asks and Ints answer as the program's; nothing that was there is changed. No condition.
-/
import Derived.Laws.OwnMore
import Derived.Test.YtapjpkcollkikaaDoorRSigAsks
namespace Go.Proofs.YtapjpkcollkikaaDoor
open Go.RowKit

set_option maxHeartbeats 2000000 in
theorem rcontent_any (c i : Int) (w : World) :
    Calls Tryd.prog 15 #[.int .i64 c, .int .i64 i] w fun e w' => e = .returned (.bool (sCont c i)) ∧ w = w' := by
  go_enter Tryd.func15, Tryd.ntmps15
  go_wp2
  all_goals (go_ret; refine ⟨?_, rfl⟩; simp_all [sCont])

theorem reps_cases (c i : Int) : (rAsk c i = false ∧ sReps c i = []) ∨ (rAsk c i = true ∧ (c == 60 && i == 70) = true ∧ sReps c i = [71, 72]) ∨ (rAsk c i = true ∧ (c == 60 && i == 70) = false ∧ sReps c i = [i + 1] ∧ 0 ≤ i ∧ i ≤ 1000) := by
  rcases look_cases c i with ⟨h, h1, h2, -⟩ | ⟨h, h2⟩
  · obtain ⟨g1, g2, g3⟩ := rask_mets _ h
    obtain ⟨k1, k2, -, -⟩ := mets_small _ h
    rw [h1, h2] at g1 g2 g3
    rw [h2] at k1 k2
    have hn : sNum c i = (fst (isAt c i)).r := rfl
    rcases g2 with g | g | ⟨g, rfl, rfl⟩
    · exact .inl ⟨by rw [g1, g]; rfl, by rw [sReps, hn, g]; rfl⟩
    · refine .inr (.inr ⟨by rw [g1, g]; rfl, ?_, by rw [sReps, hn, g]; simp, k1, k2⟩)
      rw [Bool.eq_false_iff]
      intro k
      simp only [Bool.and_eq_true, beq_iff_eq] at k
      have := g3 k
      omega
    · exact .inr (.inl ⟨by kernel_rfl, rfl, by kernel_rfl⟩)
  · refine .inl ⟨?_, by rw [sReps, sNum, h]; rfl⟩
    cases hr : rAsk c i
    · rfl
    · exact absurd ((rask_there hr).symm.trans h2) (by decide)

set_option maxHeartbeats 2000000 in
theorem rreplies_any (c i : Int) (w : World) :
    Calls Tryd.prog 11 #[.int .i64 c, .int .i64 i] w fun e w' => ∃ v, e = .returned v ∧ w'.ownsRow w.heap.size 3 1 v (sReps c i).length (intVals (sReps c i)) ∧ Below w.heap.size w w' := by
  have hA := rask_any c i w
  have HX := Lib.hid (reps_cases c i)
  generalize rAsk c i = q at hA HX
  generalize sReps c i = l at HX ⊢
  go_enter Tryd.func11, Tryd.ntmps11
  go_wp2_with fail
  refine hA.mono ?_
  rintro e w1 ⟨rfl, rfl⟩
  clear hA
  rcases HX.out with ⟨rfl, rfl⟩ | ⟨rfl, t, rfl⟩ | ⟨rfl, t, rfl, h1, h2⟩
  · clear HX
    go_wp2
    go_ret
    exact ⟨_, rfl, World.ownsRow_nil _ _ _ _, Below.refl _ _⟩
  · simp only [Bool.and_eq_true, beq_iff_eq] at t
    obtain ⟨rfl, rfl⟩ := t
    clear HX
    go_wp2
    go_ret
    exact ⟨_, rfl, World.ownsRow_lit w #[.int .i64 71, .int .i64 72] 2 (Nat.le_refl _) (by decide) rfl, (Below.refl _ _).alloc (Nat.le_refl _) _⟩
  · clear HX
    have e1 : IntKind.i64.wrap (i + 1) = i + 1 := by simp only [IntKind.wrap_i64]; omega
    cases t1 : (c == 60)
    · clear t
      go_wp2
      go_ret
      exact ⟨_, rfl, World.ownsRow_lit w #[.int .i64 (i + 1)] 1 (Nat.le_refl _) (by decide) rfl, (Below.refl _ _).alloc (Nat.le_refl _) _⟩
    · rw [t1, Bool.true_and] at t
      go_wp2
      go_ret
      exact ⟨_, rfl, World.ownsRow_lit w #[.int .i64 (i + 1)] 1 (Nat.le_refl _) (by decide) rfl, (Below.refl _ _).alloc (Nat.le_refl _) _⟩

theorem asks_cases (c i : Int) (hne : (c == 60 && i == 72) = false) : (0 < i ∧ rAsk c (i - 1) = true ∧ sAsks c i = i - 1) ∨ (0 < i ∧ rAsk c (i - 1) = false ∧ sAsks c i = 0) ∨ (i ≤ 0 ∧ sAsks c i = 0) := by
  cases hf : mets.find? (isBy c i) with
  | some m =>
    obtain ⟨h1, h2, h3⟩ := fst_mem hf
    obtain ⟨g1, g2, -⟩ := rask_mets m h2
    obtain ⟨k1, -, -, -⟩ := mets_small m h2
    simp only [isBy, List.any_eq_true, List.mem_range, hitBy, Bool.and_eq_true, beq_iff_eq] at h3
    obtain ⟨k, hk, rfl, rfl⟩ := h3
    have hk0 : k = 0 := by
      rcases g2 with g | g | ⟨g, e1, e2⟩
      · rw [g] at hk; exact absurd hk (by simp)
      · rw [g] at hk; simpa using hk
      · rw [g] at hk
        rw [e1, e2] at hne
        match k, hk with
        | 0, _ => rfl
        | 1, _ => exact absurd hne (by decide)
    subst hk0
    have e : m.i + 1 + ((0 : Nat) : Int) - 1 = m.i := by omega
    refine .inl ⟨by omega, ?_, by rw [sAsks, h1]; omega⟩
    rw [e, g1]
    simp only [decide_eq_true_eq]
    have : 0 < m.r.toNat := hk
    omega
  | none =>
    obtain ⟨h1, h2⟩ := fst_none hf
    have h0 : sAsks c i = 0 := by rw [sAsks, h1]; rfl
    by_cases hi : 0 < i
    · refine .inr (.inl ⟨hi, ?_, h0⟩)
      cases hr : rAsk c (i - 1)
      · rfl
      · exfalso
        have hs := hr
        rw [rask_is, decide_eq_true_eq] at hs
        rcases look_cases c (i - 1) with ⟨g, g1, g2, -⟩ | ⟨g, g2⟩
        · have := h2 _ g
          have hr0 : 0 < (fst (isAt c (i - 1))).r := hs
          have hb : isBy c i (fst (isAt c (i - 1))) = true := by
            rw [isBy, List.any_eq_true]
            refine ⟨0, List.mem_range.2 (by omega), ?_⟩
            rw [hitBy, g1, g2]
            simp
          rw [hb] at this
          cases this
        · rw [sNum, g] at hs
          exact absurd hs (by decide)
    · exact .inr (.inr ⟨by omega, h0⟩)

set_option maxHeartbeats 2000000 in
theorem rasks_any (c i : Int) (w : World) (hi : -9223372036854775808 ≤ i ∧ i ≤ 9223372036854775807) :
    Calls Tryd.prog 17 #[.int .i64 c, .int .i64 i] w fun e w' => e = .returned (.int .i64 (sAsks c i)) ∧ w = w' := by
  cases t : (c == 60 && i == 72)
  · have HX := Lib.hid (asks_cases c i t)
    have hA := rask_any c (i - 1) w
    generalize rAsk c (i - 1) = q at hA HX
    generalize sAsks c i = a at HX ⊢
    have tt : (c == 60) = false ∨ ((c == 60) = true ∧ (i == 72) = false) := by
      cases t1 : (c == 60)
      · exact .inl rfl
      · rw [t1, Bool.true_and] at t; exact .inr ⟨rfl, t⟩
    clear t
    rcases HX.out with ⟨h1, rfl, rfl⟩ | ⟨h1, rfl, rfl⟩ | ⟨h1, rfl⟩
    · clear HX
      have e1 : IntKind.i64.wrap (i - 1) = i - 1 := by simp only [IntKind.wrap_i64]; omega
      rcases tt with t1 | ⟨t1, t2⟩
      · go_enter Tryd.func17, Tryd.ntmps17
        go_wp2_with fail
        refine hA.mono ?_
        rintro e w1 ⟨rfl, rfl⟩
        go_wp2
        go_ret
        exact ⟨rfl, rfl⟩
      · go_enter Tryd.func17, Tryd.ntmps17
        go_wp2_with fail
        refine hA.mono ?_
        rintro e w1 ⟨rfl, rfl⟩
        go_wp2
        go_ret
        exact ⟨rfl, rfl⟩
    · clear HX
      have e1 : IntKind.i64.wrap (i - 1) = i - 1 := by simp only [IntKind.wrap_i64]; omega
      rcases tt with t1 | ⟨t1, t2⟩
      · go_enter Tryd.func17, Tryd.ntmps17
        go_wp2_with fail
        refine hA.mono ?_
        rintro e w1 ⟨rfl, rfl⟩
        go_wp2
        go_ret
        exact ⟨rfl, rfl⟩
      · go_enter Tryd.func17, Tryd.ntmps17
        go_wp2_with fail
        refine hA.mono ?_
        rintro e w1 ⟨rfl, rfl⟩
        go_wp2
        go_ret
        exact ⟨rfl, rfl⟩
    · clear HX hA
      have h2 : ¬ (0 < i) := by omega
      rcases tt with t1 | ⟨t1, t2⟩
      · go_enter Tryd.func17, Tryd.ntmps17
        go_wp2
        go_ret
        exact ⟨rfl, rfl⟩
      · go_enter Tryd.func17, Tryd.ntmps17
        go_wp2
        go_ret
        exact ⟨rfl, rfl⟩
  · simp only [Bool.and_eq_true, beq_iff_eq] at t
    obtain ⟨rfl, rfl⟩ := t
    rw [show sAsks 60 72 = 70 by kernel_rfl]
    go_enter Tryd.func17, Tryd.ntmps17
    go_wp2
    go_ret
    exact ⟨rfl, rfl⟩

set_option maxHeartbeats 2000000 in
theorem rints_same (A B : Option Addr) (ca cb : Nat) (l : List Int) (w : World) (hl : l.length < 1125899906842624) (hA : ValsAt w A (intVals l)) (hB : ValsAt w B (intVals l)) :
    Calls Tryd.prog 9 #[.slice A l.length ca, .slice B l.length cb] w fun e w' => e = .returned (.bool true) ∧ Below w.heap.size w w' := by
  go_enter Tryd.func9, Tryd.ntmps9
  go_wp2
  go_loopw [5] (fun v wr => ∃ k : Nat, k ≤ l.length ∧ v = .int .i64 k ∧ Below w.heap.size w wr) (fun v _ => l.length - (intOf v).toNat)
  case atStart => exact ⟨0, Nat.zero_le _, rfl, Below.refl _ _⟩
  case round =>
    obtain ⟨k, hk, rfl, hb⟩ := hrel
    by_cases hlt : k < l.length
    · obtain ⟨b1, o1, rfl, hb1, hc1⟩ := hA (by simp [intVals]; omega)
      obtain ⟨b2, o2, rfl, hb2, hc2⟩ := hB (by simp [intVals]; omega)
      have h1 := (hb.cell (p := ⟨b1, o1 + k, none⟩) hb1).trans (hc1 k (by simpa [intVals] using hlt))
      have h2 := (hb.cell (p := ⟨b2, o2 + k, none⟩) hb2).trans (hc2 k (by simpa [intVals] using hlt))
      simp only [intVals, List.getElem_map] at h1 h2
      clear hc1 hc2 hA hB
      generalize l[k] = x at *
      go_wp2
      go_quiet (fail)
      go_wp2
      go_roundw
      case rel => exact ⟨k + 1, by omega, by go_num, below_drewN hb _⟩
      case measure => simp [intOf]; omega
    · obtain rfl : k = l.length := by omega
      go_wp2
      go_ret
      exact ⟨rfl, hb⟩
end Go.Proofs.YtapjpkcollkikaaDoor
