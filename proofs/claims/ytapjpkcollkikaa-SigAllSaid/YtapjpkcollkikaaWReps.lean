/-
  sig.Replies answers the ids of a method's replies, in a row of its own; nothing that was there is changed. No condition.
-/
import Derived.Test.YtapjpkcollkikaaWSigB
import Derived.Test.YtapjpkcollkikaaMRow
namespace Go.Proofs.Ytapjpkcollkikaa
open Go.RowKit Go.Maps Go.Shelf

theorem infoI64 : (Try.prog.info? 3).map (fun i => (i.zero, i.size, i.bytes)) = some (some (.int .i64 0), 1, 8) := by kernel_rfl
theorem index2 (a b : Int) (w : World) : (Instr.index 27 (.agg #[.int .i64 a, .int .i64 b]) (.int .i64 1)).run Try.prog w = .ok (.int .i64 b) w := by kernel_rfl
def repsTo (i : Int) (k : Nat) : List Int := (List.range k).map fun (j : Nat) => i + 1 + (j : Int)
theorem repsTo_succ (i : Int) (k : Nat) : repsTo i (k + 1) = repsTo i k ++ [i + 1 + (k : Int)] := by simp [repsTo, List.range_succ]
theorem repsTo_length (i : Int) (k : Nat) : (repsTo i k).length = k := by simp [repsTo]
/-- the replies of what isn't there are none; of what is, they are reckoned from its own id -/
theorem look_cases (c i : Int) : (fst (isAt c i) ∈ mets ∧ (fst (isAt c i)).c = c ∧ (fst (isAt c i)).i = i ∧ sIs c i = true) ∨ (fst (isAt c i) = noMet ∧ sIs c i = false) := by
  cases h : mets.find? (isAt c i) with
  | none =>
    obtain ⟨h1, h2⟩ := fst_none h
    exact .inr ⟨h1, by rw [sIs, List.any_eq_false]; exact fun m hm => by rw [h2 m hm]; simp⟩
  | some m =>
    obtain ⟨h1, h2, h3⟩ := fst_mem h
    rw [h1]
    simp only [isAt, Bool.and_eq_true, beq_iff_eq] at h3
    exact .inl ⟨h2, h3.1, h3.2, by rw [sIs, List.any_eq_true]; exact ⟨m, h2, by simp [isAt, h3.1, h3.2]⟩⟩

set_option maxRecDepth 100000 in
set_option maxHeartbeats 2000000 in
theorem replies_any (c i : Int) (w : World) :
    Calls Try.prog 10 #[.int .i64 c, .int .i64 i] w fun e w' => ∃ v, e = .returned v ∧ w'.ownsRow w.heap.size 3 1 v (sReps c i).length (intVals (sReps c i)) ∧ Below w.heap.size w w' := by
  have hF := lookUp_any c i w
  obtain ⟨i0, hi, hz0, hz1, hz2⟩ := info_parts infoI64
  have hX := index2
  obtain ⟨n, hn, hnr, hj, hsr⟩ : ∃ n : Nat, n ≤ 1000 ∧ (fst (isAt c i)).r = n ∧ (0 ≤ (fst (isAt c i)).i ∧ (fst (isAt c i)).i ≤ 1000) ∧ sReps c i = repsTo (fst (isAt c i)).i n := by
    rcases look_cases c i with ⟨h1, -, h2, -⟩ | ⟨h1, -⟩
    · obtain ⟨g1, g2, g3, g4⟩ := mets_small _ h1
      refine ⟨(fst (isAt c i)).r.toNat, by omega, by omega, ⟨g1, g2⟩, ?_⟩
      rw [sReps, sNum, h2, repsTo]
    · refine ⟨0, by omega, by rw [h1]; rfl, by rw [h1]; decide, ?_⟩
      rw [sReps, sNum, h1]
      rfl
  have HI := Lib.hid hsr
  clear hsr
  have hR := fun (k : Nat) (w : World) (hk : k ≤ 1000) => reply_any (fst (isAt c i)) k w hj (by omega)
  generalize sReps c i = rs at HI
  generalize sIs c i = q at hF
  generalize fst (isAt c i) = m at hF HI hnr hj hR
  obtain ⟨c1, j1, v, s, k1⟩ := m
  unfold encMet at hF hR
  dsimp only at hF HI hnr hj hR
  subst hnr
  go_enter Try.func10, Try.ntmps10
  go_wp2_with fail
  refine hF.mono ?_
  rintro e w1 ⟨rfl, hb⟩
  have hB := Bx.new w1 37 [.int .i64 c1, .int .i64 j1, .string v, .int .i64 s, .int .i64 (n : Int)]
  have hb1 := hb.alloc hb.size (.cells #[.int .i64 c1, .int .i64 j1, .string v, .int .i64 s, .int .i64 (n : Int)] 37)
  clear hF hj
  go_wp2_with fail
  generalize w1.alloc (.cells #[.int .i64 c1, .int .i64 j1, .string v, .int .i64 s, .int .i64 (n : Int)] 37) = W0 at hB hb1
  have hbs := hb1.size
  go_loopw [7, 17] (fun o x wr => ∃ k : Nat, k ≤ n ∧ x = .int .i64 k ∧ wr.ownsRow W0.heap.size 3 1 o k (intVals (repsTo j1 k)) ∧ Below W0.heap.size W0 wr) (fun _ x _ => n - (intOf x).toNat)
  case atStart => exact ⟨0, Nat.zero_le _, rfl, World.ownsRow_nil _ _ _ _, Below.refl _ _⟩
  case round =>
    obtain ⟨k, hk, rfl, hown, hbr⟩ := hrel
    have hbrs := hbr.size
    by_cases hlt : k < n
    · have hk1 : k ≤ 1000 := by omega
      have hR1 := hR k wr hk1
      have HS := Lib.hid (repsTo_succ j1 k)
      have bW := hB.below hbr hB.lt
      have x0 := bW.cell 0 (by simp)
      have x1 := bW.cell 1 (by simp)
      have x2 := bW.cell 2 (by simp)
      have x3 := bW.cell 3 (by simp)
      have x4 := bW.cell 4 (by simp)
      dsimp only [List.getElem_cons_zero, List.getElem_cons_succ] at x0 x1 x2 x3 x4
      clear hR bW
      go_wp2_with fail
      refine hR1.mono ?_
      rintro e w2 ⟨rfl, hq⟩
      have hown2 := rowKept hown hq
      have hbr2 := hbr.trans (hq.mono hbrs)
      have hX1 := hX c1 (j1 + 1 + (k : Int))
      have hs2 := hbr2.size
      clear hR1 hown hbr hq x0 x1 x2 x3 x4 hX
      generalize j1 + 1 + (k : Int) = y at HS hX1
      go_wp2_with (first
        | (at_builtin; refine wpList_append_own _ rfl _ _ 31 rfl W0.heap.size 3 i0 (.int .i64 0) 1 8 Try.underlying31 hi hz0 hz1 hz2 rfl (by decide) _ _ _ rfl (hown2.alloc _) ⟨w2.heap.size, 0, none⟩ 1 1 [.int .i64 y] rfl rfl (cell_one_new _ _ _) (by simp [Value.oneCell']) (by unfold maxLen; omega) (by omega) (by simp; omega) ?_))
      intro o' w3 hown' hgrow _
      have hb3 := rowBelow (Nat.le_refl _) hown2 hbr2 hgrow
      have Hown : Hid (w3.ownsRow W0.heap.size 3 1 o' (k + 1) (intVals (repsTo j1 (k + 1)))) := Lib.hid (by rw [HS.out, intVals_snoc]; exact hown')
      have e1 : IntKind.i64.wrap ((k : Int) + 1) = ((k + 1 : Nat) : Int) := by simp only [IntKind.wrap_i64]; omega
      clear hown' hgrow hown2 hbr2
      go_wp2
      go_roundw
      case rel => exact ⟨k + 1, hlt, rfl, Hown.out, hb3⟩
      case measure => simp only [intOf]; omega
    · obtain rfl : k = n := by omega
      clear hR hX
      go_wp2
      go_ret
      exact ⟨_, rfl, by rw [HI.out, repsTo_length]; exact hown.mono hbs, hb1.trans (hbr.mono hbs)⟩
end Go.Proofs.Ytapjpkcollkikaa
