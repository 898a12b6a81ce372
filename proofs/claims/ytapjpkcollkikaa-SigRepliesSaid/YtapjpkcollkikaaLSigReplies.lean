/-
  SigReplies answers true, whatever the class, id and place; nothing that was there is changed. No condition.
-/
import Derived.Test.YtapjpkcollkikaaPSigLaw
import Derived.Test.YtapjpkcollkikaaWSigShown
namespace Go.Proofs.Ytapjpkcollkikaa
open Go.RowKit Go.Maps Go.Shelf

set_option maxRecDepth 100000 in
set_option maxHeartbeats 2000000 in
theorem sigReplies_walk (c i j : Int) (w : World) :
    Calls Try.prog 4 #[.int .i64 c, .int .i64 i, .int .i64 j] w fun e w' => e = .returned (.bool true) ∧ Below w.heap.size w w' := by
  go_enter Try.func4, Try.ntmps4
  go_wp2_with fail
  refine (sigShown_any w).mono ?_
  rintro e w1 ⟨rfl, hb1⟩
  go_wp2_with fail
  refine (replies_any c i w1).mono ?_
  rintro e w2 ⟨v, rfl, hown, hq⟩
  have hb2 := hb1.trans (hq.mono hb1.size)
  clear hb1 hq
  go_wp2_with fail
  refine (asks_any c i w2).mono ?_
  rintro e w3 ⟨rfl, hq⟩
  have hb3 := hb2.trans (hq.mono hb2.size)
  have hown3 := rowKept hown hq
  obtain ⟨A, ca, rfl, hA⟩ := vals_of_row hown3
  clear hb2 hq hown hown3
  by_cases ha : sAsks c i = 0
  · have HL := Lib.hid (fun (k : Nat) (hk : k < (sReps c i).length) => reps_at (List.getElem_mem hk))
    have hlen := reps_len c i
    rw [ha]
    generalize sReps c i = l at HL hA hlen ⊢
    clear ha
    by_cases h0 : j < 0
    · go_wp2
      go_ret
      exact ⟨rfl, hb3⟩
    · by_cases h1 : (l.length : Int) ≤ j
      · have h2 : ¬ (j < (l.length : Int)) := by omega
        go_wp2
        go_ret
        exact ⟨rfl, hb3⟩
      · obtain ⟨k, rfl⟩ : ∃ k : Nat, j = k := ⟨j.toNat, by omega⟩
        have hk : k < l.length := by omega
        have hk2 : (k : Int) < (l.length : Int) := by omega
        obtain ⟨g1, g2, g3⟩ := HL.out k hk
        obtain ⟨b, off, rfl, hbl, hc⟩ := hA (by simp [intVals]; omega)
        have hx : ∀ w', Below w3.heap.size w3 w' → w'.cell? ⟨b, off + k, none⟩ = some (.int .i64 l[k]) := fun w' h => by
          rw [h.cell (p := ⟨b, off + k, none⟩) hbl, hc k (by simpa [intVals] using hk)]
          simp [intVals]
        clear HL hc hA
        generalize l[k] = y at g1 g2 g3 hx
        have hS1 := side_any c i w3
        have hS2 := side_any c y
        have hA2 := asks_any c y
        have hR2 := replies_any c y
        rw [g1] at hA2
        rw [g2] at hR2
        generalize sSide c i = s at hS1 g3
        generalize sSide c y = t at hS2 g3
        clear g1 g2
        go_wp2_with fail
        refine hS1.mono ?_
        rintro e w4 ⟨rfl, hq⟩
        have hb4 := hb3.trans (hq.mono hb3.size)
        have x4 := hx w4 hq
        have hx4 := fun w' (h : Below w4.heap.size w4 w') => hx w' (hq.trans (h.mono hq.size))
        clear hS1 hx hb3 hq
        go_wp2_with fail
        refine (hS2 w4).mono ?_
        rintro e w5 ⟨rfl, hq⟩
        have hb5 := hb4.trans (hq.mono hb4.size)
        have x5 := hx4 w5 hq
        have hx5 := fun w' (h : Below w5.heap.size w5 w') => hx4 w' (hq.trans (h.mono hq.size))
        clear hS2 hx4 hb4 hq x4
        rcases g3 with ⟨rfl, rfl⟩ | ⟨rfl, rfl⟩ | ⟨rfl, rfl⟩
        all_goals (
          go_wp2_with fail
          refine (hA2 w5).mono ?_
          rintro e w6 ⟨rfl, hq⟩
          have hb6 := hb5.trans (hq.mono hb5.size)
          have x6 := hx5 w6 hq
          clear hA2 hx5 hb5 hq x5
          go_wp2_with fail
          refine (hR2 w6).mono ?_
          rintro e w7 ⟨v, rfl, hown, hq⟩
          have hb7 := hb6.trans (hq.mono hb6.size)
          obtain ⟨A, cap, rfl, -⟩ := vals_of_row hown
          clear hb6 hq hR2 hown x6
          dsimp only [List.length_nil]
          go_wp2
          go_ret
          exact ⟨rfl, hb7⟩)
  · obtain ⟨g1, g2, -⟩ := asks_at ha
    have hS := side_any c (sAsks c i) w3
    rw [g1]
    generalize sAsks c i = a at ha hS g2 ⊢
    generalize sSide c a = s at hS g2
    have t1 : (a != 0) = true := by simpa using ha
    have t2 : (s == 0) = false := by simpa using g2
    clear ha g1 g2 hA
    dsimp only [List.length_nil]
    go_wp2_with fail
    refine hS.mono ?_
    rintro e w4 ⟨rfl, hq⟩
    have hb4 := hb3.trans (hq.mono hb3.size)
    clear hS hb3 hq
    by_cases h0 : j < 0
    · go_wp2
      go_ret
      exact ⟨rfl, hb4⟩
    · have h1 : (0 : Int) ≤ j := by omega
      go_wp2
      go_ret
      exact ⟨rfl, hb4⟩
end Go.Proofs.Ytapjpkcollkikaa
