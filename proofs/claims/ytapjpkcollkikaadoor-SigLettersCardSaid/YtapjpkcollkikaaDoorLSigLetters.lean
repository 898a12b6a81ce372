/-
  SigLetters answers true, whatever the class and id; nothing that was there is changed. Condition: the package's table of contents is as its text lays it.
-/
import Derived.Test.YtapjpkcollkikaaDoorLSigContents
namespace Go.Proofs.YtapjpkcollkikaaDoor
open Go.RowKit Go.Maps Go.Shelf

def letterN (n : Int) : Prop := n = 111 ∨ n = 115 ∨ n = 108 ∨ n = 113 ∨ n = 98 ∨ n = 83 ∨ n = 76 ∨ n = 84
def letterB (b : UInt8) : Bool := b == 111 || b == 115 || b == 108 || b == 113 || b == 98 || b == 83 || b == 76 || b == 84
theorem letterB_N {b : UInt8} (h : letterB b = true) : letterN (b.toNat : Int) := by
  simp only [letterB, Bool.or_eq_true, beq_iff_eq] at h
  unfold letterN
  rcases h with ((((((rfl | rfl) | rfl) | rfl) | rfl) | rfl) | rfl) | rfl <;> decide
theorem mets_letters : ∀ m ∈ mets, m.v.data.all letterB = true ∧ (m.s = 1 ∨ m.s = 2 ∨ m.s = 3) :=
  mets_all (q := fun m => m.v.data.all letterB && (decide (m.s = 1 ∨ m.s = 2 ∨ m.s = 3))) (fun m h => by
    simp only [Bool.and_eq_true, decide_eq_true_eq] at h
    exact h) (by kernel_rfl)
theorem sOf_letters (c i : Int) (k : Nat) (hk : k < (sOf c i).size) : letterN (((sOf c i)[k]'hk).toNat : Int) := by
  have h : (sOf c i).data.all letterB = true := by
    rcases look_cases c i with ⟨h, -⟩ | ⟨h, -⟩
    · exact (mets_letters _ h).1
    · rw [sOf, h]; kernel_rfl
  exact letterB_N (Array.all_eq_true.1 h k hk)
theorem side_facts (c i : Int) : (sIs c i = true ∧ (sSide c i = 1 ∨ sSide c i = 2 ∨ sSide c i = 3)) ∨ (sIs c i = false ∧ sSide c i = 0 ∧ sOf c i = ⟨#[]⟩ ∧ sCont c i = false ∧ sReps c i = []) := by
  rcases look_cases c i with ⟨h, -, -, h2⟩ | ⟨h, h2⟩
  · exact .inl ⟨h2, (mets_letters _ h).2⟩
  · refine .inr ⟨h2, by rw [sSide, h]; rfl, by rw [sOf, h]; rfl, ?_, by rw [sReps, sNum, h]; rfl⟩
    cases hC : sCont c i
    · rfl
    · exact absurd ((cont_facts hC).2.1.symm.trans h2) (by decide)

set_option maxRecDepth 100000 in
set_option maxHeartbeats 2000000 in
theorem sigLetters_walk (c i : Int) (w : World) (hk : Con w) :
    Calls Tryd.prog 4 #[.int .i64 c, .int .i64 i] w fun e w' => e = .returned (.bool true) ∧ Below w.heap.size w w' := by
  go_enter Tryd.func4, Tryd.ntmps4
  go_wp2_with fail
  refine (sigShown_any w).mono ?_
  rintro e w1 ⟨rfl, hb1⟩
  go_wp2_with fail
  refine (of_any c i w1).mono ?_
  rintro e w2 ⟨rfl, hq⟩
  have hb2 := hb1.trans (hq.mono hb1.size)
  clear hb1 hq
  have HF := Lib.hid (side_facts c i)
  have hl := sOf_letters c i
  have hsz : (sOf c i).size < 4611686018427387904 := by
    rcases look_cases c i with ⟨h, -⟩ | ⟨h, -⟩
    · exact mets_all (p := fun m => m.v.size < 4611686018427387904) (q := fun m => decide (m.v.size < 4611686018427387904)) (fun m h => of_decide_eq_true h) (by kernel_rfl) _ h
    · rw [sOf, h]; decide
  generalize sOf c i = s at HF hl hsz ⊢
  generalize sIs c i = q at HF ⊢
  go_wp2
  go_loop [8] (fun v => ∃ k : Nat, k ≤ s.size ∧ v = .int .i64 k) (fun v => s.size - (intOf v).toNat)
  case atStart => exact ⟨0, Nat.zero_le _, rfl⟩
  case round =>
    obtain ⟨k, hks, rfl⟩ := hrel
    by_cases hlt : k < s.size
    · have hx := hl k hlt
      clear hl HF hk
      have e1 : IntKind.i64.wrap ((k : Int) + 1) = ((k + 1 : Nat) : Int) := by simp only [IntKind.wrap_i64]; omega
      rcases hx with hx | hx | hx | hx | hx | hx | hx | hx
      all_goals (go_wp2; go_round)
      all_goals first
        | exact ⟨k + 1, hlt, rfl⟩
        | (simp only [intOf]; omega)
    · obtain rfl : k = s.size := by omega
      clear hl
      go_wp2_with fail
      refine (side_any c i w2).mono ?_
      rintro e w3 ⟨rfl, hq⟩
      have hb3 := hb2.trans (hq.mono hb2.size)
      rcases HF.out with ⟨rfl, h | h | h⟩ | ⟨rfl, h, hs, hC, hR⟩
      · rw [h]; clear HF hb2 hq h; go_wp2; go_ret; exact ⟨rfl, hb3⟩
      · rw [h]; clear HF hb2 hq h; go_wp2; go_ret; exact ⟨rfl, hb3⟩
      · rw [h]; clear HF hb2 hq h; go_wp2; go_ret; exact ⟨rfl, hb3⟩
      · subst hs
        rw [h]
        have hK := content_any c i w3 (hk.below hb3)
        rw [hC] at hK
        have hR1 := replies_any c i
        rw [hR] at hR1
        clear HF hb2 hq h hC hR hk
        go_wp2_with fail
        refine hK.mono ?_
        rintro e w4 ⟨rfl, hq⟩
        have hb4 := hb3.trans (hq.mono hb3.size)
        clear hb3 hq hK
        go_wp2_with fail
        refine (hR1 w4).mono ?_
        rintro e w5 ⟨v, rfl, hown, hq⟩
        have hb5 := hb4.trans (hq.mono hb4.size)
        obtain ⟨A, cap, rfl, -⟩ := vals_of_row hown
        clear hb4 hq hR1 hown
        dsimp only [List.length_nil]
        go_wp2
        go_ret
        exact ⟨rfl, hb5⟩
end Go.Proofs.YtapjpkcollkikaaDoor
