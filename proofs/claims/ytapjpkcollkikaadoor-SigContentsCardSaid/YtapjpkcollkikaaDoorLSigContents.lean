/-
  SigContents answers true, whatever the class and id; nothing that was there is changed. Condition: the package's table of contents is as its text lays it.
-/
import Derived.Test.YtapjpkcollkikaaDoorWCont
namespace Go.Proofs.YtapjpkcollkikaaDoor
open Go.RowKit Go.Maps Go.Shelf

theorem cont_facts {c i : Int} (h : sCont c i = true) : c = 60 ∧ sIs c i = true ∧ sReps c i = [] ∧ (sAsks c i = 0 ∨ sAsks c i = 70) := by
  simp only [sCont, Bool.and_eq_true, Bool.or_eq_true, beq_iff_eq] at h
  obtain ⟨rfl, ((rfl | rfl) | rfl) | rfl⟩ := h
  · exact ⟨rfl, by kernel_rfl, by kernel_rfl, .inl (by kernel_rfl)⟩
  · exact ⟨rfl, by kernel_rfl, by kernel_rfl, .inl (by kernel_rfl)⟩
  · exact ⟨rfl, by kernel_rfl, by kernel_rfl, .inl (by kernel_rfl)⟩
  · exact ⟨rfl, by kernel_rfl, by kernel_rfl, .inr (by kernel_rfl)⟩

set_option maxHeartbeats 2000000 in
theorem sigContents_walk (c i : Int) (w : World) (hk : Con w) :
    Calls Tryd.prog 5 #[.int .i64 c, .int .i64 i] w fun e w' => e = .returned (.bool true) ∧ Below w.heap.size w w' := by
  go_enter Tryd.func5, Tryd.ntmps5
  go_wp2_with fail
  refine (sigShown_any w).mono ?_
  rintro e w1 ⟨rfl, hb1⟩
  go_wp2_with fail
  refine (content_any c i w1 (hk.below hb1)).mono ?_
  rintro e w2 ⟨rfl, hq⟩
  have hb2 := hb1.trans (hq.mono hb1.size)
  clear hb1 hq hk
  cases hC : sCont c i
  · go_wp2
    go_ret
    exact ⟨rfl, hb2⟩
  · obtain ⟨rfl, h1, h2, h3⟩ := cont_facts hC
    clear hC
    go_wp2_with fail
    refine (of_any 60 i w2).mono ?_
    rw [h1]
    rintro e w3 ⟨rfl, hq⟩
    have hb3 := hb2.trans (hq.mono hb2.size)
    clear hb2 hq h1
    go_wp2_with fail
    refine (replies_any 60 i w3).mono ?_
    rw [h2]
    rintro e w4 ⟨v, rfl, hown, hq⟩
    have hb4 := hb3.trans (hq.mono hb3.size)
    obtain ⟨A, cap, rfl, -⟩ := vals_of_row hown
    clear hb3 hq h2 hown
    dsimp only [List.length_nil]
    go_wp2_with fail
    refine (asks_any 60 i w4).mono ?_
    rintro e w5 ⟨rfl, hq⟩
    have hb5 := hb4.trans (hq.mono hb4.size)
    clear hb4 hq
    rcases h3 with h3 | h3
    · rw [h3]
      go_wp2
      go_ret
      exact ⟨rfl, hb5⟩
    · have hA := asks_any 60 i w5
      rw [h3] at hA ⊢
      go_wp2_with fail
      refine hA.mono ?_
      rintro e w6 ⟨rfl, hq⟩
      have hb6 := hb5.trans (hq.mono hb5.size)
      clear hb5 hq hA h3
      go_wp2
      go_ret
      exact ⟨rfl, hb6⟩
end Go.Proofs.YtapjpkcollkikaaDoor
