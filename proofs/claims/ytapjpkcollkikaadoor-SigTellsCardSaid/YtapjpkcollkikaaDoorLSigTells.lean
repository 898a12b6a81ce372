/-
  SigTells answers true, whatever the class and id; nothing that was there is changed. Condition: the package's table of contents is as its text lays it.
-/
import Derived.Test.YtapjpkcollkikaaDoorRSigOf
import Derived.Test.YtapjpkcollkikaaDoorRSigRest
import Derived.Test.YtapjpkcollkikaaDoorWCont
namespace Go.Proofs.YtapjpkcollkikaaDoor
open Go.RowKit Go.Maps Go.Shelf

theorem sReps_length (c i : Int) : (sReps c i).length ≤ 2 := by
  rcases reps_cases c i with ⟨-, h⟩ | ⟨-, -, h⟩ | ⟨-, -, h, -⟩ <;> rw [h] <;> simp

set_option maxRecDepth 100000 in
set_option maxHeartbeats 2000000 in
theorem sigTells_walk (c i : Int) (w : World) (hk : Con w) (hi : -9223372036854775808 ≤ i ∧ i ≤ 9223372036854775807) :
    Calls Tryd.prog 3 #[.int .i64 c, .int .i64 i] w fun e w' => e = .returned (.bool true) ∧ Below w.heap.size w w' := by
  go_enter Tryd.func3, Tryd.ntmps3
  go_wp2_with fail
  refine (sigShown_any w).mono ?_
  rintro e w1 ⟨rfl, hb1⟩
  go_wp2_with fail
  refine (of_any c i w1).mono ?_
  rintro e w2 ⟨rfl, hq⟩
  have hb2 := hb1.trans (hq.mono hb1.size)
  clear hb1 hq
  go_wp2_with fail
  refine (rof_any c i w2).mono ?_
  rintro e w3 ⟨rfl, hq⟩
  have hb3 := hb2.trans (hq.mono hb2.size)
  clear hb2 hq
  generalize sOf c i = s
  generalize sIs c i = q
  go_wp2_with fail
  refine (replies_any c i w3).mono ?_
  rintro e w4 ⟨v, rfl, hown, hq⟩
  have hb4 := hb3.trans (hq.mono hb3.size)
  clear hb3 hq
  go_wp2_with fail
  refine (rreplies_any c i w4).mono ?_
  rintro e w5 ⟨v', rfl, hown', hq⟩
  have hb5 := hb4.trans (hq.mono hb4.size)
  have hown1 := rowKept hown hq
  obtain ⟨A, ca, rfl, hA⟩ := vals_of_row hown1
  obtain ⟨B, cb, rfl, hB⟩ := vals_of_row hown'
  clear hb4 hq hown hown' hown1
  have hI := rints_same A B ca cb (sReps c i) w5 (by have := sReps_length c i; omega) hA hB
  clear hA hB
  generalize (sReps c i).length = n at hI ⊢
  go_wp2_with fail
  refine hI.mono ?_
  rintro e w6 ⟨rfl, hq⟩
  have hb6 := hb5.trans (hq.mono hb5.size)
  clear hb5 hq hI
  go_wp2_with fail
  refine (side_any c i w6).mono ?_
  rintro e w7 ⟨rfl, hq⟩
  have hb7 := hb6.trans (hq.mono hb6.size)
  clear hb6 hq
  go_wp2_with fail
  refine (rside_any c i w7).mono ?_
  rintro e w8 ⟨rfl, hq⟩
  have hb8 := hb7.trans (hq.mono hb7.size)
  clear hb7 hq
  generalize sSide c i = sd
  go_wp2_with fail
  refine (content_any c i w8 (hk.below hb8)).mono ?_
  rintro e w9 ⟨rfl, hq⟩
  have hb9 := hb8.trans (hq.mono hb8.size)
  clear hb8 hq
  go_wp2_with fail
  refine (rcontent_any c i w9).mono ?_
  rintro e w10 ⟨rfl, rfl⟩
  generalize sCont c i = ct
  go_wp2_with fail
  refine (asks_any c i w9).mono ?_
  rintro e w10 ⟨rfl, hq⟩
  have hb10 := hb9.trans (hq.mono hb9.size)
  clear hb9 hq
  go_wp2_with fail
  refine (rasks_any c i w10 hi).mono ?_
  rintro e w11 ⟨rfl, rfl⟩
  generalize sAsks c i = a
  go_wp2
  go_ret
  exact ⟨rfl, hb10⟩
end Go.Proofs.YtapjpkcollkikaaDoor
