/-
  NumCuts: with fewer bytes than are needed it is told that some are missing; with more it isn't: the walk of the law. Condition: the package's table of widths holds 1, 2, 4, 8.
-/
import Derived.Test.YtcmgoifjbobpoaaDoorWShown
import Derived.Test.YtcmgoifjbobpoaaDoorRTake
import Derived.Lib.Strings
namespace Go.Proofs.YtcmgoifjbobpoaaDoor
open Go.RowKit

theorem ext_join (s : ByteArray) (k : Nat) : s.extract 0 k ++ s.extract k s.size = s := by
  apply ByteArray.ext
  apply Array.toList_inj.1
  rw [ByteArray.data_append, Array.toList_append, Lib.extract_data, Lib.extract_data]
  simp only [List.drop_zero, Nat.sub_zero]
  rw [List.take_of_length_le (l := s.data.toList.drop k) (by simp)]
  exact List.take_append_drop _ _

set_option maxHeartbeats 400000 in
theorem cuts_any (s : ByteArray) (n k : Int) (w : World) (hw : Wid w) (k0 : 0 ≤ k) (hs : s.size ≤ maxLen) :
    Calls Tryd.prog 7 #[.string s, .int .i64 n, .int .u64 k] w fun e w' => e = .returned (.bool true) ∧ Below w.heap.size w w' := by
  obtain ⟨k, rfl⟩ := Int.eq_ofNat_of_zero_le k0
  have hs' := hs
  unfold maxLen at hs'
  go_enter Tryd.func7, Tryd.ntmps7
  go_wp2_with fail
  refine (shown_any w hw).mono ?_
  rintro e w1 ⟨rfl, hb1⟩
  have hw1 := hw.below hb1
  go_wp2_with fail
  refine (take_any s n w1 hw1).mono ?_
  rintro e w2 ⟨rfl, hb2⟩
  have hb2 := hb1.trans (hb2.mono hb1.size)
  clear hb1 hw1
  go_wp2_with fail
  refine (skip_any s k w2 (by omega) hs).mono ?_
  rintro e w3 ⟨rfl, hb3⟩
  have hb3 := hb2.trans (hb3.mono hb2.size)
  clear hb2
  have hsk : (skipE s k = 0 ∧ skipA s k = s.extract 0 k ∧ skipB s k = s.extract k s.size ∧ k ≤ s.size) ∨ (skipE s k = 2 ∧ s.size < k) := by
    by_cases hk : k ≤ s.size
    · exact Or.inl ⟨by simp [skipE, skipOk]; omega, by simp [skipA, skipOk]; omega, by simp [skipB, skipOk]; omega, hk⟩
    · exact Or.inr ⟨by simp [skipE, skipOk]; omega, by omega⟩
  cases hn : isW n
  · obtain ⟨t1, t2, t3, t4⟩ : (n == 1) = false ∧ (n == 2) = false ∧ (n == 4) = false ∧ (n == 8) = false := by
      simp [isW] at hn; simp; omega
    have hE : takeE s n = 1 := by simp [takeE, hn]
    rw [hE]
    clear hn hE
    rcases hsk with ⟨e1, e2, e3, hk⟩ | ⟨e1, hk⟩
    · rw [e1, e2, e3]
      have HJ := Lib.hid (ext_join s k)
      clear e1 e2 e3
      go_wp2
      go_ret
      exact ⟨by simp; omega, hb3⟩
    · rw [e1]
      clear e1
      go_wp2
      go_ret
      exact ⟨by simp, hb3⟩
  · have hz : (takeE s n = 0 ∧ n ≤ s.size) ∨ (takeE s n = 2 ∧ (s.size : Int) < n) := by
      by_cases hz : n ≤ s.size
      · exact Or.inl ⟨by simp [takeE, takeOk, hn, hz], hz⟩
      · exact Or.inr ⟨by simp [takeE, takeOk, hn, hz], by omega⟩
    rcases hz with ⟨e0, hz⟩ | ⟨e0, hz⟩
    all_goals
      rw [e0]
      clear e0
      rcases hsk with ⟨e1, e2, e3, hk⟩ | ⟨e1, hk⟩
      · rw [e1, e2, e3]
        have HJ := Lib.hid (ext_join s k)
        clear e1 e2 e3
        rcases isW_cases hn with rfl | rfl | rfl | rfl
        all_goals
          clear hn
          go_wp2
          go_ret
          exact ⟨by simp; try omega, hb3⟩
      · rw [e1]
        clear e1
        rcases isW_cases hn with rfl | rfl | rfl | rfl
        all_goals
          clear hn
          go_wp2
          go_ret
          exact ⟨by simp; try omega, hb3⟩
end Go.Proofs.YtcmgoifjbobpoaaDoor
