/-
  The document's own inside and size of interchangeref03 are what the plain functions of PTab say; nothing that was there is changed. Conditions: texts of fewer than 2^62 bytes.
-/
import Derived.Test.YtdgpemkoicoheaaDoorRShort
import Derived.Test.YtdgpemkoicoheaaDoorWTabR
namespace Go.Proofs.YtdgpemkoicoheaaDoor
open Go.RowKit

set_option maxRecDepth 100000 in
theorem rinside_any (s : ByteArray) (w : World) (hs : s.size < 4611686018427387904) :
    Calls Tryd.prog 43 #[.string s] w fun e w' => e = .returned (.tuple #[.string (ttA 4 s), .string (ttR 4 s), .int .i64 (ttE 4 s)]) ∧ Below w.heap.size w w' := by
  have hl := takeR_le s 4
  have h0 := takeV_nonneg s 4
  have h4 := takeV_lt s 4
  go_enter Tryd.func43, Tryd.ntmps43
  go_wp2_with fail
  refine (rtake_any s 4 w).mono ?_
  rintro e w1 ⟨rfl, hb⟩
  cases h : takeOk s 4
  · obtain ⟨t1, -⟩ := takeE_not h
    have H := Lib.hid (show ttA 4 s = ⟨#[]⟩ ∧ ttR 4 s = ⟨#[]⟩ ∧ ttE 4 s = 2 by
      refine ⟨by rw [ttA, if_neg (by simp [h])], by rw [ttR, if_neg (by simp [h])], ?_⟩
      exact ttE_four (by rw [ttOk, h]; rfl))
    clear h
    generalize takeV s 4 = a at h0 h4 ⊢
    generalize takeR s 4 = b at hl ⊢
    generalize takeE s 4 = x at t1 ⊢
    go_wp2
    go_ret3
    refine ⟨?_, hb⟩
    rw [H.out.1, H.out.2.1, H.out.2.2]
    rfl
  · rw [takeE_of h]
    have HA := Lib.hid (show ttA 4 s = skipA (takeR s 4) (takeV s 4) ∧ ttR 4 s = skipB (takeR s 4) (takeV s 4) ∧ ttE 4 s = skipE (takeR s 4) (takeV s 4) from ⟨by rw [ttA, if_pos h], by rw [ttR, if_pos h], by rw [ttE, if_pos h]⟩)
    clear h
    generalize takeV s 4 = v at h0 h4 HA ⊢
    generalize takeR s 4 = b at hl HA ⊢
    obtain ⟨k, rfl⟩ := Int.eq_ofNat_of_zero_le h0
    clear h0 h4
    by_cases hc : k ≤ b.size
    · have hk : skipOk b (k : Int) = true := by simp [skipOk]; omega
      have H := Lib.hid (show ttA 4 s = b.extract 0 k ∧ ttR 4 s = b.extract k b.size ∧ ttE 4 s = 0 by
        rw [HA.out.1, HA.out.2.1, HA.out.2.2, skipA, skipB, skipE, if_pos hk, if_pos hk, if_pos hk]
        exact ⟨rfl, rfl, rfl⟩)
      clear HA hk
      go_wp2
      go_quiet (fail)
      go_wp2
      go_ret3
      refine ⟨?_, below_drewN hb _⟩
      rw [H.out.1, H.out.2.1, H.out.2.2]
      rfl
    · have hk : skipOk b (k : Int) = false := by simp [skipOk]; omega
      have H := Lib.hid (show ttA 4 s = ⟨#[]⟩ ∧ ttR 4 s = ⟨#[]⟩ ∧ ttE 4 s = 2 by
        rw [HA.out.1, HA.out.2.1, HA.out.2.2, skipA, skipB, skipE, if_neg (by simp [hk]), if_neg (by simp [hk]), if_neg (by simp [hk])]
        exact ⟨rfl, rfl, rfl⟩)
      clear HA hk
      go_wp2
      go_ret3
      refine ⟨?_, hb⟩
      rw [H.out.1, H.out.2.1, H.out.2.2]
      rfl

/-- how many bytes a value of a kind has; -1: not always as many -/
def sizeK (c : Int) : Int := if 0 ≤ kindV c then kindV c else -1
set_option maxHeartbeats 2000000 in
theorem rsize_any (c : Int) (w : World) :
    Calls Tryd.prog 45 #[.int .u8 c] w fun e w' => e = .returned (.int .i64 (sizeK c)) ∧ w = w' := by
  by_cases h : c = 86 ∨ c = 116 ∨ c = 98 ∨ c = 66 ∨ c = 115 ∨ c = 117 ∨ c = 73 ∨ c = 105 ∨ c = 102 ∨ c = 68 ∨ c = 108 ∨ c = 100 ∨ c = 84
  · rcases h with rfl | rfl | rfl | rfl | rfl | rfl | rfl | rfl | rfl | rfl | rfl | rfl | rfl
    · have H := Lib.hid (show sizeK 86 = 0 by decide)
      go_enter Tryd.func45, Tryd.ntmps45
      go_wp2
      go_ret
      exact ⟨by rw [H.out]; rfl, rfl⟩
    · have H := Lib.hid (show sizeK 116 = 1 by decide)
      go_enter Tryd.func45, Tryd.ntmps45
      go_wp2
      go_ret
      exact ⟨by rw [H.out]; rfl, rfl⟩
    · have H := Lib.hid (show sizeK 98 = 1 by decide)
      go_enter Tryd.func45, Tryd.ntmps45
      go_wp2
      go_ret
      exact ⟨by rw [H.out]; rfl, rfl⟩
    · have H := Lib.hid (show sizeK 66 = 1 by decide)
      go_enter Tryd.func45, Tryd.ntmps45
      go_wp2
      go_ret
      exact ⟨by rw [H.out]; rfl, rfl⟩
    · have H := Lib.hid (show sizeK 115 = 2 by decide)
      go_enter Tryd.func45, Tryd.ntmps45
      go_wp2
      go_ret
      exact ⟨by rw [H.out]; rfl, rfl⟩
    · have H := Lib.hid (show sizeK 117 = 2 by decide)
      go_enter Tryd.func45, Tryd.ntmps45
      go_wp2
      go_ret
      exact ⟨by rw [H.out]; rfl, rfl⟩
    · have H := Lib.hid (show sizeK 73 = 4 by decide)
      go_enter Tryd.func45, Tryd.ntmps45
      go_wp2
      go_ret
      exact ⟨by rw [H.out]; rfl, rfl⟩
    · have H := Lib.hid (show sizeK 105 = 4 by decide)
      go_enter Tryd.func45, Tryd.ntmps45
      go_wp2
      go_ret
      exact ⟨by rw [H.out]; rfl, rfl⟩
    · have H := Lib.hid (show sizeK 102 = 4 by decide)
      go_enter Tryd.func45, Tryd.ntmps45
      go_wp2
      go_ret
      exact ⟨by rw [H.out]; rfl, rfl⟩
    · have H := Lib.hid (show sizeK 68 = 5 by decide)
      go_enter Tryd.func45, Tryd.ntmps45
      go_wp2
      go_ret
      exact ⟨by rw [H.out]; rfl, rfl⟩
    · have H := Lib.hid (show sizeK 108 = 8 by decide)
      go_enter Tryd.func45, Tryd.ntmps45
      go_wp2
      go_ret
      exact ⟨by rw [H.out]; rfl, rfl⟩
    · have H := Lib.hid (show sizeK 100 = 8 by decide)
      go_enter Tryd.func45, Tryd.ntmps45
      go_wp2
      go_ret
      exact ⟨by rw [H.out]; rfl, rfl⟩
    · have H := Lib.hid (show sizeK 84 = 8 by decide)
      go_enter Tryd.func45, Tryd.ntmps45
      go_wp2
      go_ret
      exact ⟨by rw [H.out]; rfl, rfl⟩
  · have hs : sizeK c = -1 := by
      unfold sizeK kindV
      repeat' split
      all_goals omega
    have t1 : (c == 86) = false := by rw [beq_eq_false_iff_ne]; omega
    have t2 : (c == 116) = false := by rw [beq_eq_false_iff_ne]; omega
    have t3 : (c == 98) = false := by rw [beq_eq_false_iff_ne]; omega
    have t4 : (c == 66) = false := by rw [beq_eq_false_iff_ne]; omega
    have t5 : (c == 115) = false := by rw [beq_eq_false_iff_ne]; omega
    have t6 : (c == 117) = false := by rw [beq_eq_false_iff_ne]; omega
    have t7 : (c == 73) = false := by rw [beq_eq_false_iff_ne]; omega
    have t8 : (c == 105) = false := by rw [beq_eq_false_iff_ne]; omega
    have t9 : (c == 102) = false := by rw [beq_eq_false_iff_ne]; omega
    have t10 : (c == 68) = false := by rw [beq_eq_false_iff_ne]; omega
    have t11 : (c == 108) = false := by rw [beq_eq_false_iff_ne]; omega
    have t12 : (c == 100) = false := by rw [beq_eq_false_iff_ne]; omega
    have t13 : (c == 84) = false := by rw [beq_eq_false_iff_ne]; omega
    have H := Lib.hid hs
    clear h hs
    go_enter Tryd.func45, Tryd.ntmps45
    go_wp2
    go_ret
    exact ⟨by rw [H.out]; rfl, rfl⟩
end Go.Proofs.YtdgpemkoicoheaaDoor
