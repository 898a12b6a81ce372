/-
  The document's own TakeShort of interchangeref02 is what the plain functions of PText say; nothing that was there is changed. No condition but that a text has fewer than 2^62 bytes.
-/
import Derived.Test.YtdgpemkoicoheaaDoorPText
import Derived.Test.YtdgpemkoicoheaaDoorRTake
namespace Go.Proofs.YtdgpemkoicoheaaDoor
open Go.RowKit

/-- a short text by its parts: the first byte is the length -/
theorem take_first (s : ByteArray) (h : 0 < s.size) : takeOk s 1 = true ∧ takeV s 1 = ((s[0]'h).toNat : Int) ∧ takeR s 1 = s.extract 1 s.size := by
  have h1 : takeOk s 1 = true := by simp [takeOk, isW]; omega
  refine ⟨h1, ?_, ?_⟩
  · rw [takeV, if_pos h1]
    have e : s.data.toList.take (Int.toNat 1) = s.data.toList.take (0 + 1) := rfl
    rw [e, take_succ s 0 h, List.take_zero]
    show (((0 * 256 + (s[0]'h).toNat : Nat)) : Int) = _
    omega
  · rw [takeR, if_pos h1]; rfl
theorem extract_extract (s : ByteArray) (a b : Nat) : (s.extract 1 s.size).extract a b = s.extract (1 + a) (min (1 + b) s.size) := by
  apply ba_ext
  rw [Lib.extract_data, Lib.extract_data, Lib.extract_data, List.drop_take, List.take_take, List.drop_drop]
  congr 1
  omega

theorem rtakeShort_any (s : ByteArray) (w : World) (hs : s.size < 4611686018427387904) :
    Calls Tryd.prog 47 #[.string s] w fun e w' => e = .returned (.tuple #[.string (ttA 1 s), .string (ttR 1 s), .int .i64 (ttE 1 s)]) ∧ Below w.heap.size w w' := by
  by_cases h0 : 0 < s.size
  · obtain ⟨h1, h2, h3⟩ := take_first s h0
    have hr : (s.extract 1 s.size).size = s.size - 1 := by rw [ByteArray.size_extract]; omega
    have hb := UInt8.toNat_lt (s[0]'h0)
    by_cases hc : 1 + (s[0]'h0).toNat ≤ s.size
    · have H := Lib.hid (show ttA 1 s = s.extract 1 (1 + (s[0]'h0).toNat) ∧ ttR 1 s = s.extract (1 + (s[0]'h0).toNat) s.size ∧ ttE 1 s = 0 by
        have g : skipOk (takeR s 1) (takeV s 1) = true := by rw [h2, h3, skipOk, hr]; simp; omega
        rw [ttA, ttR, ttE, if_pos h1, if_pos h1, if_pos h1, skipA, skipB, skipE, if_pos g, if_pos g, if_pos g, h2, h3, extract_extract, extract_extract, hr]
        refine ⟨?_, ?_, rfl⟩
        · rw [Nat.min_eq_left (by omega)]; rfl
        · rw [Nat.min_eq_right (by omega)]; rfl)
      clear h1 h2 h3 hr
      go_enter Tryd.func47, Tryd.ntmps47
      go_wp2
      go_quiet (fail)
      go_wp2
      go_ret3
      refine ⟨?_, below_drewN (Below.refl _ _) _⟩
      rw [H.out.1, H.out.2.1, H.out.2.2]
      rfl
    · have H := Lib.hid (show ttA 1 s = ⟨#[]⟩ ∧ ttR 1 s = ⟨#[]⟩ ∧ ttE 1 s = 2 by
        have g : skipOk (takeR s 1) (takeV s 1) = false := by rw [h2, h3, skipOk, hr]; simp; omega
        simp [ttA, ttR, ttE, h1, skipA, skipB, skipE, g])
      clear h1 h2 h3 hr
      go_enter Tryd.func47, Tryd.ntmps47
      go_wp2
      go_ret3
      refine ⟨?_, Below.refl _ _⟩
      rw [H.out.1, H.out.2.1, H.out.2.2]
      rfl
  · have H := Lib.hid (show ttA 1 s = ⟨#[]⟩ ∧ ttR 1 s = ⟨#[]⟩ ∧ ttE 1 s = 2 by
      have g : takeOk s 1 = false := by simp [takeOk, isW]; omega
      simp [ttA, ttR, ttE, g, takeE, isW])
    go_enter Tryd.func47, Tryd.ntmps47
    go_wp2
    go_ret3
    refine ⟨?_, Below.refl _ _⟩
    rw [H.out.1, H.out.2.1, H.out.2.2]
    rfl

end Go.Proofs.YtdgpemkoicoheaaDoor
