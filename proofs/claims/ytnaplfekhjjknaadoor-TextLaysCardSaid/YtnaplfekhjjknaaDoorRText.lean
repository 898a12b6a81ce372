/-
  The document's own answers for layer 2, Short, Long, TakeShort and TakeLong of interchangeref02, are what the plain functions of PText say; nothing that was there is changed. No condition but that a text has fewer than 2^62 bytes.
-/
import Derived.Test.YtnaplfekhjjknaaDoorPText
import Derived.Test.YtnaplfekhjjknaaDoorRTake
namespace Go.Proofs.YtnaplfekhjjknaaDoor
open Go.RowKit

theorem rlong_any (s : ByteArray) (w : World) (hs : s.size < 4611686018427387904) :
    Calls Tryd.prog 15 #[.string s] w fun e w' => e = .returned (.tuple #[.string (layR 4 s), .int .i64 (layE 4 s)]) ∧ Below w.heap.size w w' := by
  go_enter Tryd.func15, Tryd.ntmps15
  go_wp2_with fail
  refine (rput_any 4 s.size w (by omega) (by omega)).mono ?_
  rintro e w1 ⟨rfl, hb⟩
  cases h : layOk 4 s
  · have h' : putOk 4 s.size = false := h
    obtain ⟨t1, -⟩ := putE_not h'
    have H := Lib.hid h
    clear h h'
    go_wp2
    go_ret2
    exact ⟨by simp [layR, layE, H.out], hb⟩
  · have h' : putOk 4 s.size = true := h
    rw [putE_of h']
    have s1 : (putR 4 s.size).size ≤ 8 := by have := putR_size h'; omega
    have H := Lib.hid h
    clear h h'
    go_wp2
    go_ret2
    refine ⟨?_, hb⟩
    rw [layR_of H.out, layE_of H.out]
    rfl

theorem rtakeLong_any (s : ByteArray) (w : World) (hs : s.size < 4611686018427387904) :
    Calls Tryd.prog 19 #[.string s] w fun e w' => e = .returned (.tuple #[.string (ttA 4 s), .string (ttR 4 s), .int .i64 (ttE 4 s)]) ∧ Below w.heap.size w w' := by
  have hl := takeR_le s 4
  have h0 := takeV_nonneg s 4
  go_enter Tryd.func19, Tryd.ntmps19
  go_wp2_with fail
  refine (rtake_any s 4 w).mono ?_
  rintro e w1 ⟨rfl, hb⟩
  cases h : takeOk s 4
  · obtain ⟨t1, -⟩ := takeE_not h
    have H := Lib.hid h
    clear h
    go_wp2
    go_ret3
    refine ⟨?_, hb⟩
    simp [ttA, ttR, ttE, H.out, takeE, isW]
  · rw [takeE_of h]
    have H := Lib.hid h
    clear h
    obtain ⟨k, hk⟩ := Int.eq_ofNat_of_zero_le h0
    obtain ⟨r, hr⟩ : ∃ r, takeR s 4 = r := ⟨_, rfl⟩
    rw [hr] at hl
    by_cases hc : k ≤ r.size
    · have Hc := Lib.hid (show skipOk r (k : Int) = true by simp [skipOk]; omega)
      rw [hk, hr]
      have Hk := Lib.hid hk
      have Hr := Lib.hid hr
      clear hk h0 hr
      go_wp2
      go_quiet (fail)
      go_wp2
      go_ret3
      refine ⟨?_, below_drewN hb _⟩
      simp [ttA, ttR, ttE, H.out, skipA, skipB, skipE, Hc.out, Hk.out, Hr.out]
    · have Hc := Lib.hid (show skipOk (takeR s 4) (takeV s 4) = false by rw [hk, hr]; simp [skipOk]; omega)
      rw [hk, hr]
      clear hk h0 hr
      go_wp2
      go_ret3
      refine ⟨?_, hb⟩
      simp [ttA, ttR, ttE, H.out, skipA, skipB, skipE, Hc.out]

/-- a short text by its parts: the first byte is the length -/
theorem take_first (s : ByteArray) (h : 0 < s.size) : takeOk s 1 = true ∧ takeV s 1 = ((s[0]'h).toNat : Int) ∧ takeR s 1 = s.extract 1 s.size := by
  have h1 : takeOk s 1 = true := by simp [takeOk, isW]; omega
  refine ⟨h1, ?_, ?_⟩
  · rw [takeV, if_pos h1]
    have e : s.data.toList.take (Int.toNat 1) = s.data.toList.take (0 + 1) := rfl
    rw [e, take_succ s 0 h, List.take_zero]
    show (((0 * 256 + (s[0]'h).toNat : Nat)) : Int) = _
    omega
  · rw [takeR, if_pos h1]; rfl
theorem extract_extract (s : ByteArray) (a b : Nat) : (s.extract 1 s.size).extract a b = s.extract (1 + a) (min (1 + b) s.size) := by
  apply ba_ext
  rw [Lib.extract_data, Lib.extract_data, Lib.extract_data, List.drop_take, List.take_take, List.drop_drop]
  congr 1
  omega

theorem rtakeShort_any (s : ByteArray) (w : World) (hs : s.size < 4611686018427387904) :
    Calls Tryd.prog 17 #[.string s] w fun e w' => e = .returned (.tuple #[.string (ttA 1 s), .string (ttR 1 s), .int .i64 (ttE 1 s)]) ∧ Below w.heap.size w w' := by
  by_cases h0 : 0 < s.size
  · obtain ⟨h1, h2, h3⟩ := take_first s h0
    have hr : (s.extract 1 s.size).size = s.size - 1 := by rw [ByteArray.size_extract]; omega
    have hb := UInt8.toNat_lt (s[0]'h0)
    by_cases hc : 1 + (s[0]'h0).toNat ≤ s.size
    · have H := Lib.hid (show ttA 1 s = s.extract 1 (1 + (s[0]'h0).toNat) ∧ ttR 1 s = s.extract (1 + (s[0]'h0).toNat) s.size ∧ ttE 1 s = 0 by
        have g : skipOk (takeR s 1) (takeV s 1) = true := by rw [h2, h3, skipOk, hr]; simp; omega
        rw [ttA, ttR, ttE, if_pos h1, if_pos h1, if_pos h1, skipA, skipB, skipE, if_pos g, if_pos g, if_pos g, h2, h3, extract_extract, extract_extract, hr]
        refine ⟨?_, ?_, rfl⟩
        · rw [Nat.min_eq_left (by omega)]; rfl
        · rw [Nat.min_eq_right (by omega)]; rfl)
      clear h1 h2 h3 hr
      go_enter Tryd.func17, Tryd.ntmps17
      go_wp2
      go_quiet (fail)
      go_wp2
      go_ret3
      refine ⟨?_, below_drewN (Below.refl _ _) _⟩
      rw [H.out.1, H.out.2.1, H.out.2.2]
      rfl
    · have H := Lib.hid (show ttA 1 s = ⟨#[]⟩ ∧ ttR 1 s = ⟨#[]⟩ ∧ ttE 1 s = 2 by
        have g : skipOk (takeR s 1) (takeV s 1) = false := by rw [h2, h3, skipOk, hr]; simp; omega
        simp [ttA, ttR, ttE, h1, skipA, skipB, skipE, g])
      clear h1 h2 h3 hr
      go_enter Tryd.func17, Tryd.ntmps17
      go_wp2
      go_ret3
      refine ⟨?_, Below.refl _ _⟩
      rw [H.out.1, H.out.2.1, H.out.2.2]
      rfl
  · have H := Lib.hid (show ttA 1 s = ⟨#[]⟩ ∧ ttR 1 s = ⟨#[]⟩ ∧ ttE 1 s = 2 by
      have g : takeOk s 1 = false := by simp [takeOk, isW]; omega
      simp [ttA, ttR, ttE, g, takeE, isW])
    go_enter Tryd.func17, Tryd.ntmps17
    go_wp2
    go_ret3
    refine ⟨?_, Below.refl _ _⟩
    rw [H.out.1, H.out.2.1, H.out.2.2]
    rfl

theorem lay_one {s : ByteArray} (h : s.size ≤ 255) : layR 1 s = ⟨#[UInt8.ofNat s.size]⟩ ++ s ∧ layE 1 s = 0 := by
  have h1 : layOk 1 s = true := by rw [layOk_one]; simpa using h
  refine ⟨?_, layE_of h1⟩
  rw [layR_of h1, putR_of h1]
  rfl
theorem rshort_any (s : ByteArray) (w : World) (hs : s.size < 4611686018427387904) :
    Calls Tryd.prog 13 #[.string s] w fun e w' => e = .returned (.tuple #[.string (layR 1 s), .int .i64 (layE 1 s)]) ∧ Below w.heap.size w w' := by
  by_cases hc : s.size ≤ 255
  · have H := Lib.hid (lay_one hc)
    have hcv : ∀ (w : World) (a0 : Int), (convert 43 9 (.slice (some ⟨w.heap.size, 0, none⟩) 1 1)).run Tryd.prog (w.alloc (.cells #[.int .u8 a0] 5)) = .ok (.string ⟨#[UInt8.ofNat a0.toNat]⟩) (w.alloc (.cells #[.int .u8 a0] 5)) := fun w a0 => conv_own w [a0] 1
    have hz : (⟨#[UInt8.ofNat (s.size : Int).toNat]⟩ : ByteArray).size + s.size ≤ 9223372036854775807 := by have : (⟨#[UInt8.ofNat (s.size : Int).toNat]⟩ : ByteArray).size = 1 := rfl; omega
    go_enter Tryd.func13, Tryd.ntmps13
    go_wp2
    go_ret2
    refine ⟨?_, (Below.refl _ _).alloc (Nat.le_refl _) _⟩
    rw [H.out.1, H.out.2]
    rfl
  · have H := Lib.hid (show layR 1 s = ⟨#[]⟩ ∧ layE 1 s = 4 by
      have h1 : layOk 1 s = false := by rw [layOk_one]; simpa using hc
      have h2 : putOk 1 s.size = false := h1
      simp [layR, layE, h1, putE, h2, isW])
    go_enter Tryd.func13, Tryd.ntmps13
    go_wp2
    go_ret2
    refine ⟨?_, Below.refl _ _⟩
    rw [H.out.1, H.out.2]
    rfl
end Go.Proofs.YtnaplfekhjjknaaDoor
