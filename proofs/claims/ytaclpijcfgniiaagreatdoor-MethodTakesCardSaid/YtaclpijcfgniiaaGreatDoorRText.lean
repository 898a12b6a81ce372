/-
  The document's own answers for layer 2, Short, Long, TakeShort and TakeLong of interchangeref02, are what the plain functions of PText say; nothing that was there is changed. No condition but that a text has fewer than 2^62 bytes.
-/
import Derived.Test.YtaclpijcfgniiaaGreatDoorPText
import Derived.Test.YtaclpijcfgniiaaGreatDoorJRTab
import Derived.Test.YtaclpijcfgniiaaGreatDoorJRLay
namespace Go.Proofs.YtaclpijcfgniiaaGreatDoor
open Go.RowKit

theorem rlong_any (s : ByteArray) (w : World) (hs : s.size < 4611686018427387904) :
    Calls Tryz.prog 21 #[.string s] w fun e w' => e = .returned (.tuple #[.string (layR 4 s), .int .i64 (layE 4 s)]) ∧ Below w.heap.size w w' := by
  go_enter Tryz.func21, Tryz.ntmps21
  go_wp2_with fail
  refine (rput_any 4 s.size w (by omega) (by omega)).mono ?_
  rintro e w1 ⟨rfl, hb⟩
  cases h : layOk 4 s
  · have h' : putOk 4 s.size = false := h
    obtain ⟨t1, -⟩ := putE_not h'
    have H := Lib.hid h
    clear h h'
    go_wp2
    go_ret2
    exact ⟨by simp [layR, layE, H.out], hb⟩
  · have h' : putOk 4 s.size = true := h
    rw [putE_of h']
    have s1 : (putR 4 s.size).size ≤ 8 := by have := putR_size h'; omega
    have H := Lib.hid h
    clear h h'
    go_wp2
    go_ret2
    refine ⟨?_, hb⟩
    rw [layR_of H.out, layE_of H.out]
    rfl

theorem rtakeLong_any (s : ByteArray) (w : World) (hs : s.size < 4611686018427387904) :
    Calls Tryz.prog 44 #[.string s] w fun e w' => e = .returned (.tuple #[.string (ttA 4 s), .string (ttR 4 s), .int .i64 (ttE 4 s)]) ∧ Below w.heap.size w w' := by
  have hl := takeR_le s 4
  have h0 := takeV_nonneg s 4
  go_enter Tryz.func44, Tryz.ntmps44
  go_wp2_with fail
  refine (rtake_any s 4 w).mono ?_
  rintro e w1 ⟨rfl, hb⟩
  cases h : takeOk s 4
  · obtain ⟨t1, -⟩ := takeE_not h
    have H := Lib.hid h
    clear h
    go_wp2
    go_ret3
    refine ⟨?_, hb⟩
    simp [ttA, ttR, ttE, H.out, takeE, isW]
  · rw [takeE_of h]
    have H := Lib.hid h
    clear h
    obtain ⟨k, hk⟩ := Int.eq_ofNat_of_zero_le h0
    obtain ⟨r, hr⟩ : ∃ r, takeR s 4 = r := ⟨_, rfl⟩
    rw [hr] at hl
    by_cases hc : k ≤ r.size
    · have Hc := Lib.hid (show skipOk r (k : Int) = true by simp [skipOk]; omega)
      rw [hk, hr]
      have Hk := Lib.hid hk
      have Hr := Lib.hid hr
      clear hk h0 hr
      go_wp2
      go_quiet (fail)
      go_wp2
      go_ret3
      refine ⟨?_, below_drewN hb _⟩
      simp [ttA, ttR, ttE, H.out, skipA, skipB, skipE, Hc.out, Hk.out, Hr.out]
    · have Hc := Lib.hid (show skipOk (takeR s 4) (takeV s 4) = false by rw [hk, hr]; simp [skipOk]; omega)
      rw [hk, hr]
      clear hk h0 hr
      go_wp2
      go_ret3
      refine ⟨?_, hb⟩
      simp [ttA, ttR, ttE, H.out, skipA, skipB, skipE, Hc.out]

end Go.Proofs.YtaclpijcfgniiaaGreatDoor
