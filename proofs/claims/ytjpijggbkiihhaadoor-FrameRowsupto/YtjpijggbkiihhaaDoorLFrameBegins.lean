/-
  interchangelaw04.FrameBegins answers true; nothing that was there is changed. Conditions: the tables of widths and kinds are as their texts lay them; texts of fewer than 2^62 bytes.
-/
import Derived.Test.YtjpijggbkiihhaaDoorWFShown
namespace Go.Proofs.YtjpijggbkiihhaaDoor
open Go.RowKit

theorem bg_behind (more : ByteArray) : bgE (hdr ++ more) = 0 ∧ bgR (hdr ++ more) = more := by
  have h : hasPre (hdr ++ more) hdr = true := by
    rw [hasPre_iff, ba_append]
    exact List.prefix_append _ _
  refine ⟨by simp [bgE, h], ?_⟩
  rw [bgR, if_pos h]
  apply ba_ext
  rw [ByteArray.data_extract, ByteArray.size_append]
  have e : hdr.size = 8 := rfl
  simp
  rw [List.take_of_length_le (by rw [ba_len]; omega)]
theorem same_byte (s : ByteArray) (k : Nat) (h : k < s.size) : s.data.toList[k]'(by rw [ba_len]; exact h) = s[k] := by
  simp [ByteArray.getElem_eq_getElem_data]

set_option maxRecDepth 100000 in
set_option maxHeartbeats 2000000 in
theorem frameBegins_walk (s more : ByteArray) (w : World) (hw : Wid w) (hk : Kin w) (hs : s.size < 4611686018427387904) (hm : more.size < 4611686018427387904) :
    Calls Tryd.prog 8 #[.string s, .string more] w fun e w' => e = .returned (.bool true) ∧ Below w.heap.size w w' := by
  obtain ⟨b1, b2⟩ := bg_behind more
  have B := begins_any (hdr ++ more)
  rw [b1, b2] at B
  clear b1 b2
  have H3 := Lib.hid (show hdr = hdr from rfl)
  obtain ⟨h, hh⟩ : ∃ h : ByteArray, h = hdr := ⟨_, rfl⟩
  have h8 : h.size = 8 := by rw [hh]; rfl
  have HD : ∀ w, Calls Tryd.prog 23 #[] w fun e w' => e = .returned (.string h) ∧ w = w' := by rw [hh]; exact header_any
  rw [← hh] at B
  have HH := Lib.hid hh
  clear hh H3
  have z1 : h.size + more.size ≤ 9223372036854775807 := by omega
  go_enter Tryd.func8, Tryd.ntmps8
  go_wp2_with fail
  refine (frShown_any w hw hk).mono ?_
  rintro e w1 ⟨rfl, hb1⟩
  go_wp2_with fail
  refine (HD _).mono ?_
  rintro e w2 ⟨rfl, rfl⟩
  go_wp2_with fail
  refine (B _).mono ?_
  rintro e w2 ⟨rfl, rfl⟩
  go_wp2_with fail
  refine (begins_any s _).mono ?_
  rintro e w2 ⟨rfl, rfl⟩
  generalize bgR s = br
  generalize hbe : bgE s = be
  have HB := Lib.hid hbe
  clear HD B hbe
  go_wp2
  have H8 := Lib.hid h8
  clear h8 z1
  go_loopw [11] (fun v wr => ∃ k : Nat, v = .int .i64 k ∧ k ≤ 8 ∧ k ≤ s.size ∧ Hid (samePre s k) ∧ Below w.heap.size w wr) (fun v _ => 8 - (intOf v).toNat)
  case atStart => exact ⟨0, rfl, by omega, by omega, Lib.hid (samePre_zero s), hb1⟩
  case round =>
    obtain ⟨k, rfl, k8, ks, HS, hb⟩ := hrel
    by_cases c8 : k < 8
    · by_cases cs : k < s.size
      · have ck : k < h.size := by rw [H8.out]; omega
        have t1 : decide ((k : Int) < (s.size : Int)) = true := by simpa using cs
        have t2 : decide ((k : Int) < (h.size : Int)) = true := by simpa using ck
        by_cases he : s[k] = h[k]
        · have HN := Lib.hid (samePre_succ HS.out c8 cs (by rw [same_byte s k cs, he, ← same_byte h k ck]; simp [HH.out]))
          have hv : ((s[k].toNat : Int) == (h[k].toNat : Int)) = true := by rw [he]; simp
          clear he
          go_wp2
          go_quiet (fail)
          go_wp2
          go_roundw
          case rel => exact ⟨k + 1, by go_num, by omega, by omega, HN, below_drewN hb _⟩
          case measure => simp [intOf]; omega
        · have hw2 := bg_wrong c8 cs (by
            rw [same_byte s k cs]
            intro h2
            apply he
            rw [h2]
            have := same_byte h k ck
            rw [← this]
            simp [HH.out])
          obtain rfl : be = 3 := by rw [← HB.out]; simp [bgE, hw2.1, hw2.2]
          have hv : ((s[k].toNat : Int) == (h[k].toNat : Int)) = false := by
            simp
            intro h2
            apply he
            exact UInt8.toNat_inj.1 (by omega)
          clear he hw2
          go_wp2
          go_quiet (fail)
          go_wp2
          go_ret
          exact ⟨rfl, below_drewN hb _⟩
      · obtain rfl : k = s.size := by omega
        have hw2 := bg_short HS.out c8
        obtain rfl : be = 2 := by rw [← HB.out]; simp [bgE, hw2.1, hw2.2]
        clear hw2
        have H3 := Lib.hid (show decide (s.size < h.size) = true by rw [H8.out]; simpa using c8)
        go_wp2
        go_quiet (fail)
        go_wp2
        go_ret
        refine ⟨?_, below_drewN hb _⟩
        show Ending.returned (Value.bool (decide (s.size < h.size))) = _
        rw [H3.out]
    · obtain rfl : k = 8 := by omega
      have hw2 := bg_whole HS.out
      obtain rfl : be = 0 := by rw [← HB.out]; simp [bgE, hw2]
      clear hw2
      by_cases cs : 8 < s.size
      · have t1 : decide ((8 : Int) < (s.size : Int)) = true := by simp; omega
        have t2 : decide ((8 : Int) < (h.size : Int)) = false := by rw [H8.out]; decide
        go_wp2
        go_quiet (fail)
        go_wp2
        go_ret
        exact ⟨rfl, below_drewN hb _⟩
      · have t1 : decide ((8 : Int) < (s.size : Int)) = false := by simp; omega
        go_wp2
        go_quiet (fail)
        go_wp2
        go_ret
        refine ⟨?_, below_drewN hb _⟩
        show Ending.returned (Value.bool (!decide (s.size < h.size))) = _
        rw [H8.out, show s.size = 8 by omega]
        rfl
end Go.Proofs.YtjpijggbkiihhaaDoor
