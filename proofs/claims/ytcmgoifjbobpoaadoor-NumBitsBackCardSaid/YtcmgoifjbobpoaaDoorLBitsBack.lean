/-
  NumBitsBack: bits that were put are taken, 64 at most, and what is taken is put as it was: the walk of the law. Conditions: the package's table of widths holds 1, 2, 4, 8; the row and both texts are within the reach.
-/
import Derived.Test.YtcmgoifjbobpoaaDoorLBits
import Derived.Test.YtcmgoifjbobpoaaDoorPBitsBack
namespace Go.Proofs.YtcmgoifjbobpoaaDoor
open Go.RowKit

theorem tb_back {s : ByteArray} {n : Int} (h : tbE s n = 0) : bitsS (tbL s n) ++ tbR s n = s ∧ ((tbL s n).length : Int) = n := by
  obtain ⟨k, rfl, _, hs, ht⟩ := tbE_parts h
  rw [tbL, if_pos h, tbR, if_pos h, Int.toNat_natCast]
  exact ⟨bits_back hs ht, by rw [bitsOf_length]⟩

set_option maxHeartbeats 1000000 in
theorem bitsback_any (A : Option Addr) (cap : Nat) (l : List Bool) (more s : ByteArray) (n : Int) (w : World) (hw : Wid w) (hl : l.length ≤ 140737488351232) (hA : BoolsAt w A l) (hm : more.size ≤ 140737488351232) (hs : s.size ≤ 140737488351232) :
    Calls Tryd.prog 6 #[.agg #[.slice A l.length cap, .string more, .string s, .int .i64 n]] w fun e w' => e = .returned (.bool true) ∧ Below w.heap.size w w' := by
  have ht := tbL_len s n
  have hbs : (bitsS l).size ≤ 140737488351232 := by rw [bitsS_len]; omega
  go_enter Tryd.func6, Tryd.ntmps6
  go_wp2_with fail
  have hb0 : Below w.heap.size w (w.alloc (.cells #[.slice A l.length cap, .string more, .string s, .int .i64 n] 52)) := (Below.refl _ _).alloc (Nat.le_refl _) _
  have hw0 := hw.below hb0
  refine (shown_any _ hw0).mono ?_
  rintro e w1 ⟨rfl, hb1⟩
  have hb1 := hb0.trans (hb1.mono hb0.size)
  clear hb0 hw0
  go_wp2_with fail
  refine (bits_any A cap l w1 (by omega) (hA.below hb1)).mono ?_
  rintro e w2 ⟨rfl, hb2⟩
  have hb2 := hb1.trans (hb2.mono hb1.size)
  clear hb1
  go_wp2_with fail
  refine (takeBits_any (bitsS l ++ more) l.length w2).mono ?_
  rintro e w3 ⟨A1, c1, rfl, hB1, hb3⟩
  have hb3 := hb2.trans (hb3.mono hb2.size)
  clear hb2
  have hlen1 := tbL_len (bitsS l ++ more) l.length
  go_wp2_with fail
  refine (bools_any A1 A c1 cap _ l w3 (by omega) (by omega) hB1 (hA.below hb3)).mono ?_
  rintro e w4 ⟨rfl, hb4⟩
  have hb4 := hb3.trans (hb4.mono hb3.size)
  clear hb3 hB1 hlen1
  by_cases h64 : l.length ≤ 64
  · rw [tbE_bits l more h64, tbL_bits l more h64, tbR_bits l more h64, show (l == l) = true from by simp]
    have d1 : decide ((l.length : Int) ≤ 64) = true := by simp; omega
    have d2 : decide (l.length ≤ 64) = true := by simpa using h64
    go_wp2_with fail
    refine (takeBits_any s n w4).mono ?_
    rintro e w5 ⟨A2, c2, rfl, hB2, hb5⟩
    have hb5' := hb4.trans (hb5.mono hb4.size)
    clear hb4 hb5
    by_cases hE : tbE s n = 0
    · obtain ⟨hJ, hN⟩ := tb_back hE
      have hsum : (bitsS (tbL s n)).size + (tbR s n).size ≤ 140737488351232 := by rw [← ByteArray.size_append, hJ]; exact hs
      have d3 : (((tbL s n).length : Int) == n) = true := by simpa using hN
      rw [hE]
      clear hE hN
      go_wp2_with fail
      refine (bits_any A2 c2 (tbL s n) w5 (by omega) hB2).mono ?_
      rintro e w6 ⟨rfl, hb6⟩
      have hb6 := hb5'.trans (hb6.mono hb5'.size)
      clear hb5' hB2
      go_wp2
      go_ret
      exact ⟨by simp, hb6⟩
    · have d3 : (tbE s n != 0) = true := by simpa using hE
      clear hE
      go_wp2
      go_ret
      exact ⟨rfl, hb5'⟩
  · have d1 : decide ((l.length : Int) ≤ 64) = false := by simp; omega
    have d2 : decide (l.length ≤ 64) = false := by simpa using h64
    go_wp2_with fail
    refine (takeBits_any s n w4).mono ?_
    rintro e w5 ⟨A2, c2, rfl, hB2, hb5⟩
    have hb5' := hb4.trans (hb5.mono hb4.size)
    clear hb4 hb5
    by_cases hE : tbE s n = 0
    · obtain ⟨hJ, hN⟩ := tb_back hE
      have hsum : (bitsS (tbL s n)).size + (tbR s n).size ≤ 140737488351232 := by rw [← ByteArray.size_append, hJ]; exact hs
      have d3 : (((tbL s n).length : Int) == n) = true := by simpa using hN
      rw [hE]
      clear hE hN
      go_wp2_with fail
      refine (bits_any A2 c2 (tbL s n) w5 (by omega) hB2).mono ?_
      rintro e w6 ⟨rfl, hb6⟩
      have hb6 := hb5'.trans (hb6.mono hb5'.size)
      clear hb5' hB2
      go_wp2
      go_ret
      exact ⟨by simp, hb6⟩
    · have d3 : (tbE s n != 0) = true := by simpa using hE
      clear hE
      go_wp2
      go_ret
      exact ⟨rfl, hb5'⟩
end Go.Proofs.YtcmgoifjbobpoaaDoor
