/-
  NumBits: bits' bytes, the bits of bytes, and bytes as they are, are as the document says: the walk of the law. Conditions: the package's table of widths holds 1, 2, 4, 8; fewer than 2^50 bits; a text's length is an int.
-/
import Derived.Test.YtcmgoifjbobpoaaDoorWShown
import Derived.Test.YtcmgoifjbobpoaaDoorRTake
import Derived.Test.YtcmgoifjbobpoaaDoorRBits
import Derived.Test.YtcmgoifjbobpoaaDoorRTakeBits
namespace Go.Proofs.YtcmgoifjbobpoaaDoor
open Go.RowKit

theorem tbL_len (s : ByteArray) (n : Int) : (tbL s n).length ≤ 64 := by
  unfold tbL
  split
  · rename_i h
    rw [bitsOf_length]
    unfold tbE at h
    split at h
    · omega
    split at h
    · omega
    omega
  · simp

set_option maxHeartbeats 1000000 in
theorem bitslaw_any (A : Option Addr) (cap : Nat) (l : List Bool) (s : ByteArray) (n k : Int) (w : World) (hw : Wid w) (hl : l.length < 1125899906842624) (hA : BoolsAt w A l) (k0 : 0 ≤ k) (hs : s.size ≤ maxLen) :
    Calls Tryd.prog 4 #[.agg #[.slice A l.length cap, .string s, .int .i64 n, .int .u64 k]] w fun e w' => e = .returned (.bool true) ∧ Below w.heap.size w w' := by
  have ht := tbL_len s n
  go_enter Tryd.func4, Tryd.ntmps4
  go_wp2_with fail
  have hb0 : Below w.heap.size w (w.alloc (.cells #[.slice A l.length cap, .string s, .int .i64 n, .int .u64 k] 36)) := (Below.refl _ _).alloc (Nat.le_refl _) _
  have hw0 := hw.below hb0
  refine (shown_any _ hw0).mono ?_
  rintro e w1 ⟨rfl, hb1⟩
  have hb1 := hb0.trans (hb1.mono hb0.size)
  clear hb0 hw0
  go_wp2_with fail
  refine (takeBits_any s n w1).mono ?_
  rintro e w2 ⟨A1, c1, rfl, hB1, hb2⟩
  have hb2 := hb1.trans (hb2.mono hb1.size)
  clear hb1
  go_wp2_with fail
  refine (rtakeBits_any s n w2).mono ?_
  rintro e w3 ⟨A2, c2, rfl, hB2, hb3⟩
  have hB1 := hB1.below hb3
  have hb3 := hb2.trans (hb3.mono hb2.size)
  clear hb2
  go_wp2_with fail
  refine (skip_any s k w3 k0 hs).mono ?_
  rintro e w4 ⟨rfl, hb4⟩
  have hB1 := hB1.below hb4
  have hB2 := hB2.below hb4
  have hb4 := hb3.trans (hb4.mono hb3.size)
  clear hb3
  go_wp2_with fail
  refine (rskip_any s k w4 k0 hs).mono ?_
  rintro e w5 ⟨rfl, hb5⟩
  have hB1 := hB1.below hb5
  have hB2 := hB2.below hb5
  have hb5 := hb4.trans (hb5.mono hb4.size)
  clear hb4
  go_wp2_with fail
  refine (bools_any A1 A2 c1 c2 _ _ w5 (by omega) (by omega) hB1 hB2).mono ?_
  rintro e w6 ⟨rfl, hb6⟩
  have hb6 := hb5.trans (hb6.mono hb5.size)
  clear hb5 hB1 hB2
  rw [show (tbL s n == tbL s n) = true from by simp]
  go_wp2_with fail
  refine (bits_any A cap l w6 hl (hA.below hb6)).mono ?_
  rintro e w7 ⟨rfl, hb7⟩
  have hb7 := hb6.trans (hb7.mono hb6.size)
  clear hb6
  go_wp2_with fail
  refine (rbits_any A cap l w7 hl (hA.below hb7)).mono ?_
  rintro e w8 ⟨rfl, hb8⟩
  have hb8 := hb7.trans (hb8.mono hb7.size)
  clear hb7
  go_wp2
  go_ret
  exact ⟨by simp, hb8⟩
end Go.Proofs.YtcmgoifjbobpoaaDoor
