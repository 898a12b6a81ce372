/-
  NumPuts: numbers' bytes, and the numbers of bytes, are as the document says: the walk of the law. Condition: the package's table of widths holds 1, 2, 4, 8.
-/
import Derived.Test.YtcmgoifjbobpoaaDoorWShown
import Derived.Test.YtcmgoifjbobpoaaDoorRTake
namespace Go.Proofs.YtcmgoifjbobpoaaDoor
open Go.RowKit

set_option maxHeartbeats 400000 in
theorem puts_any (n v : Int) (s : ByteArray) (w : World) (hw : Wid w) (v0 : 0 ≤ v) (v1 : v < 18446744073709551616) :
    Calls Tryd.prog 3 #[.int .i64 n, .int .u64 v, .string s] w fun e w' => e = .returned (.bool true) ∧ Below w.heap.size w w' := by
  go_enter Tryd.func3, Tryd.ntmps3
  go_wp2_with fail
  refine (shown_any w hw).mono ?_
  rintro e w1 ⟨rfl, hb1⟩
  have hw1 := hw.below hb1
  go_wp2_with fail
  refine (put_any n v w1 hw1 v0 v1).mono ?_
  rintro e w2 ⟨rfl, hb2⟩
  have hw2 := hw1.below hb2
  have hb2 := hb1.trans (hb2.mono hb1.size)
  clear hb1 hw1
  go_wp2_with fail
  refine (rput_any n v w2 v0 v1).mono ?_
  rintro e w3 ⟨rfl, hb3⟩
  have hw3 := hw2.below hb3
  have hb3 := hb2.trans (hb3.mono hb2.size)
  clear hb2 hw2
  go_wp2_with fail
  refine (take_any s n w3 hw3).mono ?_
  rintro e w4 ⟨rfl, hb4⟩
  have hb4 := hb3.trans (hb4.mono hb3.size)
  clear hb3 hw3
  go_wp2_with fail
  refine (rtake_any s n w4).mono ?_
  rintro e w5 ⟨rfl, hb5⟩
  have hb5 := hb4.trans (hb5.mono hb4.size)
  clear hb4
  go_wp2
  go_ret
  exact ⟨by simp, hb5⟩
end Go.Proofs.YtcmgoifjbobpoaaDoor
