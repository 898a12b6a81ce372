/-
  NumRises: of two numbers of as many bytes the greater one's bytes are the later ones, byte by byte: for every width, and every two numbers of 64 bits, the law returns true. No condition but the card's own: the table of widths is as the program's text lays it.
-/
import Derived.Test.YtcmgoifjbobpoaaDoorWShown
import Derived.Test.YtcmgoifjbobpoaaDoorCards
import Derived.Test.YtcmgoifjbobpoaaDoorTie
import Derived.ProofKit
import Derived.OpenShut
import Derived.Deep.DeepHandedRow
import Derived.Lib.LaidTab
namespace Go.Proofs.YtcmgoifjbobpoaaDoor
open Go.RowKit

set_option maxHeartbeats 400000 in
theorem rises_any (n v u : Int) (w : World) (hw : Wid w) (v0 : 0 ≤ v) (v1 : v < 18446744073709551616) (u0 : 0 ≤ u) (u1 : u < 18446744073709551616) :
    Calls Tryd.prog 8 #[.int .i64 n, .int .u64 v, .int .u64 u] w fun e w' => e = .returned (.bool true) ∧ Below w.heap.size w w' := by
  cases hn : isW n
  · go_enter Tryd.func8, Tryd.ntmps8
    go_wp2_with fail
    refine (shown_any w hw).mono ?_
    rintro e w1 ⟨rfl, hb1⟩
    go_wp2_with fail
    refine (put_arg n v w1 (hw.below hb1) hn).mono ?_
    rintro e w2 ⟨rfl, rfl⟩
    go_wp2_with fail
    refine (put_arg n u w1 (hw.below hb1) hn).mono ?_
    rintro e w2 ⟨rfl, rfl⟩
    go_wp2
    go_ret
    exact ⟨rfl, hb1⟩
  · by_cases hv : 256 ^ n.toNat ≤ v
    · by_cases hu : 256 ^ n.toNat ≤ u
      all_goals
        go_enter Tryd.func8, Tryd.ntmps8
        go_wp2_with fail
        refine (shown_any w hw).mono ?_
        rintro e w1 ⟨rfl, hb1⟩
        go_wp2_with fail
        refine (put_big n v w1 (hw.below hb1) hn v0 hv v1).mono ?_
        rintro e w2 ⟨rfl, rfl⟩
        go_wp2_with fail
      · refine (put_big n u w1 (hw.below hb1) hn u0 hu u1).mono ?_
        rintro e w2 ⟨rfl, rfl⟩
        go_wp2
        go_ret
        exact ⟨rfl, hb1⟩
      · refine (put_ok n u w1 (hw.below hb1) hn u0 (by omega)).mono ?_
        rintro e w2 ⟨rfl, hb2⟩
        go_wp2
        go_ret
        exact ⟨rfl, hb1.trans (hb2.mono hb1.size)⟩
    · go_enter Tryd.func8, Tryd.ntmps8
      go_wp2_with fail
      refine (shown_any w hw).mono ?_
      rintro e w1 ⟨rfl, hb1⟩
      go_wp2_with fail
      refine (put_ok n v w1 (hw.below hb1) hn v0 (by omega)).mono ?_
      rintro e w2 ⟨rfl, hb2⟩
      have hw2 := (hw.below hb1).below hb2
      go_wp2_with fail
      by_cases hu : 256 ^ n.toNat ≤ u
      · refine (put_big n u w2 hw2 hn u0 hu u1).mono ?_
        rintro e w3 ⟨rfl, rfl⟩
        go_wp2
        go_ret
        exact ⟨rfl, hb1.trans (hb2.mono hb1.size)⟩
      · refine (put_ok n u w2 hw2 hn u0 (by omega)).mono ?_
        rintro e w3 ⟨rfl, hb3⟩
        have hv' : v.toNat < 256 ^ n.toNat := by have e : ((256 ^ n.toNat : Nat) : Int) = 256 ^ n.toNat := by rw [Int.natCast_pow]; rfl
                                                 omega
        have hu' : u.toNat < 256 ^ n.toNat := by have e : ((256 ^ n.toNat : Nat) : Int) = 256 ^ n.toNat := by rw [Int.natCast_pow]; rfl
                                                 omega
        have hless : Op.bytesLess (putS n.toNat v.toNat).toList (putS n.toNat u.toNat).toList = decide (v < u) := by
          rw [less_put _ _ _ hv' hu']; simp; omega
        have hsame : ((putS n.toNat v.toNat).toList == (putS n.toNat u.toNat).toList) = (v == u) := by
          rw [same_put _ _ _ hv' hu', Bool.eq_iff_iff]; simp; omega
        go_wp2
        go_ret
        exact ⟨rfl, (hb1.trans (hb2.mono hb1.size)).trans (hb3.mono (by have := hb1.size; have := hb2.size; omega))⟩
end Go.Proofs.YtcmgoifjbobpoaaDoor
