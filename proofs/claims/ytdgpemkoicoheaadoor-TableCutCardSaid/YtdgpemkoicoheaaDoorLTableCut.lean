/-
  interchangelaw03.TableCut answers true; nothing that was there is changed. Conditions: the package num's table of widths holds 1, 2, 4, 8; a text of fewer than 2^62 bytes.
-/
import Derived.Test.YtdgpemkoicoheaaDoorWTabShown
import Derived.Test.YtdgpemkoicoheaaDoorPTabLaw
namespace Go.Proofs.YtdgpemkoicoheaaDoor
open Go.RowKit

set_option maxHeartbeats 1000000 in
theorem tableCut_walk (s : ByteArray) (cut : Int) (w : World) (hw : Wid w) (hs : s.size < 4611686018427387904) :
    Calls Tryd.prog 5 #[.string s, .int .i64 cut] w fun e w' => e = .returned (.bool true) ∧ Below w.heap.size w w' := by
  go_enter Tryd.func5, Tryd.ntmps5
  go_wp2_with fail
  refine (tabShown_any w hw).mono ?_
  rintro e w1 ⟨rfl, hb1⟩
  go_wp2_with fail
  refine (tabTake_any s w1 (hw.below hb1) hs).mono ?_
  rintro e w2 ⟨rfl, hb2⟩
  have hb3 := hb1.trans (hb2.mono hb1.size)
  clear hb1 hb2
  by_cases hx : (nest true s 32).err = 0
  · obtain ⟨g1, g2, g3⟩ := taken_tab_parts hx
    have hsz := layR_size g3
    have hcut := fun k hk => nest_cut g3 (k := k) hk
    rw [← g2] at hsz hcut
    have hsum := congrArg ByteArray.size g1
    rw [ByteArray.size_append] at hsum
    have hw3 : Wid w2 := hw.below hb3
    rw [hx]
    clear g2 g3 hx
    generalize takenA s (nest true s 32) = a at g1 hsz hsum hcut ⊢
    generalize takenB (nest true s 32) = r at g1 hsum ⊢
    have hbody := Int.natCast_nonneg (ttA 4 s).size
    generalize ((ttA 4 s).size : Int) = bs at hsz hbody
    have ha4 : (4 : Int) ≤ a.size := by omega
    have hsm : a.size + r.size ≤ 9223372036854775807 := by omega
    have HC := Lib.hid hcut
    have hasz : a.size < 4611686018427387904 := by omega
    clear hcut hsz hsum hs
    subst g1
    by_cases hc : 0 ≤ cut ∧ cut < a.size
    · obtain ⟨c0, c1⟩ := hc
      obtain ⟨k, rfl⟩ := Int.eq_ofNat_of_zero_le c0
      have hek := HC.out k (by omega)
      have hsk : (a.extract 0 k).size < 4611686018427387904 := by rw [ByteArray.size_extract]; omega
      go_wp2_with fail
      refine (tabTake_any (a.extract 0 k) w2 hw3 hsk).mono ?_
      rintro e w3 ⟨rfl, hb4⟩
      rw [hek]
      generalize takenA (a.extract 0 k) (nest true (a.extract 0 k) 32) = x
      generalize takenB (nest true (a.extract 0 k) 32) = y
      clear hek HC
      go_wp2
      go_ret
      exact ⟨rfl, hb3.trans (hb4.mono hb3.size)⟩
    · clear HC
      have t1 : cut < 0 ∨ (a.size : Int) ≤ cut := by omega
      clear hc
      rcases t1 with t1 | t1
      · go_wp2
        go_ret
        exact ⟨rfl, hb3⟩
      · by_cases t2 : cut < 0
        · omega
        · go_wp2
          go_ret
          exact ⟨rfl, hb3⟩
  · have e1 : takenA s (nest true s 32) = ⟨#[]⟩ := by rw [takenA, if_neg hx]
    have e2 : takenB (nest true s 32) = ⟨#[]⟩ := by rw [takenB, if_neg hx]
    have t1 : ((nest true s 32).err != 0) = true := by simpa using hx
    rw [e1, e2]
    clear hx e1 e2
    generalize (nest true s 32).err = x at t1 ⊢
    go_wp2
    go_ret
    exact ⟨rfl, hb3⟩
end Go.Proofs.YtdgpemkoicoheaaDoor
