/-
  interchangelaw03.TableTakes answers true; nothing that was there is changed. Conditions: the package num's table of widths holds 1, 2, 4, 8; texts of fewer than 2^62 bytes.
-/
import Derived.Test.YtdgpemkoicoheaaDoorWTabShown
import Derived.Test.YtdgpemkoicoheaaDoorRTabE
import Derived.Test.YtdgpemkoicoheaaDoorRStrings
namespace Go.Proofs.YtdgpemkoicoheaaDoor
open Go.RowKit

theorem tabFs_few (t : ByteArray) : (tabFs t).length < 4294967296 := by
  unfold tabFs
  split
  · have h1 := items_length 31 _ (ttA 4 t) (Nat.le_refl _)
    have h2 := ttA_four_lt t
    unfold tabItems
    omega
  · decide

set_option maxRecDepth 100000 in
set_option maxHeartbeats 2000000 in
theorem tableTakes_walk (s key : ByteArray) (w : World) (hw : Wid w) (hs : s.size < 4611686018427387904) :
    Calls Tryd.prog 3 #[.string s, .string key] w fun e w' => e = .returned (.bool true) ∧ Below w.heap.size w w' := by
  have hlen := tabFs_few s
  go_enter Tryd.func3, Tryd.ntmps3
  go_wp2_with fail
  refine (tabShown_any w hw).mono ?_
  rintro e w1 ⟨rfl, hb⟩
  go_wp2_with fail
  refine (tabTake_any s w1 (hw.below hb) hs).mono ?_
  rintro e w2 ⟨rfl, hb'⟩
  replace hb := hb.trans (hb'.mono hb.size)
  clear hb'
  go_wp2_with fail
  refine (rtabTake_any s w2 hs).mono ?_
  rintro e w3 ⟨rfl, hb'⟩
  replace hb := hb.trans (hb'.mono hb.size)
  clear hb'
  generalize takenA s (nest true s 32) = x1
  generalize takenB (nest true s 32) = x2
  generalize (nest true s 32).err = x3
  go_wp2_with fail
  refine (tabValue_any s w3 (hw.below hb) hs).mono ?_
  rintro e w4 ⟨rfl, hb'⟩
  replace hb := hb.trans (hb'.mono hb.size)
  clear hb'
  go_wp2_with fail
  refine (rtabValue_any s w4 hs).mono ?_
  rintro e w5 ⟨rfl, hb'⟩
  replace hb := hb.trans (hb'.mono hb.size)
  clear hb'
  generalize takenA s (val s 32) = y1
  generalize takenB (val s 32) = y2
  generalize (val s 32).err = y3
  go_wp2_with fail
  refine (tabKeys_fs s w5 (hw.below hb) hs).mono ?_
  rintro e w6 ⟨v, rfl, hrow, hb'⟩
  obtain ⟨A1, c1, rfl, hva⟩ := vals_of_row hrow
  replace hb := hb.trans (hb'.mono hb.size)
  clear hb' hrow
  go_wp2_with fail
  refine (rkeys_any s w6 hs).mono ?_
  rintro e w7 ⟨v, rfl, hrow, hb'⟩
  obtain ⟨A2, c2, rfl, hvb⟩ := vals_of_row hrow
  replace hva := hva.below hb'
  replace hb := hb.trans (hb'.mono hb.size)
  clear hb' hrow
  go_wp2_with fail
  refine (tabDeep_any s w7 (hw.below hb) hs).mono ?_
  rintro e w8 ⟨rfl, hb'⟩
  replace hva := hva.below hb'
  replace hvb := hvb.below hb'
  replace hb := hb.trans (hb'.mono hb.size)
  clear hb'
  go_wp2_with fail
  refine (rtabDeep_any s w8 hs).mono ?_
  rintro e w9 ⟨rfl, hb'⟩
  replace hva := hva.below hb'
  replace hvb := hvb.below hb'
  replace hb := hb.trans (hb'.mono hb.size)
  clear hb'
  generalize aloneD (nest true s 32) = z1
  generalize aloneE (nest true s 32) = z2
  go_wp2_with fail
  refine (tabFind_any s key w9 (hw.below hb) hs).mono ?_
  rintro e w10 ⟨rfl, hb'⟩
  replace hva := hva.below hb'
  replace hvb := hvb.below hb'
  replace hb := hb.trans (hb'.mono hb.size)
  clear hb'
  go_wp2_with fail
  refine (rfind_any s key w10 hs).mono ?_
  rintro e w11 ⟨rfl, hb'⟩
  replace hva := hva.below hb'
  replace hvb := hvb.below hb'
  replace hb := hb.trans (hb'.mono hb.size)
  clear hb'
  generalize findV (tabFs s) key = q1
  generalize findB (tabFs s) key = q2
  have em : (tabFs s).map (fun i => Value.string i.key) = ((tabFs s).map (fun i => i.key)).map Value.string := by rw [List.map_map]; rfl
  rw [em] at hva hvb
  clear em
  have cs := strings_same A1 A2 c1 c2 ((tabFs s).map (fun i => i.key)) w11 (by rw [List.length_map]; omega) hva hvb
  rw [List.length_map] at cs
  generalize (tabFs s).length = nn at cs ⊢
  clear hva hvb hlen
  go_wp2_with fail
  refine cs.mono ?_
  rintro e w12 ⟨rfl, hb'⟩
  replace hb := hb.trans (hb'.mono hb.size)
  clear hb' cs
  cases q2
  · go_wp2
    go_ret
    exact ⟨rfl, hb⟩
  · go_wp2
    go_ret
    exact ⟨rfl, hb⟩
end Go.Proofs.YtdgpemkoicoheaaDoor
