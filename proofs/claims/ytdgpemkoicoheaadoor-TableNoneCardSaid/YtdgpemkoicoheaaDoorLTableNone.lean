/-
  interchangelaw03.TableNone answers true; nothing that was there is changed. Conditions: the package num's table of widths holds 1, 2, 4, 8; texts of fewer than 2^62 bytes.
-/
import Derived.Test.YtdgpemkoicoheaaDoorWTabShown
import Derived.Test.YtdgpemkoicoheaaDoorPTabLaw
namespace Go.Proofs.YtdgpemkoicoheaaDoor
open Go.RowKit

theorem tabFs_length (t : ByteArray) : (tabFs t).length < 4294967296 := by
  unfold tabFs
  split
  · have h1 := items_length 31 _ (ttA 4 t) (Nat.le_refl _)
    have h2 := ttA_four_lt t
    unfold tabItems
    omega
  · decide
theorem any_take_succ {l : List Item} {p : Item → Bool} {k : Nat} (h : k < l.length) : (l.take (k + 1)).any p = ((l.take k).any p || p l[k]) := by
  rw [List.take_succ_eq_append_getElem h, List.any_append]
  simp

set_option maxHeartbeats 2000000 in
theorem tableNone_walk (s key : ByteArray) (w : World) (hw : Wid w) (hs : s.size < 4611686018427387904) :
    Calls Tryd.prog 8 #[.string s, .string key] w fun e w' => e = .returned (.bool true) ∧ Below w.heap.size w w' := by
  obtain ⟨n1, n2, n3⟩ := empty_nest
  have hlen := tabFs_length s
  go_enter Tryd.func8, Tryd.ntmps8
  go_wp2_with fail
  refine (tabShown_any w hw).mono ?_
  rintro e w1 ⟨rfl, hb1⟩
  go_wp2_with fail
  refine (tabKeys_fs ⟨#[0, 0, 0, 0]⟩ w1 (hw.below hb1) (by decide)).mono ?_
  rintro e w2 ⟨v, rfl, hrow, hb2⟩
  rw [n3] at hrow
  rw [n2]
  obtain ⟨A, c, rfl, -⟩ := vals_of_row hrow
  have hb3 := hb1.trans (hb2.mono hb1.size)
  clear hb1 hb2 hrow
  go_wp2_with fail
  refine (tabDeep_any ⟨#[0, 0, 0, 0]⟩ w2 (hw.below hb3) (by decide)).mono ?_
  rintro e w3 ⟨rfl, hb4⟩
  rw [n1, n2]
  clear n1 n2 n3
  have hb5 := hb3.trans (hb4.mono hb3.size)
  clear hb3 hb4
  dsimp only [List.length_nil]
  go_wp2_with fail
  refine (tabKeys_fs s w3 (hw.below hb5) hs).mono ?_
  rintro e w4 ⟨v, rfl, hrow, hb6⟩
  obtain ⟨A4, c4, rfl, hva⟩ := vals_of_row hrow
  have hb7 := hb5.trans (hb6.mono hb5.size)
  clear hb5 hb6 hrow
  go_wp2_with fail
  refine (tabFind_any s key w4 (hw.below hb7) hs).mono ?_
  rintro e w5 ⟨rfl, hb8⟩
  have hva5 := hva.below hb8
  have hb9 := hb7.trans (hb8.mono hb7.size)
  clear hb7 hb8 hva
  have HF := Lib.hid (show findB (tabFs s) key = (tabFs s).any (fun i => i.key.toList == key.toList) from rfl)
  have HE := Lib.hid (show aloneE (nest true s 32) ≠ 0 → tabFs s = [] from fun h => by rw [tabFs, if_neg h])
  generalize findV (tabFs s) key = fv
  generalize findB (tabFs s) key = fb at HF ⊢
  generalize tabFs s = l at hlen hva5 HF HE ⊢
  generalize aloneE (nest true s 32) = x at HE ⊢
  go_wp2
  go_loop [14, 15] (fun b i => ∃ k : Nat, k ≤ l.length ∧ i = .int .i64 k ∧ ∃ y, b = .bool y ∧ Hid (y = (l.take k).any (fun i => i.key.toList == key.toList))) (fun _ i => l.length - (intOf i).toNat)
  case atStart => exact ⟨0, Nat.zero_le _, rfl, false, rfl, Lib.hid rfl⟩
  case round =>
    obtain ⟨k, hk, rfl, y, rfl, HY⟩ := hrel
    by_cases hlt : k < l.length
    · obtain ⟨b1, o1, rfl, l1, g1⟩ := hva5 (by simp; omega)
      have p1 := g1 k (by simpa using hlt)
      rw [List.getElem_map] at p1
      have hst := any_take_succ (l := l) (p := fun i => i.key.toList == key.toList) hlt
      have HS := Lib.hid hst
      clear g1 hst hva5
      generalize l[k].key = kk at p1 HS
      cases y
      · cases hq : (kk.toList == key.toList)
        · have HZ : Hid (false = (l.take (k + 1)).any (fun i => i.key.toList == key.toList)) := Lib.hid (by rw [HS.out, ← HY.out, hq]; rfl)
          clear HS HY
          go_wp2
          go_round
          case rel => exact ⟨k + 1, by omega, by go_num, _, rfl, HZ⟩
          case measure => simp [intOf]; omega
        · have HZ : Hid (true = (l.take (k + 1)).any (fun i => i.key.toList == key.toList)) := Lib.hid (by rw [HS.out, ← HY.out, hq]; rfl)
          clear HS HY
          go_wp2
          go_round
          case rel => exact ⟨k + 1, by omega, by go_num, _, rfl, HZ⟩
          case measure => simp [intOf]; omega
      · have HZ : Hid (true = (l.take (k + 1)).any (fun i => i.key.toList == key.toList)) := Lib.hid (by rw [HS.out, ← HY.out]; rfl)
        clear HS HY
        go_wp2
        go_round
        case rel => exact ⟨k + 1, by omega, by go_num, _, rfl, HZ⟩
        case measure => simp [intOf]; omega
    · obtain rfl : k = l.length := by omega
      have hy : y = fb := by
        have := HY.out
        rw [List.take_length] at this
        rw [this, HF.out]
      subst hy
      by_cases hx : x = 0
      · subst hx
        clear HY HF HE
        cases y
        · go_wp2
          go_ret
          exact ⟨rfl, hb9⟩
        · go_wp2
          go_ret
          exact ⟨rfl, hb9⟩
      · have hl0 := HE.out hx
        have hf : y = false := by rw [HF.out, hl0]; rfl
        subst hf
        have t1 : (x == 0) = false := by simpa using hx
        clear HY HF HE hx hl0
        go_wp2
        go_ret
        exact ⟨rfl, hb9⟩
end Go.Proofs.YtdgpemkoicoheaaDoor
