/-
  interchangelaw03.TableParts answers true; nothing that was there is changed. Conditions: the package num's table of widths holds 1, 2, 4, 8; texts of fewer than 2^62 bytes.
-/
import Derived.Test.YtdgpemkoicoheaaDoorWTabShown
import Derived.Test.YtdgpemkoicoheaaDoorPTabLaw
namespace Go.Proofs.YtdgpemkoicoheaaDoor
open Go.RowKit

theorem front_le (s r : ByteArray) : (front s r).size ≤ s.size := by
  unfold front
  rw [ByteArray.size_extract]
  omega
theorem takenA_le (s : ByteArray) (r : Res) : (takenA s r).size ≤ s.size := by
  unfold takenA
  split
  · exact front_le _ _
  · exact Nat.zero_le _
theorem items_value_le : ∀ (n : Nat) (b : ByteArray), b.size ≤ n → ∀ i ∈ (items true b 31).1, i.value.size ≤ b.size := by
  intro n
  induction n with
  | zero => intro b hb i hi; rw [items_nil true 31 (by omega)] at hi; cases hi
  | succ n ih =>
    intro b hb i hi
    by_cases h0 : b.size = 0
    · rw [items_nil true 31 h0] at hi; cases hi
    · rcases Bool.eq_false_or_eq_true (ttOk 1 b) with hk | hk
      · by_cases hv : (val (behindKey true b) 31).err = 0
        · have h1 := val_rest hv
          have h2 := behindKey_le true b
          rw [items_go true h0 (by simp [hk]) hv] at hi
          rcases List.mem_cons.1 hi with rfl | hi
          · have := front_le (behindKey true b) (val (behindKey true b) 31).rest
            simp only
            omega
          · have := ih _ (by omega) i hi
            omega
        · rw [items_err true h0 (by simp [hk]) hv] at hi; cases hi
      · rw [items_key b 31 h0 hk] at hi; cases hi
theorem tabFs_value_le {t : ByteArray} {i : Item} (h : i ∈ tabFs t) : i.value.size ≤ t.size := by
  unfold tabFs at h
  by_cases hx : aloneE (nest true t 32) = 0
  · rw [if_pos hx] at h
    have h1 := items_value_le _ _ (Nat.le_refl _) i h
    have h2 := ttA_le 4 t
    omega
  · rw [if_neg hx] at h; cases h

set_option maxHeartbeats 2000000 in
theorem tableParts_walk (s key : ByteArray) (w : World) (hw : Wid w) (hs : s.size < 4611686018427387904) :
    Calls Tryd.prog 7 #[.string s, .string key] w fun e w' => e = .returned (.bool true) ∧ Below w.heap.size w w' := by
  have hfin : ∀ (w2 : World), Below w.heap.size w w2 → Wid w2 := fun w2 h => hw.below h
  go_enter Tryd.func7, Tryd.ntmps7
  go_wp2_with fail
  refine (tabShown_any w hw).mono ?_
  rintro e w1 ⟨rfl, hb1⟩
  go_wp2_with fail
  refine (tabValue_any s w1 (hw.below hb1) hs).mono ?_
  rintro e w2 ⟨rfl, hb2⟩
  have hb3 := hb1.trans (hb2.mono hb1.size)
  clear hb1 hb2
  by_cases hx : (val s 32).err = 0
  · have hag := taken_again hx
    have hle := takenA_le s (val s 32)
    rw [hx]
    generalize takenA s (val s 32) = a at hag hle ⊢
    generalize takenB (val s 32) = r
    generalize (val s 32).deep = d at hag
    clear hx
    go_wp2_with fail
    refine (tabValue_any a w2 (hw.below hb3) (by omega)).mono ?_
    rintro e w3 ⟨rfl, hb4⟩
    rw [hag, takenA_nil, takenB_nil]
    have hb5 := hb3.trans (hb4.mono hb3.size)
    clear hag hb3 hb4
    go_wp2_with fail
    refine (tabFind_any s key w3 (hw.below hb5) hs).mono ?_
    rintro e w4 ⟨rfl, hb6⟩
    have hb7 := hb5.trans (hb6.mono hb5.size)
    clear hb5 hb6
    cases hf : findB (tabFs s) key
    · rw [found_not hf]
      clear hf
      go_wp2
      go_ret
      exact ⟨rfl, hb7⟩
    · obtain ⟨i, hi, hv⟩ := found_value hf
      have h1 := tabFs_values hi
      have h2 := tabFs_value_le hi
      rw [hv]
      generalize i.value = v at h1 h2 ⊢
      generalize i.deep = dd at h1
      clear hf hi hv
      go_wp2_with fail
      refine (tabValue_any v w4 (hw.below hb7) (by omega)).mono ?_
      rintro e w5 ⟨rfl, hb8⟩
      rw [h1, takenA_nil, takenB_nil]
      clear h1
      go_wp2
      go_ret
      exact ⟨rfl, hb7.trans (hb8.mono hb7.size)⟩
  · have t1 : ((val s 32).err == 0) = false := by simpa using hx
    clear hx
    generalize takenA s (val s 32) = a
    generalize takenB (val s 32) = r
    generalize (val s 32).err = x at t1 ⊢
    go_wp2_with fail
    refine (tabFind_any s key w2 (hw.below hb3) hs).mono ?_
    rintro e w4 ⟨rfl, hb6⟩
    have hb7 := hb3.trans (hb6.mono hb3.size)
    clear hb3 hb6
    cases hf : findB (tabFs s) key
    · rw [found_not hf]
      clear hf
      go_wp2
      go_ret
      exact ⟨rfl, hb7⟩
    · obtain ⟨i, hi, hv⟩ := found_value hf
      have h1 := tabFs_values hi
      have h2 := tabFs_value_le hi
      rw [hv]
      generalize i.value = v at h1 h2 ⊢
      generalize i.deep = dd at h1
      clear hf hi hv
      go_wp2_with fail
      refine (tabValue_any v w4 (hw.below hb7) (by omega)).mono ?_
      rintro e w5 ⟨rfl, hb8⟩
      rw [h1, takenA_nil, takenB_nil]
      clear h1
      go_wp2
      go_ret
      exact ⟨rfl, hb7.trans (hb8.mono hb7.size)⟩
end Go.Proofs.YtdgpemkoicoheaaDoor
