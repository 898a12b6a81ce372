/-
  What follows of tables: a value that is taken is one alone; each field's value is one; no beginning of a table is one. No condition.
-/
import Derived.Test.YtdgpemkoicoheaaDoorPMake
namespace Go.Proofs.YtdgpemkoicoheaaDoor

theorem front_nil (a : ByteArray) : front a ⟨#[]⟩ = a := by
  have := front_append a ⟨#[]⟩
  rwa [ba_append_empty] at this
/-- a value that is taken is one, and nothing else -/
theorem taken_again {s : ByteArray} (h : (val s 32).err = 0) : val (takenA s (val s 32)) 32 = ⟨(val s 32).deep, ⟨#[]⟩, 0⟩ := by
  obtain ⟨h1, h2, a, h3, h4⟩ := val_good s 32 h
  have e : takenA s (val s 32) = a := by
    rw [takenA, if_pos h]
    conv => lhs; arg 1; rw [h3]
    exact front_append _ _
  have h5 := h4 ⟨#[]⟩ 32 (by omega)
  rw [ba_append_empty] at h5
  rw [e, h5]
theorem takenA_nil (a : ByteArray) (d : Int) : takenA a ⟨d, ⟨#[]⟩, 0⟩ = a := by
  rw [takenA, if_pos rfl, front_nil]
theorem takenB_nil (d : Int) : takenB ⟨d, ⟨#[]⟩, 0⟩ = ⟨#[]⟩ := rfl
theorem items_values : ∀ (n : Nat) (b : ByteArray), b.size ≤ n → ∀ i ∈ (items true b 31).1, val i.value 32 = ⟨i.deep, ⟨#[]⟩, 0⟩ := by
  intro n
  induction n with
  | zero => intro b hb i hi; rw [items_nil true 31 (by omega)] at hi; cases hi
  | succ n ih =>
    intro b hb i hi
    by_cases h0 : b.size = 0
    · rw [items_nil true 31 h0] at hi; cases hi
    · rcases Bool.eq_false_or_eq_true (ttOk 1 b) with hk | hk
      · by_cases hv : (val (behindKey true b) 31).err = 0
        · have h1 := val_rest hv
          have h2 := behindKey_le true b
          rw [items_go true h0 (by simp [hk]) hv] at hi
          rcases List.mem_cons.1 hi with rfl | hi
          · obtain ⟨g1, g2, a, g3, g4⟩ := val_good (behindKey true b) 31 hv
            have g5 := g4 ⟨#[]⟩ 32 (by omega)
            rw [ba_append_empty] at g5
            have e : front (behindKey true b) (val (behindKey true b) 31).rest = a := by
              conv => lhs; arg 1; rw [g3]
              exact front_append _ _
            simp only
            rw [e, g5]
          · exact ih _ (by omega) i hi
        · rw [items_err true h0 (by simp [hk]) hv] at hi; cases hi
      · rw [items_key b 31 h0 hk] at hi; cases hi
theorem tabFs_values {t : ByteArray} {i : Item} (h : i ∈ tabFs t) : val i.value 32 = ⟨i.deep, ⟨#[]⟩, 0⟩ := by
  unfold tabFs at h
  by_cases hx : aloneE (nest true t 32) = 0
  · rw [if_pos hx] at h
    exact items_values _ _ (Nat.le_refl _) i h
  · rw [if_neg hx] at h; cases h
theorem found_value {l : List Item} {key : ByteArray} (h : findB l key = true) : ∃ i ∈ l, findV l key = i.value := by
  rw [findB, List.any_eq_true] at h
  obtain ⟨i, hi, hk⟩ := h
  unfold findV
  cases hf : l.find? (fun i => i.key.toList == key.toList) with
  | none => exact absurd hk (by have := List.find?_eq_none.1 hf i hi; simpa using this)
  | some j => exact ⟨j, List.mem_of_find?_eq_some hf, rfl⟩
theorem found_not {l : List Item} {key : ByteArray} (h : findB l key = false) : findV l key = ⟨#[]⟩ := by
  rw [findB, List.any_eq_false] at h
  unfold findV
  rw [List.find?_eq_none.2 (fun i hi => by simpa using h i hi)]

/-- a table's own bytes: the parts -/
theorem taken_tab_parts {s : ByteArray} (h : (nest true s 32).err = 0) : takenA s (nest true s 32) ++ takenB (nest true s 32) = s ∧ takenA s (nest true s 32) = layR 4 (ttA 4 s) ∧ layOk 4 (ttA 4 s) = true := by
  obtain ⟨h1, h2, a, h3, h4, h5⟩ := nest_good h
  have e : takenA s (nest true s 32) = a := by
    rw [takenA, if_pos h]
    conv => lhs; arg 1; rw [h3]
    exact front_append _ _
  have eb : takenB (nest true s 32) = (nest true s 32).rest := by rw [takenB, if_pos h]
  have hk : ttOk 4 s = true := by
    rcases Bool.eq_false_or_eq_true (ttOk 4 s) with hk | hk
    · exact hk
    · rw [nest, nestOf, if_neg (by simp [hk]), ttE_four hk] at h; cases h
  exact ⟨by rw [e, eb]; exact h3.symm, by rw [e, h4], (lay_tt hk).1⟩
/-- no beginning of a long text is one -/
theorem ttOk_cut {b : ByteArray} (hb : layOk 4 b = true) {k : Nat} (hk : k < (layR 4 b).size) : ttOk 4 ((layR 4 b).extract 0 k) = false := by
  have hsz := layR_size hb
  have e1 : ((layR 4 b).extract 0 k).size = k := by rw [ByteArray.size_extract]; omega
  rcases Nat.lt_or_ge k 4 with h4 | h4
  · have : takeOk ((layR 4 b).extract 0 k) 4 = false := by
      simp only [takeOk, e1, Bool.and_eq_false_iff]
      right
      simp
      omega
    rw [ttOk, this]; rfl
  · have ht : takeOk ((layR 4 b).extract 0 k) 4 = true := by
      simp only [takeOk, e1, Bool.and_eq_true]
      exact ⟨by decide, by simp; omega⟩
    have hl : layR 4 b = putR 4 b.size ++ b := layR_of hb
    have hf : takeOk (layR 4 b) 4 = true := by rw [hl]; exact take_put_ok hb b
    have hv : takeV (layR 4 b) 4 = b.size := by rw [hl]; exact take_put_v hb (by omega) b
    have hv2 : takeV ((layR 4 b).extract 0 k) 4 = b.size := by
      rw [takeV, if_pos ht]
      rw [takeV, if_pos hf] at hv
      rw [Lib.extract_data, List.drop_zero, List.take_take]
      have : min (Int.toNat 4) (k - 0) = Int.toNat 4 := by
        have : Int.toNat 4 = 4 := rfl
        omega
      rw [this]
      exact hv
    have hr := takeR_size ht
    rw [e1] at hr
    have hs : skipOk (takeR ((layR 4 b).extract 0 k) 4) (takeV ((layR 4 b).extract 0 k) 4) = false := by
      rw [hv2]
      simp [skipOk]
      omega
    rw [ttOk, ht, hs]; rfl
theorem nest_cut {b : ByteArray} (hb : layOk 4 b = true) {k : Nat} (hk : k < (layR 4 b).size) : (nest true ((layR 4 b).extract 0 k) 32).err = 2 := by
  have h := ttOk_cut hb hk
  rw [nest, nestOf, if_neg (by simp [h]), ttE_four h]
end Go.Proofs.YtdgpemkoicoheaaDoor
