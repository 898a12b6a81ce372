/-
  What table.Make makes, as plain functions; what is made is a table, whose fields are those that it was made of. No condition.
-/
import Derived.Test.YtdgpemkoicoheaaDoorWTabS
namespace Go.Proofs.YtdgpemkoicoheaaDoor

abbrev Pairs := List (ByteArray × ByteArray)
def totSz : Pairs → Nat
  | [] => 0
  | p :: l => p.1.size + p.2.size + 8 + totSz l
def pairsErr : Pairs → Int
  | [] => 0
  | p :: l => if pairE p.1 p.2 = 0 then pairsErr l else pairE p.1 p.2
def pairsBody : Pairs → ByteArray
  | [] => ⟨#[]⟩
  | p :: l => (layR 1 p.1 ++ p.2) ++ pairsBody l
def pairsDeep : Pairs → Int
  | [] => 0
  | p :: l => max (aloneD (val p.2 32)) (pairsDeep l)
def makeE (ks vs : List ByteArray) : Int :=
  if ks.length = vs.length then
    if pairsErr (ks.zip vs) = 0 then
      if layOk 4 (pairsBody (ks.zip vs)) = true then (if 32 < pairsDeep (ks.zip vs) + 1 then 5 else 0) else layE 4 (pairsBody (ks.zip vs))
    else pairsErr (ks.zip vs)
  else 1
def makeR (ks vs : List ByteArray) : ByteArray := if makeE ks vs = 0 then layR 4 (pairsBody (ks.zip vs)) else ⟨#[]⟩

theorem itemKey_true (b : ByteArray) : itemKey true b = ttA 1 b := rfl
theorem ba_empty_append (a : ByteArray) : (⟨#[]⟩ : ByteArray) ++ a = a := by apply ba_ext; rw [ba_append]; rfl
theorem ba_append_empty (a : ByteArray) : a ++ (⟨#[]⟩ : ByteArray) = a := by apply ba_ext; rw [ba_append]; simp
theorem pairsErr_append (a b : Pairs) : pairsErr (a ++ b) = if pairsErr a = 0 then pairsErr b else pairsErr a := by
  induction a with
  | nil => simp [pairsErr]
  | cons p l ih =>
    simp only [List.cons_append, pairsErr, ih]
    by_cases h : pairE p.1 p.2 = 0
    · simp only [if_pos h]
    · simp only [if_neg h]
theorem pairsBody_append (a b : Pairs) : pairsBody (a ++ b) = pairsBody a ++ pairsBody b := by
  induction a with
  | nil => rw [List.nil_append, pairsBody, ba_empty_append]
  | cons p l ih => simp only [List.cons_append, pairsBody, ih, ByteArray.append_assoc]
theorem pairsDeep_nonneg (a : Pairs) : 0 ≤ pairsDeep a := by
  induction a with
  | nil => exact Int.le_refl _
  | cons p l ih => unfold pairsDeep; omega
theorem pairsDeep_append (a b : Pairs) : pairsDeep (a ++ b) = max (pairsDeep a) (pairsDeep b) := by
  induction a with
  | nil => have := pairsDeep_nonneg b; simp [pairsDeep]; omega
  | cons p l ih => simp only [List.cons_append, pairsDeep, ih]; omega
theorem totSz_append (a b : Pairs) : totSz (a ++ b) = totSz a + totSz b := by
  induction a with
  | nil => simp [totSz]
  | cons p l ih => simp only [List.cons_append, totSz, ih]; omega
theorem pairsBody_size (a : Pairs) : (pairsBody a).size ≤ totSz a := by
  induction a with
  | nil => exact Nat.zero_le _
  | cons p l ih =>
    have := layR_le 1 p.1
    simp only [pairsBody, totSz, ByteArray.size_append]
    omega
theorem aloneD_le (v : ByteArray) : 0 ≤ aloneD (val v 32) ∧ aloneD (val v 32) ≤ 32 := by
  have := val_deep_le (s := v) (room := 32) (by omega)
  unfold aloneD
  split <;> omega
theorem pairsDeep_le (a : Pairs) : pairsDeep a ≤ 32 := by
  induction a with
  | nil => decide
  | cons p l ih => have := aloneD_le p.2; unfold pairsDeep; omega
theorem take_succ_pairs (z : Pairs) (k : Nat) (h : k < z.length) : z.take (k + 1) = z.take k ++ [z[k]] := by
  rw [List.take_succ_eq_append_getElem h]
theorem totSz_take (z : Pairs) (k : Nat) : totSz (z.take k) ≤ totSz z := by
  have h := totSz_append (z.take k) (z.drop k)
  rw [List.take_append_drop] at h
  omega
theorem pairsErr_at {z : Pairs} {k : Nat} (h : k < z.length) (h0 : pairsErr (z.take k) = 0) (he : pairE z[k].1 z[k].2 ≠ 0) : pairsErr z = pairE z[k].1 z[k].2 := by
  have e : z = z.take k ++ z[k] :: z.drop (k + 1) := by
    rw [← List.drop_eq_getElem_cons h, List.take_append_drop]
  conv => lhs; rw [e]
  rw [pairsErr_append, if_pos h0, pairsErr, if_neg he]

/-- a value that a pair has is one: nothing stands behind it -/
theorem pairE_zero {k v : ByteArray} (h : pairE k v = 0) : layOk 1 k = true ∧ (val v 32).err = 0 ∧ (val v 32).rest = ⟨#[]⟩ ∧ aloneD (val v 32) = (val v 32).deep := by
  unfold pairE at h
  rcases Bool.eq_false_or_eq_true (layOk 1 k) with hk | hk
  · rw [if_pos hk] at h
    unfold aloneE at h
    by_cases hx : (val v 32).err = 0
    · rw [if_pos hx] at h
      by_cases hy : (val v 32).rest.size = 0
      · exact ⟨hk, hx, ba_nil hy, by rw [aloneD, if_pos ⟨hx, hy⟩]⟩
      · rw [if_neg hy] at h; cases h
    · rw [if_neg hx] at h; exact absurd h hx
  · rw [if_neg (by simp [hk])] at h
    have := (layE_not hk).2
    rw [h] at this
    cases this
/-- the fields of what was made -/
def pairsItems (z : Pairs) : List Item := z.map (fun p => ⟨p.1, p.2, (val p.2 32).deep⟩)
theorem pairsItems_deep {z : Pairs} (h : pairsErr z = 0) : deepest (pairsItems z) = pairsDeep z := by
  induction z with
  | nil => rfl
  | cons p l ih =>
    unfold pairsErr at h
    by_cases hp : pairE p.1 p.2 = 0
    · rw [if_pos hp] at h
      have h4 := (pairE_zero hp).2.2.2
      show max (val p.2 32).deep (deepest (pairsItems l)) = max (aloneD (val p.2 32)) (pairsDeep l)
      rw [ih h, h4]
    · rw [if_neg hp] at h; exact absurd h hp
theorem items_pairs {room : Int} : ∀ {z : Pairs}, pairsErr z = 0 → pairsDeep z ≤ room → items true (pairsBody z) room = (pairsItems z, 0) := by
  intro z
  induction z with
  | nil => intro _ _; exact items_nil true room rfl
  | cons p l ih =>
    intro h hd
    unfold pairsErr at h
    by_cases hp : pairE p.1 p.2 = 0
    · rw [if_pos hp] at h
      obtain ⟨h1, h2, h3, h4⟩ := pairE_zero hp
      have hd' : max (aloneD (val p.2 32)) (pairsDeep l) ≤ room := hd
      have eb : pairsBody (p :: l) = layR 1 p.1 ++ (p.2 ++ pairsBody l) := by rw [pairsBody, ByteArray.append_assoc]
      obtain ⟨g1, g2, g3⟩ := tt_lay h1 (p.2 ++ pairsBody l)
      have gk : ttOk 1 (pairsBody (p :: l)) = true := by rw [eb, ← ttE_zero, g1]; rfl
      obtain ⟨v1, v2, a, v3, v4⟩ := val_good p.2 32 h2
      rw [h3, ba_append_empty] at v3
      subst v3
      have ev := v4 (pairsBody l) room (by omega)
      have hb : behindKey true (pairsBody (p :: l)) = p.2 ++ pairsBody l := by rw [behindKey_true, eb, g3]
      have hk : itemKey true (pairsBody (p :: l)) = p.1 := by
        rw [itemKey_true, eb, g2]
      have h0 : (pairsBody (p :: l)).size ≠ 0 := by
        have := layR_size h1
        rw [eb, ByteArray.size_append]
        omega
      rw [items_go true (room := room) h0 (by simp [gk]) (by rw [hb, ev]), hb, hk, ev]
      simp only
      rw [front_append, ih h (by omega)]
      rfl
    · rw [if_neg hp] at h; exact absurd h hp
theorem zip_keys {ks vs : List ByteArray} (h : ks.length = vs.length) : (ks.zip vs).map Prod.fst = ks := by
  rw [List.map_fst_zip]; omega
theorem zip_values {ks vs : List ByteArray} (h : ks.length = vs.length) : (ks.zip vs).map Prod.snd = vs := by
  rw [List.map_snd_zip]; omega
theorem makeE_zero {ks vs : List ByteArray} (h : makeE ks vs = 0) : ks.length = vs.length ∧ pairsErr (ks.zip vs) = 0 ∧ layOk 4 (pairsBody (ks.zip vs)) = true ∧ pairsDeep (ks.zip vs) ≤ 31 ∧ makeR ks vs = layR 4 (pairsBody (ks.zip vs)) := by
  have hR : makeR ks vs = layR 4 (pairsBody (ks.zip vs)) := by rw [makeR, if_pos h]
  unfold makeE at h
  by_cases h1 : ks.length = vs.length
  · rw [if_pos h1] at h
    by_cases h2 : pairsErr (ks.zip vs) = 0
    · rw [if_pos h2] at h
      rcases Bool.eq_false_or_eq_true (layOk 4 (pairsBody (ks.zip vs))) with h3 | h3
      · rw [if_pos h3] at h
        by_cases h4 : 32 < pairsDeep (ks.zip vs) + 1
        · rw [if_pos h4] at h; cases h
        · exact ⟨h1, h2, h3, by omega, hR⟩
      · rw [if_neg (by simp [h3])] at h
        have := (layE_not h3).2
        rw [h] at this
        cases this
    · rw [if_neg h2] at h; exact absurd h h2
  · rw [if_neg h1] at h; cases h
/-- what is made is taken, whatever stands behind it -/
theorem make_taken {ks vs : List ByteArray} (h : makeE ks vs = 0) (more : ByteArray) : nest true (makeR ks vs ++ more) 32 = ⟨pairsDeep (ks.zip vs) + 1, more, 0⟩ := by
  obtain ⟨h1, h2, h3, h4, h5⟩ := makeE_zero h
  obtain ⟨g1, g2, g3⟩ := tt_lay h3 more
  have gk : ttOk 4 (layR 4 (pairsBody (ks.zip vs)) ++ more) = true := by rw [← ttE_zero, g1]; rfl
  rw [h5, nest, nestOf, if_pos gk, if_neg (by omega), g2, items_pairs h2 (by omega), if_pos rfl, g3]
  simp only
  rw [pairsItems_deep h2]
theorem make_items {ks vs : List ByteArray} (h : makeE ks vs = 0) : tabFs (makeR ks vs) = pairsItems (ks.zip vs) := by
  obtain ⟨h1, h2, h3, h4, h5⟩ := makeE_zero h
  have ht := make_taken h ⟨#[]⟩
  rw [ba_append_empty] at ht
  obtain ⟨g1, g2, g3⟩ := tt_lay h3 ⟨#[]⟩
  rw [ba_append_empty] at g2
  rw [tabFs, if_pos (by rw [ht]; rfl), tabItems, h5, g2, items_pairs h2 (by omega)]
end Go.Proofs.YtdgpemkoicoheaaDoor
