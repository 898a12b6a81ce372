/-
  Why the heap is one: going down and up mend it; the first one of a heap is ahead of all. No condition.
-/
import Derived.Test.YtlbmkokdoigcnaaPHeap
namespace Go.Proofs.Ytlbmkokdoigcnaa

theorem downF_perm (l : List DP) (i n : Nat) (hn : n ≤ l.length) : (downF l i n).Perm l := by
  rw [downF]
  split
  · rename_i h
    have h1 := chJ_le l n (2 * i + 1)
    have h2 := chJ_lt (l := l) h
    split
    · exact (downF_perm _ _ n (by rw [swp_length]; exact hn)).trans (swp_perm (by omega) (by omega))
    · exact List.Perm.refl _
  · exact List.Perm.refl _
  termination_by n - i
  decreasing_by have := chJ_le l n (2 * i + 1); omega
theorem downF_far (l : List DP) (i n k : Nat) (hn : n ≤ l.length) (hk : n ≤ k) : atD (downF l i n) k = atD l k := by
  rw [downF]
  split
  · rename_i h
    have h1 := chJ_le l n (2 * i + 1)
    have h2 := chJ_lt (l := l) h
    split
    · rw [downF_far _ _ n k (by rw [swp_length]; exact hn) hk, swp_at (by omega) (by omega), if_neg (by omega), if_neg (by omega)]
    · rfl
  · rfl
  termination_by n - i
  decreasing_by have := chJ_le l n (2 * i + 1); omega
theorem upF_perm (l : List DP) (j : Nat) (hj : j < l.length) : (upF l j).Perm l := by
  rw [upF]
  split
  · split
    · exact (upF_perm _ _ (by rw [swp_length]; omega)).trans (swp_perm (by omega) (by omega))
    · exact List.Perm.refl _
  · exact List.Perm.refl _
  termination_by j
  decreasing_by omega
theorem initF_perm : ∀ (k : Nat) (l : List DP) (n : Nat), n ≤ l.length → (initF l n k).Perm l
  | 0, _, _, _ => List.Perm.refl _
  | k + 1, l, n, h => by rw [initF]; exact (initF_perm k _ n (by rw [downF_len]; exact h)).trans (downF_perm l k n h)
/-- no child is ahead of its parent, of the first n, from the parent i on -/
def HeapFrom (l : List DP) (i n : Nat) : Prop := ∀ k, k < n → 0 < k → i ≤ (k - 1) / 2 → ltD (atD l k) (atD l ((k - 1) / 2)) = false
def Heap (l : List DP) : Prop := HeapFrom l 0 l.length
theorem down_heap (l : List DP) (i i0 n : Nat) (hn : n ≤ l.length) (hi : i0 ≤ i)
    (h1 : ∀ k, k < n → 0 < k → i0 ≤ (k - 1) / 2 → (k - 1) / 2 ≠ i → ltD (atD l k) (atD l ((k - 1) / 2)) = false)
    (h2 : ∀ k, k < n → 0 < k → (k - 1) / 2 = i → 0 < i → i0 ≤ (i - 1) / 2 → ltD (atD l k) (atD l ((i - 1) / 2)) = false) : HeapFrom (downF l i n) i0 n := by
  rw [downF]
  split
  · rename_i h
    have g1 := chJ_le l n (2 * i + 1)
    have g2 := chJ_lt (l := l) h
    have g3 := chJ_le1 l n (2 * i + 1)
    -- the child that is ahead is behind no child
    have gc : ∀ k, k < n → 0 < k → (k - 1) / 2 = i → ltD (atD l k) (atD l (chJ l n (2 * i + 1))) = false := by
      intro k hk hk0 hp
      have hc : k = 2 * i + 1 ∨ k = 2 * i + 1 + 1 := by omega
      unfold chJ
      split
      · rename_i hs
        rcases hc with rfl | rfl
        · exact ltD_asymm hs.2
        · exact ltD_irr _
      · rename_i hs
        rcases hc with rfl | rfl
        · exact ltD_irr _
        · cases hx : ltD (atD l (2 * i + 1 + 1)) (atD l (2 * i + 1))
          · rfl
          · exact absurd ⟨hk, hx⟩ hs
    generalize hj : chJ l n (2 * i + 1) = j at *
    have hpj : (j - 1) / 2 = i := by omega
    split
    · rename_i hlt
      have e := fun k => swp_at (l := l) (i := i) (j := j) (by omega) (by omega) k
      refine down_heap _ j i0 n (by rw [swp_length]; exact hn) (by omega) ?_ ?_
      · intro k hk hk0 hp hne
        rw [e, e]
        by_cases hki : (k - 1) / 2 = i
        · rw [if_neg hne, if_pos hki]
          by_cases hkj : k = j
          · rw [if_pos hkj]; exact ltD_asymm hlt
          · rw [if_neg hkj, if_neg (by omega)]; exact gc k hk hk0 hki
        · rw [if_neg hne, if_neg hki]
          by_cases hkj : k = j
          · exact absurd (by rw [hkj]; exact hpj) hki
          rw [if_neg hkj]
          by_cases hk2 : k = i
          · subst hk2
            rw [if_pos rfl]
            exact h2 j g2 (by omega) hpj hk0 hp
          · rw [if_neg hk2]; exact h1 k hk hk0 hp hki
      · intro k hk hk0 hp hj0 hi0
        rw [e, e, hpj, if_neg (by omega), if_neg (by omega), if_neg (by omega), if_pos rfl]
        have := h1 k hk hk0 (by omega) (by omega)
        rwa [hp] at this
    · rename_i hlt
      intro k hk hk0 hp
      by_cases hki : (k - 1) / 2 = i
      · have hlt' : ltD (atD l j) (atD l i) = false := by simpa using hlt
        rw [hki]; exact le_trans' hlt' (gc k hk hk0 hki)
      · exact h1 k hk hk0 hp hki
  · intro k hk hk0 hp
    exact h1 k hk hk0 hp (by omega)
  termination_by n - i
  decreasing_by have := chJ_le l n (2 * i + 1); omega
theorem init_heap : ∀ (k : Nat) (l : List DP) (n : Nat), n ≤ l.length → HeapFrom l k n → HeapFrom (initF l n k) 0 n
  | 0, _, _, _, h => h
  | k + 1, l, n, hn, h => by
    rw [initF]
    refine init_heap k _ n (by rw [downF_len]; exact hn) (down_heap l k k n hn (Nat.le_refl _) ?_ ?_)
    · intro j hj hj0 hp hne
      exact h j hj hj0 (by omega)
    · intro j hj hj0 hp hk0 hk
      omega
theorem init_heap_all (l : List DP) : Heap (initF l l.length (l.length / 2)) := by
  rw [Heap, initF_len]
  refine init_heap _ l l.length (Nat.le_refl _) ?_
  intro k hk hk0 hp
  omega
theorem up_heap (l : List DP) (j : Nat) (hj : j < l.length)
    (h1 : ∀ k, k < l.length → 0 < k → k ≠ j → ltD (atD l k) (atD l ((k - 1) / 2)) = false)
    (h2 : ∀ k, k < l.length → 0 < k → (k - 1) / 2 = j → 0 < j → ltD (atD l k) (atD l ((j - 1) / 2)) = false) : Heap (upF l j) := by
  rw [upF]
  split
  · rename_i h0
    split
    · rename_i hlt
      have e := fun k => swp_at (l := l) (i := (j - 1) / 2) (j := j) (by omega) hj k
      refine up_heap _ _ (by rw [swp_length]; omega) ?_ ?_
      · intro k hk hk0 hne
        rw [swp_length] at hk
        rw [e, e]
        by_cases hkj : k = j
        · subst hkj
          rw [if_pos rfl, if_neg (by omega), if_pos rfl]
          exact ltD_asymm hlt
        · rw [if_neg hkj, if_neg hne]
          by_cases hp : (k - 1) / 2 = j
          · rw [if_pos hp]; exact h2 k hk hk0 hp h0
          · rw [if_neg hp]
            by_cases hq : (k - 1) / 2 = (j - 1) / 2
            · rw [if_pos hq]
              have := h1 k hk hk0 hkj
              rw [hq] at this
              exact le_trans' (ltD_asymm hlt) this
            · rw [if_neg hq]; exact h1 k hk hk0 hkj
      · intro k hk hk0 hp hi0
        rw [swp_length] at hk
        rw [e, e]
        rw [if_neg (show ¬ ((j - 1) / 2 - 1) / 2 = j by omega), if_neg (show ¬ ((j - 1) / 2 - 1) / 2 = (j - 1) / 2 by omega)]
        have hpar := h1 ((j - 1) / 2) (by omega) hi0 (by omega)
        by_cases hkj : k = j
        · rw [if_pos hkj]; exact hpar
        · rw [if_neg hkj, if_neg (by omega)]
          have := h1 k hk hk0 hkj
          rw [hp] at this
          exact le_trans' hpar this
    · rename_i hlt
      intro k hk hk0 hp
      by_cases hkj : k = j
      · subst hkj; simpa using hlt
      · exact h1 k hk hk0 hkj
  · intro k hk hk0 hp
    exact h1 k hk hk0 (by omega)
  termination_by j
  decreasing_by omega
theorem push_heap {l : List DP} (x : DP) (h : Heap l) : Heap (upF (l ++ [x]) l.length) := by
  refine up_heap _ _ (by simp) ?_ ?_
  · intro k hk hk0 hne
    have hk' : k < l.length := by simp at hk; omega
    have e : ∀ j, j < l.length → atD (l ++ [x]) j = atD l j := fun j hj => by simp [atD, List.getD_eq_getElem?_getD, List.getElem?_append_left hj]
    rw [e k hk', e _ (by omega)]
    exact h k hk' hk0 (Nat.zero_le _)
  · intro k hk hk0 hp
    simp at hk
    omega
theorem heap_min {l : List DP} (h : Heap l) (k : Nat) : k < l.length → ltD (atD l k) (atD l 0) = false := by
  induction k using Nat.strongRecOn with
  | _ k ih =>
    intro hk
    by_cases h0 : k = 0
    · subst h0; exact ltD_irr _
    · exact le_trans' (ih ((k - 1) / 2) (by omega) (by omega)) (h k hk (by omega) (Nat.zero_le _))
/-- the first one taken off -/
def popF (l : List DP) : List DP := (downF (swp l 0 (l.length - 1)) 0 (l.length - 1)).take (l.length - 1)
theorem popF_len {l : List DP} : (popF l).length = l.length - 1 := by
  rw [popF, List.length_take, downF_len, swp_length]; omega
theorem pop_last {l : List DP} (h0 : 0 < l.length) : atD (downF (swp l 0 (l.length - 1)) 0 (l.length - 1)) (l.length - 1) = atD l 0 := by
  rw [downF_far _ _ _ _ (by rw [swp_length]; omega) (Nat.le_refl _), swp_at h0 (by omega), if_pos rfl]
theorem popF_perm {l : List DP} (h0 : 0 < l.length) : l.Perm (atD l 0 :: popF l) := by
  have h1 := downF_perm (swp l 0 (l.length - 1)) 0 (l.length - 1) (by rw [swp_length]; omega)
  have h2 := swp_perm (l := l) (i := 0) (j := l.length - 1) h0 (by omega)
  have h3 := pop_last h0
  have h4 : (downF (swp l 0 (l.length - 1)) 0 (l.length - 1)).length = l.length := by rw [downF_len, swp_length]
  have hP := (h1.trans h2).symm
  rw [popF]
  generalize downF (swp l 0 (l.length - 1)) 0 (l.length - 1) = z at *
  have e : z = z.take (l.length - 1) ++ [atD l 0] := by
    rw [← h3, atD_lt (by omega)]
    conv => lhs; rw [← List.take_append_drop (l.length - 1) z]
    congr 1
    rw [List.drop_eq_getElem_cons (by omega), List.drop_of_length_le (by omega)]
  refine hP.trans ?_
  conv => lhs; rw [e]
  exact List.perm_append_singleton _ _
theorem popF_heap {l : List DP} (h0 : 0 < l.length) (h : Heap l) : Heap (popF l) := by
  have hd : HeapFrom (downF (swp l 0 (l.length - 1)) 0 (l.length - 1)) 0 (l.length - 1) := by
    refine down_heap _ 0 0 _ (by rw [swp_length]; omega) (Nat.le_refl _) ?_ ?_
    · intro k hk hk0 hp hne
      have e := fun k => swp_at (l := l) (i := 0) (j := l.length - 1) h0 (by omega) k
      rw [e, e, if_neg (by omega), if_neg (by omega), if_neg (by omega), if_neg hne]
      exact h k (by omega) hk0 (Nat.zero_le _)
    · intro k hk hk0 hp h0; omega
  intro k hk hk0 hp
  have hl := popF_len (l := l)
  have e : ∀ j, j < l.length - 1 → atD (popF l) j = atD (downF (swp l 0 (l.length - 1)) 0 (l.length - 1)) j := fun j hj => by
    simp only [popF, atD, List.getD_eq_getElem?_getD, List.getElem?_take, if_pos hj]
  rw [e k (by omega), e _ (by omega)]
  exact hd k (by omega) hk0 hp
theorem pop_srt {l : List DP} (h0 : 0 < l.length) (h : Heap l) : srt l = atD l 0 :: srt (popF l) := by
  rw [srt_perm (popF_perm h0)]
  refine srt_head fun x hx => ?_
  obtain ⟨k, hk, e⟩ := atD_of_mem ((popF_perm h0).mem_iff.2 (List.mem_cons_of_mem _ hx))
  rw [← e]
  exact heap_min h k hk
theorem heap_nil : Heap [] := by intro k hk; simp at hk
end Go.Proofs.Ytlbmkokdoigcnaa
