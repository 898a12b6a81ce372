/-
  A heap of what is due, and rows in order, as plain mathematics: going down, going up, a heap out of any row, the first one taken off; in order each row stands in one way alone. No condition.
-/
import Derived.Test.YtlbmkokdoigcnaaRows
namespace Go.Proofs.Ytlbmkokdoigcnaa

/-- what is due: when, and its number -/
structure DP where
  a : Int
  i : Int
theorem DP.ext' {x y : DP} (h1 : x.a = y.a) (h2 : x.i = y.i) : x = y := by cases x; cases y; simp_all
/-- is one ahead of another? -/
def ltD (x y : DP) : Bool := decide (x.a < y.a) || (x.a == y.a && decide (x.i < y.i))
theorem ltD_iff (x y : DP) : ltD x y = true ↔ x.a < y.a ∨ (x.a = y.a ∧ x.i < y.i) := by simp [ltD]
theorem ltD_not (x y : DP) : ltD x y = false ↔ ¬ (x.a < y.a ∨ (x.a = y.a ∧ x.i < y.i)) := by rw [← ltD_iff]; simp
theorem ltD_irr (x : DP) : ltD x x = false := by rw [ltD_not]; omega
theorem ltD_anti {x y : DP} (h1 : ltD x y = false) (h2 : ltD y x = false) : x = y := by
  rw [ltD_not] at h1 h2
  exact DP.ext' (by omega) (by omega)
theorem ltD_asymm {x y : DP} (h : ltD x y = true) : ltD y x = false := by rw [ltD_iff] at h; rw [ltD_not]; omega
/-- 'not behind' goes on -/
theorem le_trans' {x y z : DP} (h1 : ltD y x = false) (h2 : ltD z y = false) : ltD z x = false := by rw [ltD_not] at *; omega
theorem lt_le_trans {x y z : DP} (h1 : ltD x y = true) (h2 : ltD z y = false) : ltD x z = true := by rw [ltD_iff] at *; rw [ltD_not] at h2; omega
theorem le_lt_trans {x y z : DP} (h1 : ltD y x = false) (h2 : ltD y z = true) : ltD x z = true := by rw [ltD_iff] at *; rw [ltD_not] at h1; omega

/-- one in its place -/
def ins (x : DP) : List DP → List DP
  | [] => [x]
  | y :: l => if ltD x y = true then x :: y :: l else y :: ins x l
/-- a row in order, behind one that is -/
def srtTo (acc l : List DP) : List DP := l.foldl (fun acc x => ins x acc) acc
def srt (l : List DP) : List DP := srtTo [] l
theorem srtTo_nil (acc : List DP) : srtTo acc [] = acc := rfl
theorem srtTo_cons (acc : List DP) (x : DP) (l : List DP) : srtTo acc (x :: l) = srtTo (ins x acc) l := rfl
theorem srtTo_append (acc l m : List DP) : srtTo acc (l ++ m) = srtTo (srtTo acc l) m := by simp [srtTo]
theorem ins_comm (x y : DP) : ∀ l : List DP, ins x (ins y l) = ins y (ins x l)
  | [] => by
    simp only [ins]
    cases h1 : ltD x y <;> cases h2 : ltD y x <;> simp
    · exact ⟨(ltD_anti h1 h2).symm, ltD_anti h1 h2⟩
    · rw [ltD_asymm h1] at h2; cases h2
  | z :: l => by
    have ih := ins_comm x y l
    simp only [ins]
    cases h1 : ltD x z <;> cases h2 : ltD y z <;> simp only [ins, h1, h2, if_true, if_false, Bool.false_eq_true]
    · rw [ih]
    · cases h3 : ltD x y
      · simp
      · rw [lt_le_trans h3 (ltD_asymm h2)] at h1 <;> cases h1
    · cases h3 : ltD y x
      · simp
      · rw [lt_le_trans h3 (ltD_asymm h1)] at h2 <;> cases h2
    · cases h3 : ltD x y <;> cases h4 : ltD y x <;> simp
      · exact ⟨(ltD_anti h3 h4).symm, ltD_anti h3 h4⟩
      · rw [ltD_asymm h3] at h4; cases h4
theorem srtTo_perm {l m : List DP} (h : l.Perm m) : ∀ acc, srtTo acc l = srtTo acc m := by
  induction h with
  | nil => intro acc; rfl
  | cons x _ ih => intro acc; simp only [srtTo_cons]; exact ih _
  | swap x y l => intro acc; simp only [srtTo_cons]; rw [ins_comm]
  | trans _ _ ih1 ih2 => intro acc; rw [ih1, ih2]
theorem srt_perm {l m : List DP} (h : l.Perm m) : srt l = srt m := srtTo_perm h []
theorem ins_head {m x : DP} {l : List DP} (h : ltD x m = false) : ins x (m :: l) = m :: ins x l := by simp [ins, h]
theorem srtTo_head {m : DP} : ∀ {l acc : List DP}, (∀ x ∈ l, ltD x m = false) → srtTo (m :: acc) l = m :: srtTo acc l
  | [], acc, _ => rfl
  | x :: l, acc, h => by
    rw [srtTo_cons, srtTo_cons, ins_head (h x (by simp)), srtTo_head (fun y hy => h y (by simp [hy]))]
theorem srt_head {m : DP} {l : List DP} (h : ∀ x ∈ l, ltD x m = false) : srt (m :: l) = m :: srt l := by
  show srtTo (ins m []) l = _
  exact srtTo_head h
theorem ins_perm (x : DP) : ∀ l : List DP, (ins x l).Perm (x :: l)
  | [] => List.Perm.refl _
  | y :: l => by
    simp only [ins]
    split
    · exact List.Perm.refl _
    · exact ((ins_perm x l).cons y).trans (List.Perm.swap x y l)
theorem srtTo_perm_self : ∀ l acc : List DP, (srtTo acc l).Perm (acc ++ l)
  | [], acc => by rw [srtTo_nil, List.append_nil]
  | x :: l, acc => by
    rw [srtTo_cons]
    refine (srtTo_perm_self l _).trans ?_
    refine ((ins_perm x acc).append_right l).trans ?_
    exact (List.perm_middle (l₁ := acc)).symm
theorem srt_self (l : List DP) : (srt l).Perm l := srtTo_perm_self l []
theorem srt_length (l : List DP) : (srt l).length = l.length := (srt_self l).length_eq
theorem srt_nil : srt [] = [] := rfl
theorem ins_length (x : DP) (l : List DP) : (ins x l).length = l.length + 1 := by rw [(ins_perm x l).length_eq]; rfl
theorem srt_snoc (l : List DP) (x : DP) : srt (l ++ [x]) = ins x (srt l) := by rw [srt, srtTo_append]; rfl
/-- in order -/
def Sorted (l : List DP) : Prop := l.Pairwise fun x y => ltD y x = false
theorem ins_sorted (x : DP) : ∀ {l : List DP}, Sorted l → Sorted (ins x l)
  | [], _ => List.pairwise_singleton _ _
  | y :: l, h => by
    have h1 := List.pairwise_cons.1 h
    simp only [ins]
    split
    · rename_i hx
      refine List.pairwise_cons.2 ⟨fun z hz => ?_, h⟩
      rcases List.mem_cons.1 hz with rfl | hz
      · exact ltD_asymm hx
      · exact le_trans' (ltD_asymm hx) (h1.1 z hz)
    · rename_i hx
      refine List.pairwise_cons.2 ⟨fun z hz => ?_, ins_sorted x h1.2⟩
      rcases List.mem_cons.1 ((ins_perm x l).mem_iff.1 hz) with rfl | hz
      · simpa using hx
      · exact h1.1 z hz
theorem srtTo_sorted : ∀ {l acc : List DP}, Sorted acc → Sorted (srtTo acc l)
  | [], _, h => h
  | x :: l, _, h => srtTo_sorted (l := l) (ins_sorted x h)
theorem srt_sorted (l : List DP) : Sorted (srt l) := srtTo_sorted List.Pairwise.nil

/-- the one at a place -/
def atD (l : List DP) (k : Nat) : DP := l.getD k ⟨0, 0⟩
theorem atD_lt {l : List DP} {k : Nat} (h : k < l.length) : atD l k = l[k] := by simp [atD, List.getD_eq_getElem?_getD, h]
theorem atD_set (l : List DP) (j k : Nat) (x : DP) (h : j < l.length) : atD (l.set j x) k = if k = j then x else atD l k := by
  simp only [atD, List.getD_eq_getElem?_getD, List.getElem?_set]
  by_cases e : k = j
  · subst e; simp [h]
  · rw [if_neg (fun e' => e e'.symm), if_neg e]
theorem atD_mem {l : List DP} {k : Nat} (h : k < l.length) : atD l k ∈ l := by rw [atD_lt h]; exact List.getElem_mem h
theorem atD_of_mem {l : List DP} {x : DP} (h : x ∈ l) : ∃ k, k < l.length ∧ atD l k = x := by
  obtain ⟨k, hk, e⟩ := List.mem_iff_getElem.1 h
  exact ⟨k, hk, by rw [atD_lt hk, e]⟩
/-- two change their places -/
def swp (l : List DP) (i j : Nat) : List DP := (l.set i (atD l j)).set j (atD l i)
theorem swp_length (l : List DP) (i j : Nat) : (swp l i j).length = l.length := by simp [swp]
theorem swp_at {l : List DP} {i j : Nat} (hi : i < l.length) (hj : j < l.length) (k : Nat) : atD (swp l i j) k = if k = j then atD l i else if k = i then atD l j else atD l k := by
  rw [swp, atD_set _ _ _ _ (by simpa using hj), atD_set _ _ _ _ hi]
theorem swp_perm {l : List DP} {i j : Nat} (hi : i < l.length) (hj : j < l.length) : (swp l i j).Perm l := by
  rw [swp, atD_lt hi, atD_lt hj]
  exact List.set_set_perm hi hj
theorem swp_comm (l : List DP) (i j : Nat) : swp l i j = swp l j i := by
  by_cases h : i = j
  · subst h; rfl
  · simp only [swp]; rw [List.set_comm _ _ h]
/-- the child that is ahead -/
def chJ (l : List DP) (n j : Nat) : Nat := if j + 1 < n ∧ ltD (atD l (j + 1)) (atD l j) = true then j + 1 else j
theorem chJ_le (l : List DP) (n j : Nat) : j ≤ chJ l n j := by unfold chJ; split <;> omega
theorem chJ_le1 (l : List DP) (n j : Nat) : chJ l n j ≤ j + 1 := by unfold chJ; split <;> omega
theorem chJ_lt {l : List DP} {n j : Nat} (h : j < n) : chJ l n j < n := by unfold chJ; split <;> omega
/-- going down from the place i, of the first n -/
def downF (l : List DP) (i n : Nat) : List DP :=
  if _h : 2 * i + 1 < n then
    if ltD (atD l (chJ l n (2 * i + 1))) (atD l i) = true then downF (swp l i (chJ l n (2 * i + 1))) (chJ l n (2 * i + 1)) n else l
  else l
  termination_by n - i
  decreasing_by
    have := chJ_le l n (2 * i + 1)
    omega
/-- going up from the place j -/
def upF (l : List DP) (j : Nat) : List DP :=
  if _h : 0 < j then
    if ltD (atD l j) (atD l ((j - 1) / 2)) = true then upF (swp l ((j - 1) / 2) j) ((j - 1) / 2) else l
  else l
  termination_by j
  decreasing_by omega
/-- from the places below k on -/
def initF (l : List DP) (n : Nat) : Nat → List DP
  | 0 => l
  | k + 1 => initF (downF l k n) n k
theorem downF_len (l : List DP) (i n : Nat) : (downF l i n).length = l.length := by
  rw [downF]
  split
  · split
    · have := chJ_le l n (2 * i + 1)
      rw [downF_len, swp_length]
    · rfl
  · rfl
  termination_by n - i
  decreasing_by have := chJ_le l n (2 * i + 1); omega
theorem upF_len (l : List DP) (j : Nat) : (upF l j).length = l.length := by
  rw [upF]
  split
  · split
    · rw [upF_len, swp_length]
    · rfl
  · rfl
  termination_by j
  decreasing_by omega
theorem initF_len : ∀ (k : Nat) (l : List DP) (n : Nat), (initF l n k).length = l.length
  | 0, _, _ => rfl
  | k + 1, l, n => by rw [initF, initF_len k, downF_len]
end Go.Proofs.Ytlbmkokdoigcnaa
