/-
  The words of a list, which blanks part, as plain mathematics; whether a word is one of them. No condition.
-/
import Derived.Test.YtbdhppigmlfjhaaWStrC
namespace Go.Proofs.Ytbdhppigmlfjhaa

/-- what stands between blanks -/
def segs : List UInt8 → List (List UInt8)
  | [] => [[]]
  | c :: l => if c = 32 then [] :: segs l else match segs l with
    | [] => [[c]]
    | h :: t => (c :: h) :: t
/-- is a word, which isn't empty, one of the words of a list? -/
def offX (l w : List UInt8) : Bool := !(w == []) && (segs l).any (fun x => x == w)
theorem segs_ne (l : List UInt8) : segs l ≠ [] := by
  cases l with
  | nil => simp [segs]
  | cons c l =>
    rw [segs]
    split
    · simp
    · split <;> simp
theorem segs_blank (l : List UInt8) : segs (32 :: l) = [] :: segs l := by rw [segs, if_pos rfl]
theorem segs_cons {c : UInt8} (hc : c ≠ 32) {l h : List UInt8} {t : List (List UInt8)} (e : segs l = h :: t) : segs (c :: l) = (c :: h) :: t := by
  rw [segs, if_neg hc, e]
theorem segs_one : ∀ {l : List UInt8}, (32 : UInt8) ∉ l → segs l = [l]
  | [], _ => rfl
  | c :: l, h => by
    rw [List.mem_cons, not_or] at h
    exact segs_cons (fun e => h.1 e.symm) (segs_one h.2)
theorem segs_two : ∀ (a b : List UInt8), (32 : UInt8) ∉ a → segs (a ++ 32 :: b) = a :: segs b
  | [], b, _ => segs_blank b
  | c :: a, b, h => by
    rw [List.mem_cons, not_or] at h
    exact segs_cons (fun e => h.1 e.symm) (segs_two a b h.2)
theorem segs_join : ∀ a b : List UInt8, segs (a ++ 32 :: b) = segs a ++ segs b
  | [], b => segs_blank b
  | c :: a, b => by
    by_cases hc : c = 32
    · subst hc
      rw [List.cons_append, segs_blank, segs_blank, segs_join a b, List.cons_append]
    · cases e : segs a with
      | nil => exact absurd e (segs_ne a)
      | cons h t =>
        have e2 := segs_join a b
        rw [e, List.cons_append] at e2
        rw [List.cons_append, segs_cons hc e2, segs_cons hc e, List.cons_append]
theorem segs_no : ∀ {l x : List UInt8}, x ∈ segs l → (32 : UInt8) ∉ x
  | [], x, h => by
    rw [segs, List.mem_singleton] at h
    subst h
    exact List.not_mem_nil
  | c :: l, x, h => by
    by_cases hc : c = 32
    · subst hc
      rw [segs_blank, List.mem_cons] at h
      rcases h with rfl | h
      · exact List.not_mem_nil
      · exact segs_no h
    · cases e : segs l with
      | nil => exact absurd e (segs_ne l)
      | cons y t =>
        rw [segs_cons hc e, List.mem_cons] at h
        have ih : ∀ z ∈ segs l, (32 : UInt8) ∉ z := fun z hz => segs_no hz
        rw [e] at ih
        rcases h with rfl | h
        · rw [List.mem_cons, not_or]
          exact ⟨fun k => hc k.symm, ih y (List.mem_cons_self ..)⟩
        · exact ih x (List.mem_cons_of_mem _ h)
/-- is a word empty, or has it a blank? -/
def blankX (w : List UInt8) : Bool := (w == []) || w.any (fun c => c == 32)
theorem off_join (a b w : List UInt8) : offX (a ++ 32 :: b) w = (offX a w || offX b w) := by
  rw [offX, offX, offX, segs_join, List.any_append]
  cases (!(w == [])) <;> simp
theorem off_self (w : List UInt8) : offX w w = !blankX w := by
  rw [offX, blankX]
  cases hw : (w == []) with
  | true => rfl
  | false =>
    simp only [Bool.not_false, Bool.true_and, Bool.false_or]
    by_cases h : (32 : UInt8) ∈ w
    · have e1 : (segs w).any (fun x => x == w) = false := by
        rw [List.any_eq_false]
        intro x hx hxw
        rw [beq_iff_eq] at hxw
        subst hxw
        exact segs_no hx h
      have e2 : w.any (fun c => c == 32) = true := List.any_eq_true.2 ⟨32, h, rfl⟩
      rw [e1, e2]; rfl
    · have e1 : (segs w).any (fun x => x == w) = true := by rw [segs_one h]; simp
      have e2 : w.any (fun c => c == 32) = false := by
        rw [List.any_eq_false]
        intro c hc hcc
        rw [beq_iff_eq] at hcc
        subst hcc
        exact h hc
      rw [e1, e2]; rfl
theorem off_blank {l w : List UInt8} (h : blankX w = true) : offX l w = false := by
  rw [offX]
  cases hw : (w == []) with
  | true => rfl
  | false =>
    rw [blankX, hw, Bool.false_or, List.any_eq_true] at h
    obtain ⟨c, hc, hcc⟩ := h
    rw [beq_iff_eq] at hcc
    subst hcc
    simp only [Bool.not_false, Bool.true_and]
    rw [List.any_eq_false]
    intro x hx hxw
    rw [beq_iff_eq] at hxw
    subst hxw
    exact segs_no hx hc

theorem wd_len (s : ByteArray) : s.data.toList.length = s.size := by rw [Lib.size_eq]
theorem wd_ext {a b : ByteArray} (h : a.data.toList = b.data.toList) : a = b := ByteArray.ext (Array.toList_inj.1 h)
theorem wd_empty {s : ByteArray} (h : s.size = 0) : s.data.toList = [] := List.eq_nil_of_length_eq_zero (by rw [wd_len]; exact h)
/-- where the first blank is, a text is what is ahead of it, and what is behind -/
theorem index_split : ∀ {l : List UInt8} {k : Nat}, Lib.indexByte l 32 = k → l = l.take k ++ 32 :: l.drop (k + 1) ∧ (32 : UInt8) ∉ l.take k
  | [], k, h => by simp [Lib.indexByte] at h
  | c :: l, k, h => by
    rw [Lib.indexByte] at h
    by_cases hc : c = 32
    · subst hc
      rw [if_pos (by simp)] at h
      obtain rfl : k = 0 := by omega
      exact ⟨rfl, by simp⟩
    · rw [if_neg (by simpa using hc)] at h
      split at h
      · omega
      · rename_i hn
        have hg := Lib.indexByte_ge l 32
        have hn' : ¬ Lib.indexByte l 32 = -1 := by simpa using hn
        obtain ⟨j, hj⟩ := Int.eq_ofNat_of_zero_le (show 0 ≤ Lib.indexByte l 32 by omega)
        obtain rfl : k = j + 1 := by omega
        obtain ⟨e1, e2⟩ := index_split hj
        refine ⟨?_, ?_⟩
        · rw [List.take_succ_cons, List.drop_succ_cons, List.cons_append, ← e1]
        · rw [List.take_succ_cons, List.mem_cons, not_or]
          exact ⟨fun e => hc e.symm, e2⟩
theorem index_not : ∀ {l : List UInt8}, Lib.indexByte l 32 = -1 → (32 : UInt8) ∉ l
  | [], _ => List.not_mem_nil
  | c :: l, h => by
    rw [Lib.indexByte] at h
    by_cases hc : c = 32
    · subst hc
      rw [if_pos (by simp)] at h
      omega
    · rw [if_neg (by simpa using hc)] at h
      split at h
      · rename_i hn
        rw [List.mem_cons, not_or]
        exact ⟨fun e => hc e.symm, index_not (by simpa using hn)⟩
      · have hg := Lib.indexByte_ge l 32
        omega

/-- the words of a list, without the empty ones -/
def wordsL (s : ByteArray) : List ByteArray :=
  if _h : 0 ≤ cutAt s 32 then (if (cutA s 32).size = 0 then [] else [cutA s 32]) ++ wordsL (cutB s 32) else (if s.size = 0 then [] else [s])
termination_by s.size
decreasing_by
  rw [cutB, if_pos _h, ByteArray.size_extract]
  have h1 := indexByte_lt s.data.toList 32
  rw [← Lib.size_eq] at h1
  have h2 : cutAt s 32 = Lib.indexByte s.data.toList 32 := rfl
  omega
theorem words_more {s : ByteArray} (h : 0 ≤ cutAt s 32) : wordsL s = (if (cutA s 32).size = 0 then [] else [cutA s 32]) ++ wordsL (cutB s 32) := by
  rw [wordsL, dif_pos h]
theorem words_last {s : ByteArray} (h : ¬ 0 ≤ cutAt s 32) : wordsL s = (if s.size = 0 then [] else [s]) := by
  rw [wordsL, dif_neg h]
theorem cutB_small {s : ByteArray} (h : 0 ≤ cutAt s 32) : (cutB s 32).size < s.size := by
  rw [cutB, if_pos h, ByteArray.size_extract]
  have h1 := indexByte_lt s.data.toList 32
  rw [← Lib.size_eq] at h1
  have h2 : cutAt s 32 = Lib.indexByte s.data.toList 32 := rfl
  omega
theorem cut_parts {s : ByteArray} (h : 0 ≤ cutAt s 32) : s.data.toList = (cutA s 32).data.toList ++ 32 :: (cutB s 32).data.toList ∧ (32 : UInt8) ∉ (cutA s 32).data.toList := by
  obtain ⟨k, hk⟩ := Int.eq_ofNat_of_zero_le h
  have h2 : Lib.indexByte s.data.toList 32 = k := hk
  obtain ⟨e1, e2⟩ := index_split h2
  have ea : (cutA s 32).data.toList = s.data.toList.take k := by
    rw [cutA, if_pos h, hk, Lib.extract_data, Int.toNat_natCast, List.drop_zero, Nat.sub_zero]
  have eb : (cutB s 32).data.toList = s.data.toList.drop (k + 1) := by
    rw [cutB, if_pos h, hk, Lib.extract_data, Int.toNat_natCast, List.take_of_length_le]
    rw [List.length_drop, wd_len]
    omega
  rw [ea, eb]
  exact ⟨e1, e2⟩
theorem cut_none {s : ByteArray} (h : ¬ 0 ≤ cutAt s 32) : (32 : UInt8) ∉ s.data.toList := by
  have hg := Lib.indexByte_ge s.data.toList 32
  have h2 : cutAt s 32 = Lib.indexByte s.data.toList 32 := rfl
  exact index_not (by omega)
theorem words_off (w : ByteArray) : ∀ (n : Nat) (s : ByteArray), s.size = n → (wordsL s).any (fun x => x.toList == w.toList) = offX s.data.toList w.data.toList := by
  intro n
  induction n using Nat.strongRecOn with
  | ind n ih =>
    intro s hs
    have one : ∀ x : ByteArray, (if x.size = 0 then [] else [x]).any (fun x => x.toList == w.toList) = (!(w.data.toList == []) && (x.data.toList == w.data.toList)) := fun x => by
      by_cases hx : x.size = 0
      · rw [if_pos hx, wd_empty hx, List.any_nil]
        cases hw : w.data.toList with
        | nil => rfl
        | cons a l => rfl
      · rw [if_neg hx, List.any_cons, List.any_nil, Bool.or_false, Lib.toList_data, Lib.toList_data]
        cases hw : w.data.toList with
        | nil =>
          have h2 : (x.data.toList == []) = false := beq_eq_false_iff_ne.2 (fun e => hx (by rw [← wd_len, e]; rfl))
          rw [h2]; rfl
        | cons a l => rfl
    by_cases h : 0 ≤ cutAt s 32
    · obtain ⟨e1, e2⟩ := cut_parts h
      rw [words_more h, List.any_append, one, ih _ (by rw [← hs]; exact cutB_small h) _ rfl]
      have e3 : offX s.data.toList w.data.toList = (!(w.data.toList == []) && ((cutA s 32).data.toList == w.data.toList) || offX (cutB s 32).data.toList w.data.toList) := by
        rw [e1, offX, offX, segs_two _ _ e2, List.any_cons]
        cases (!(w.data.toList == [])) <;> simp
      rw [e3]
    · have e1 := cut_none h
      rw [words_last h, one, offX, segs_one e1, List.any_cons, List.any_nil, Bool.or_false]
end Go.Proofs.Ytbdhppigmlfjhaa
