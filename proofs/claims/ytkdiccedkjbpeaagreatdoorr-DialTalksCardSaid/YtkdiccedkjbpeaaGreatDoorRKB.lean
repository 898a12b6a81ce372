/-
  Several texts joined in one file: each says at its own head, below, what it proves, and its conditions.
-/
import Derived.Test.YtkdiccedkjbpeaaGreatDoorRRows
import Derived.Handy
import Derived.WalkKit
import Derived.WalkSpells
import Derived.WalkLawsBesides
import Derived.Lib.Hide
import Derived.Lib.Bytealg
import Derived.Deep.QuietTactic
import Derived.BigQuiet
import Derived.WalkSmall
/-
  What the library's strings.IndexByte, Index and Cut answer at a text of one byte, by walking them; nothing that was there is changed. No condition but that a text's length is an int.
-/
namespace Go.Proofs.YtkdiccedkjbpeaaGreatDoorR
open Go.RowKit

set_option maxRecDepth 100000 in
theorem sliteIndexByte_any (s : ByteArray) (c : Int) (w : World) :
    Calls Tryz.prog 70 #[.string s, .int .u8 c] w fun e w' => e = .returned (.int .i64 (Lib.indexByte s.data.toList c.toNat.toUInt8)) ∧ w = w' := by
  go_enter Tryz.func70, Tryz.ntmps70
  go_wp2
  rw [run_callFunc_extern Tryz.func87 (by kernel_rfl) (by kernel_rfl) (by kernel_rfl) (e := Extern.BytealgIndexByte.indexByte) (by kernel_rfl), Lib.run_indexByteString]
  simp only [Result.andThen]
  rw [Oper.upon_value]
  go_wp2
  go_ret
  exact ⟨rfl, rfl⟩
/-- a text that is the one byte has it at 0 -/
theorem indexByte_self (c : UInt8) : Lib.indexByte [c] c = 0 := by simp [Lib.indexByte]
set_option maxRecDepth 100000 in
theorem sliteIndex_any (s : ByteArray) (c : UInt8) (w : World) :
    Calls Tryz.prog 46 #[.string s, .string ⟨#[c]⟩] w fun e w' => e = .returned (.int .i64 (Lib.indexByte s.data.toList c)) ∧ w = w' := by
  by_cases hs : s = ⟨#[c]⟩
  · subst hs
    go_enter Tryz.func46, Tryz.ntmps46
    go_wp2
    go_ret
    exact ⟨by rw [indexByte_self]; rfl, rfl⟩
  · have t1 : ([c] == s.toList) = false := by
      rw [beq_eq_false_iff_ne]
      intro h
      rw [Lib.toList_data] at h
      exact hs (ByteArray.ext (Array.toList_inj.1 h.symm))
    go_enter Tryz.func46, Tryz.ntmps46
    go_wp2_with fail
    refine (sliteIndexByte_any s c.toNat w).mono ?_
    rintro e w1 ⟨rfl, rfl⟩
    go_wp2
    go_ret
    exact ⟨by simp, rfl⟩

theorem indexByte_lt (l : List UInt8) (c : UInt8) : Lib.indexByte l c < l.length := by
  induction l with
  | nil => simp [Lib.indexByte]
  | cons b l ih =>
    unfold Lib.indexByte
    rw [List.length_cons]
    split
    · omega
    · split <;> omega

/-- what strings.Cut answers at a text of one byte -/
def cutAt (s : ByteArray) (c : UInt8) : Int := Lib.indexByte s.data.toList c
def cutA (s : ByteArray) (c : UInt8) : ByteArray := if 0 ≤ cutAt s c then s.extract 0 (cutAt s c).toNat else s
def cutB (s : ByteArray) (c : UInt8) : ByteArray := if 0 ≤ cutAt s c then s.extract ((cutAt s c).toNat + 1) s.size else ⟨#[]⟩
set_option maxRecDepth 100000 in
theorem sliteCut_any (s : ByteArray) (c : UInt8) (w : World) (hs : s.size < 4611686018427387904) :
    Calls Tryz.prog 69 #[.string s, .string ⟨#[c]⟩] w fun e w' => e = .returned (.tuple #[.string (cutA s c), .string (cutB s c), .bool (decide (0 ≤ cutAt s c))]) ∧ Below w.heap.size w w' := by
  have hlt := indexByte_lt s.data.toList c
  rw [← Lib.size_eq] at hlt
  have hge := Lib.indexByte_ge s.data.toList c
  go_enter Tryz.func69, Tryz.ntmps69
  go_wp2_with fail
  refine (sliteIndex_any s c w).mono ?_
  rintro e w1 ⟨rfl, rfl⟩
  rcases Int.lt_or_le (Lib.indexByte s.data.toList c) 0 with h | h
  · have e1 : Lib.indexByte s.data.toList c = -1 := by omega
    rw [e1]
    have H := Lib.hid (show ¬ 0 ≤ cutAt s c by rw [cutAt]; omega)
    clear e1 h hge hlt
    go_wp2
    go_ret3
    refine ⟨?_, Below.refl _ _⟩
    have h := H.out
    have e1 : cutA s c = s := by rw [cutA, if_neg (by omega)]
    have e2 : cutB s c = ⟨#[]⟩ := by rw [cutB, if_neg (by omega)]
    have e3 : decide (0 ≤ cutAt s c) = false := by simpa using h
    rw [e1, e2, e3]
    rfl
  · obtain ⟨k, hk⟩ := Int.eq_ofNat_of_zero_le h
    have H := Lib.hid (show cutAt s c = k from hk)
    rw [hk] at hlt ⊢
    have hlt' : k < s.size := by omega
    clear h hge hk hlt
    go_wp2
    go_quiet (fail)
    go_wp2
    go_ret3
    refine ⟨?_, below_drewN (Below.refl _ _) _⟩
    simp [cutA, cutB, H.out]
set_option maxRecDepth 100000 in
theorem cut_any (s : ByteArray) (c : UInt8) (w : World) (hs : s.size < 4611686018427387904) :
    Calls Tryz.prog 45 #[.string s, .string ⟨#[c]⟩] w fun e w' => e = .returned (.tuple #[.string (cutA s c), .string (cutB s c), .bool (decide (0 ≤ cutAt s c))]) ∧ Below w.heap.size w w' := by
  go_enter Tryz.func45, Tryz.ntmps45
  go_wp2_with fail
  refine (sliteCut_any s c w hs).mono ?_
  rintro e w1 ⟨rfl, hb⟩
  go_wp2
  go_ret3
  exact ⟨rfl, hb⟩

end Go.Proofs.YtkdiccedkjbpeaaGreatDoorR

/-
  What the library's strings.IndexByte, Index, Count, Cut and CutPrefix answer at a text of one byte, by walking them; the world stays as it was. No condition but that a text's length is an int.
-/
namespace Go.Proofs.YtkdiccedkjbpeaaGreatDoorR
open Go.RowKit

set_option maxRecDepth 100000 in
theorem count_any (s : ByteArray) (c : UInt8) (w : World) :
    Calls Tryz.prog 83 #[.string s, .string ⟨#[c]⟩] w fun e w' => e = .returned (.int .i64 (Lib.countByte s.data.toList c)) ∧ w = w' := by
  go_enter Tryz.func83, Tryz.ntmps83
  go_wp2
  rw [run_callFunc_extern Tryz.func106 (by kernel_rfl) (by kernel_rfl) (by kernel_rfl) (e := Extern.BytealgCount.count) (by kernel_rfl), Lib.run_countString]
  simp only [Result.andThen]
  rw [Oper.upon_value]
  go_wp2
  go_ret
  exact ⟨rfl, rfl⟩

/-- what strings.CutPrefix answers at a text of one byte -/
def hasFirst (s : ByteArray) (c : UInt8) : Bool := s.data.toList.head? == some c
def offFirst (s : ByteArray) (c : UInt8) : ByteArray := if hasFirst s c = true then s.extract 1 s.size else s
theorem hasFirst_spell (s : ByteArray) (c : UInt8) (h : 1 ≤ s.size) : ((s.extract 0 1).toList == [c]) = hasFirst s c := by
  rw [Lib.extract_toList, hasFirst]
  rw [Lib.size_eq] at h
  cases hl : s.data.toList with
  | nil => rw [hl] at h; simp at h
  | cons b l => simp
set_option maxRecDepth 100000 in
theorem hasPrefix_any (s : ByteArray) (c : UInt8) (w : World) :
    Calls Tryz.prog 115 #[.string s, .string ⟨#[c]⟩] w fun e w' => e = .returned (.bool (hasFirst s c)) ∧ w = w' := by
  by_cases h : 1 ≤ s.size
  · have H := Lib.hid (hasFirst_spell s c h)
    go_enter Tryz.func115, Tryz.ntmps115
    go_wp2
    go_ret
    refine ⟨?_, rfl⟩
    rw [← H.out]
    rfl
  · have H := Lib.hid (show hasFirst s c = false by
      rw [Lib.size_eq] at h
      rw [hasFirst]
      cases hl : s.data.toList with
      | nil => rfl
      | cons b l => rw [hl] at h; simp at h)
    go_enter Tryz.func115, Tryz.ntmps115
    go_wp2
    go_ret
    refine ⟨?_, rfl⟩
    rw [H.out]
    rfl
theorem hasFirst_size {s : ByteArray} {c : UInt8} (h : hasFirst s c = true) : 1 ≤ s.size := by
  rw [Lib.size_eq]
  rw [hasFirst] at h
  cases hl : s.data.toList with
  | nil => rw [hl] at h; simp at h
  | cons b l => simp
set_option maxRecDepth 100000 in
theorem sliteCutPrefix_any (s : ByteArray) (c : UInt8) (w : World) :
    Calls Tryz.prog 104 #[.string s, .string ⟨#[c]⟩] w fun e w' => e = .returned (.tuple #[.string (offFirst s c), .bool (hasFirst s c)]) ∧ w = w' := by
  go_enter Tryz.func104, Tryz.ntmps104
  go_wp2_with fail
  refine (hasPrefix_any s c w).mono ?_
  rintro e w1 ⟨rfl, rfl⟩
  cases h : hasFirst s c
  · have H := Lib.hid (show offFirst s c = s ∧ hasFirst s c = false by simp [offFirst, h])
    clear h
    go_wp2
    go_ret2
    exact ⟨by rw [H.out.1, H.out.2]; rfl, rfl⟩
  · have H := Lib.hid (show offFirst s c = s.extract 1 s.size ∧ hasFirst s c = true by simp [offFirst, h])
    have h1 := hasFirst_size h
    clear h
    go_wp2
    go_ret2
    exact ⟨by rw [H.out.1, H.out.2]; rfl, rfl⟩
set_option maxRecDepth 100000 in
theorem cutPrefix_any (s : ByteArray) (c : UInt8) (w : World) :
    Calls Tryz.prog 82 #[.string s, .string ⟨#[c]⟩] w fun e w' => e = .returned (.tuple #[.string (offFirst s c), .bool (hasFirst s c)]) ∧ w = w' := by
  go_enter Tryz.func82, Tryz.ntmps82
  go_wp2_with fail
  refine (sliteCutPrefix_any s c w).mono ?_
  rintro e w1 ⟨rfl, rfl⟩
  go_wp2
  go_ret2
  exact ⟨rfl, rfl⟩
end Go.Proofs.YtkdiccedkjbpeaaGreatDoorR

/-
  text.Pairs answers, as a plain function says, what stands between and behind the two bytes 0 of a text that begins with one and has just one more; nothing that was there is changed. No condition but that a text has fewer than 2^62 bytes.
-/
namespace Go.Proofs.YtkdiccedkjbpeaaGreatDoorR
open Go.RowKit

/-- what PLAIN answers: is it one, the name, the word -/
def pairOk (s : ByteArray) : Bool := hasFirst s 0 && (Lib.countByte (s.extract 1 s.size).data.toList 0 == 1)
def pairA (s : ByteArray) : ByteArray := if pairOk s = true then cutA (s.extract 1 s.size) 0 else ⟨#[]⟩
def pairB (s : ByteArray) : ByteArray := if pairOk s = true then cutB (s.extract 1 s.size) 0 else ⟨#[]⟩

theorem pairs_any (s : ByteArray) (w : World) (hs : s.size < 4611686018427387904) :
    Calls Tryz.prog 62 #[.string s] w fun e w' => e = .returned (.tuple #[.string (pairA s), .string (pairB s), .bool (pairOk s)]) ∧ Below w.heap.size w w' := by
  go_enter Tryz.func62, Tryz.ntmps62
  go_wp2_with fail
  refine (cutPrefix_any s 0 w).mono ?_
  rintro e w1 ⟨rfl, rfl⟩
  cases h : hasFirst s 0
  · have H := Lib.hid (show pairOk s = false by simp [pairOk, h])
    clear h
    go_wp2
    go_ret3
    exact ⟨by simp [pairA, pairB, H.out], Below.refl _ _⟩
  · have hz : (s.extract 1 s.size).size < 4611686018427387904 := by rw [ByteArray.size_extract]; omega
    have e1 : offFirst s 0 = s.extract 1 s.size := by simp [offFirst, h]
    obtain ⟨r, hr⟩ : ∃ r, s.extract 1 s.size = r := ⟨_, rfl⟩
    rw [hr] at e1 hz
    have H1 := Lib.hid (show pairOk s = (Lib.countByte r.data.toList 0 == 1) by rw [pairOk, h, hr]; rfl)
    have Hr := Lib.hid hr
    rw [e1]
    clear h e1 hr
    go_wp2_with fail
    refine (count_any r 0 w).mono ?_
    rintro e w1 ⟨rfl, rfl⟩
    generalize Lib.countByte r.data.toList 0 = n at H1 ⊢
    by_cases hc : n = 1
    · subst hc
      have H := Lib.hid (show pairOk s = true by simpa using H1.out)
      clear H1
      go_wp2_with fail
      refine (cut_any r 0 w hz).mono ?_
      rintro e w1 ⟨rfl, hb⟩
      go_wp2
      go_ret3
      exact ⟨by simp [pairA, pairB, H.out, Hr.out], hb⟩
    · have H := Lib.hid (show pairOk s = false by rw [H1.out]; simpa using hc)
      have d1 : ((n : Int) != 1) = true := by simp; omega
      clear H1
      go_wp2
      go_ret3
      exact ⟨by simp [pairA, pairB, H.out], Below.refl _ _⟩
end Go.Proofs.YtkdiccedkjbpeaaGreatDoorR

/-
  The words of a list, which blanks part, as plain mathematics; whether a word is one of them. No condition.
-/
namespace Go.Proofs.YtkdiccedkjbpeaaGreatDoorR

/-- what stands between blanks -/
def segs : List UInt8 → List (List UInt8)
  | [] => [[]]
  | c :: l => if c = 32 then [] :: segs l else match segs l with
    | [] => [[c]]
    | h :: t => (c :: h) :: t
/-- is a word, which isn't empty, one of the words of a list? -/
def offX (l w : List UInt8) : Bool := !(w == []) && (segs l).any (fun x => x == w)
theorem segs_ne (l : List UInt8) : segs l ≠ [] := by
  cases l with
  | nil => simp [segs]
  | cons c l =>
    rw [segs]
    split
    · simp
    · split <;> simp
theorem segs_blank (l : List UInt8) : segs (32 :: l) = [] :: segs l := by rw [segs, if_pos rfl]
theorem segs_cons {c : UInt8} (hc : c ≠ 32) {l h : List UInt8} {t : List (List UInt8)} (e : segs l = h :: t) : segs (c :: l) = (c :: h) :: t := by
  rw [segs, if_neg hc, e]
theorem segs_one : ∀ {l : List UInt8}, (32 : UInt8) ∉ l → segs l = [l]
  | [], _ => rfl
  | c :: l, h => by
    rw [List.mem_cons, not_or] at h
    exact segs_cons (fun e => h.1 e.symm) (segs_one h.2)
theorem segs_two : ∀ (a b : List UInt8), (32 : UInt8) ∉ a → segs (a ++ 32 :: b) = a :: segs b
  | [], b, _ => segs_blank b
  | c :: a, b, h => by
    rw [List.mem_cons, not_or] at h
    exact segs_cons (fun e => h.1 e.symm) (segs_two a b h.2)
theorem segs_join : ∀ a b : List UInt8, segs (a ++ 32 :: b) = segs a ++ segs b
  | [], b => segs_blank b
  | c :: a, b => by
    by_cases hc : c = 32
    · subst hc
      rw [List.cons_append, segs_blank, segs_blank, segs_join a b, List.cons_append]
    · cases e : segs a with
      | nil => exact absurd e (segs_ne a)
      | cons h t =>
        have e2 := segs_join a b
        rw [e, List.cons_append] at e2
        rw [List.cons_append, segs_cons hc e2, segs_cons hc e, List.cons_append]
theorem segs_no : ∀ {l x : List UInt8}, x ∈ segs l → (32 : UInt8) ∉ x
  | [], x, h => by
    rw [segs, List.mem_singleton] at h
    subst h
    exact List.not_mem_nil
  | c :: l, x, h => by
    by_cases hc : c = 32
    · subst hc
      rw [segs_blank, List.mem_cons] at h
      rcases h with rfl | h
      · exact List.not_mem_nil
      · exact segs_no h
    · cases e : segs l with
      | nil => exact absurd e (segs_ne l)
      | cons y t =>
        rw [segs_cons hc e, List.mem_cons] at h
        have ih : ∀ z ∈ segs l, (32 : UInt8) ∉ z := fun z hz => segs_no hz
        rw [e] at ih
        rcases h with rfl | h
        · rw [List.mem_cons, not_or]
          exact ⟨fun k => hc k.symm, ih y (List.mem_cons_self ..)⟩
        · exact ih x (List.mem_cons_of_mem _ h)
/-- is a word empty, or has it a blank? -/
def blankX (w : List UInt8) : Bool := (w == []) || w.any (fun c => c == 32)
theorem off_join (a b w : List UInt8) : offX (a ++ 32 :: b) w = (offX a w || offX b w) := by
  rw [offX, offX, offX, segs_join, List.any_append]
  cases (!(w == [])) <;> simp
theorem off_self (w : List UInt8) : offX w w = !blankX w := by
  rw [offX, blankX]
  cases hw : (w == []) with
  | true => rfl
  | false =>
    simp only [Bool.not_false, Bool.true_and, Bool.false_or]
    by_cases h : (32 : UInt8) ∈ w
    · have e1 : (segs w).any (fun x => x == w) = false := by
        rw [List.any_eq_false]
        intro x hx hxw
        rw [beq_iff_eq] at hxw
        subst hxw
        exact segs_no hx h
      have e2 : w.any (fun c => c == 32) = true := List.any_eq_true.2 ⟨32, h, rfl⟩
      rw [e1, e2]; rfl
    · have e1 : (segs w).any (fun x => x == w) = true := by rw [segs_one h]; simp
      have e2 : w.any (fun c => c == 32) = false := by
        rw [List.any_eq_false]
        intro c hc hcc
        rw [beq_iff_eq] at hcc
        subst hcc
        exact h hc
      rw [e1, e2]; rfl
theorem off_blank {l w : List UInt8} (h : blankX w = true) : offX l w = false := by
  rw [offX]
  cases hw : (w == []) with
  | true => rfl
  | false =>
    rw [blankX, hw, Bool.false_or, List.any_eq_true] at h
    obtain ⟨c, hc, hcc⟩ := h
    rw [beq_iff_eq] at hcc
    subst hcc
    simp only [Bool.not_false, Bool.true_and]
    rw [List.any_eq_false]
    intro x hx hxw
    rw [beq_iff_eq] at hxw
    subst hxw
    exact segs_no hx hc

theorem wd_len (s : ByteArray) : s.data.toList.length = s.size := by rw [Lib.size_eq]
theorem wd_ext {a b : ByteArray} (h : a.data.toList = b.data.toList) : a = b := ByteArray.ext (Array.toList_inj.1 h)
theorem wd_empty {s : ByteArray} (h : s.size = 0) : s.data.toList = [] := List.eq_nil_of_length_eq_zero (by rw [wd_len]; exact h)
/-- where the first blank is, a text is what is ahead of it, and what is behind -/
theorem index_split : ∀ {l : List UInt8} {k : Nat}, Lib.indexByte l 32 = k → l = l.take k ++ 32 :: l.drop (k + 1) ∧ (32 : UInt8) ∉ l.take k
  | [], k, h => by simp [Lib.indexByte] at h
  | c :: l, k, h => by
    rw [Lib.indexByte] at h
    by_cases hc : c = 32
    · subst hc
      rw [if_pos (by simp)] at h
      obtain rfl : k = 0 := by omega
      exact ⟨rfl, by simp⟩
    · rw [if_neg (by simpa using hc)] at h
      split at h
      · omega
      · rename_i hn
        have hg := Lib.indexByte_ge l 32
        have hn' : ¬ Lib.indexByte l 32 = -1 := by simpa using hn
        obtain ⟨j, hj⟩ := Int.eq_ofNat_of_zero_le (show 0 ≤ Lib.indexByte l 32 by omega)
        obtain rfl : k = j + 1 := by omega
        obtain ⟨e1, e2⟩ := index_split hj
        refine ⟨?_, ?_⟩
        · rw [List.take_succ_cons, List.drop_succ_cons, List.cons_append, ← e1]
        · rw [List.take_succ_cons, List.mem_cons, not_or]
          exact ⟨fun e => hc e.symm, e2⟩
theorem index_not : ∀ {l : List UInt8}, Lib.indexByte l 32 = -1 → (32 : UInt8) ∉ l
  | [], _ => List.not_mem_nil
  | c :: l, h => by
    rw [Lib.indexByte] at h
    by_cases hc : c = 32
    · subst hc
      rw [if_pos (by simp)] at h
      omega
    · rw [if_neg (by simpa using hc)] at h
      split at h
      · rename_i hn
        rw [List.mem_cons, not_or]
        exact ⟨fun e => hc e.symm, index_not (by simpa using hn)⟩
      · have hg := Lib.indexByte_ge l 32
        omega

/-- the words of a list, without the empty ones -/
def wordsL (s : ByteArray) : List ByteArray :=
  if _h : 0 ≤ cutAt s 32 then (if (cutA s 32).size = 0 then [] else [cutA s 32]) ++ wordsL (cutB s 32) else (if s.size = 0 then [] else [s])
termination_by s.size
decreasing_by
  rw [cutB, if_pos _h, ByteArray.size_extract]
  have h1 := indexByte_lt s.data.toList 32
  rw [← Lib.size_eq] at h1
  have h2 : cutAt s 32 = Lib.indexByte s.data.toList 32 := rfl
  omega
theorem words_more {s : ByteArray} (h : 0 ≤ cutAt s 32) : wordsL s = (if (cutA s 32).size = 0 then [] else [cutA s 32]) ++ wordsL (cutB s 32) := by
  rw [wordsL, dif_pos h]
theorem words_last {s : ByteArray} (h : ¬ 0 ≤ cutAt s 32) : wordsL s = (if s.size = 0 then [] else [s]) := by
  rw [wordsL, dif_neg h]
theorem cutB_small {s : ByteArray} (h : 0 ≤ cutAt s 32) : (cutB s 32).size < s.size := by
  rw [cutB, if_pos h, ByteArray.size_extract]
  have h1 := indexByte_lt s.data.toList 32
  rw [← Lib.size_eq] at h1
  have h2 : cutAt s 32 = Lib.indexByte s.data.toList 32 := rfl
  omega
theorem cut_parts {s : ByteArray} (h : 0 ≤ cutAt s 32) : s.data.toList = (cutA s 32).data.toList ++ 32 :: (cutB s 32).data.toList ∧ (32 : UInt8) ∉ (cutA s 32).data.toList := by
  obtain ⟨k, hk⟩ := Int.eq_ofNat_of_zero_le h
  have h2 : Lib.indexByte s.data.toList 32 = k := hk
  obtain ⟨e1, e2⟩ := index_split h2
  have ea : (cutA s 32).data.toList = s.data.toList.take k := by
    rw [cutA, if_pos h, hk, Lib.extract_data, Int.toNat_natCast, List.drop_zero, Nat.sub_zero]
  have eb : (cutB s 32).data.toList = s.data.toList.drop (k + 1) := by
    rw [cutB, if_pos h, hk, Lib.extract_data, Int.toNat_natCast, List.take_of_length_le]
    rw [List.length_drop, wd_len]
    omega
  rw [ea, eb]
  exact ⟨e1, e2⟩
theorem cut_none {s : ByteArray} (h : ¬ 0 ≤ cutAt s 32) : (32 : UInt8) ∉ s.data.toList := by
  have hg := Lib.indexByte_ge s.data.toList 32
  have h2 : cutAt s 32 = Lib.indexByte s.data.toList 32 := rfl
  exact index_not (by omega)
theorem words_off (w : ByteArray) : ∀ (n : Nat) (s : ByteArray), s.size = n → (wordsL s).any (fun x => x.toList == w.toList) = offX s.data.toList w.data.toList := by
  intro n
  induction n using Nat.strongRecOn with
  | ind n ih =>
    intro s hs
    have one : ∀ x : ByteArray, (if x.size = 0 then [] else [x]).any (fun x => x.toList == w.toList) = (!(w.data.toList == []) && (x.data.toList == w.data.toList)) := fun x => by
      by_cases hx : x.size = 0
      · rw [if_pos hx, wd_empty hx, List.any_nil]
        cases hw : w.data.toList with
        | nil => rfl
        | cons a l => rfl
      · rw [if_neg hx, List.any_cons, List.any_nil, Bool.or_false, Lib.toList_data, Lib.toList_data]
        cases hw : w.data.toList with
        | nil =>
          have h2 : (x.data.toList == []) = false := beq_eq_false_iff_ne.2 (fun e => hx (by rw [← wd_len, e]; rfl))
          rw [h2]; rfl
        | cons a l => rfl
    by_cases h : 0 ≤ cutAt s 32
    · obtain ⟨e1, e2⟩ := cut_parts h
      rw [words_more h, List.any_append, one, ih _ (by rw [← hs]; exact cutB_small h) _ rfl]
      have e3 : offX s.data.toList w.data.toList = (!(w.data.toList == []) && ((cutA s 32).data.toList == w.data.toList) || offX (cutB s 32).data.toList w.data.toList) := by
        rw [e1, offX, offX, segs_two _ _ e2, List.any_cons]
        cases (!(w.data.toList == [])) <;> simp
      rw [e3]
    · have e1 := cut_none h
      rw [words_last h, one, offX, segs_one e1, List.any_cons, List.any_nil, Bool.or_false]
end Go.Proofs.YtkdiccedkjbpeaaGreatDoorR
