/-
  TextCuts: pieces together are the whole, each as long as was asked for, but the last one: the walk of the law. Conditions: the package num's table of widths holds 1, 2, 4, 8; a text of at most 1048576 bytes.
-/
import Derived.Test.YtnaplfekhjjknaaDoorWTextShown
import Derived.Test.YtnaplfekhjjknaaDoorRCut
import Derived.Test.YtnaplfekhjjknaaDoorMStr
namespace Go.Proofs.YtnaplfekhjjknaaDoor
open Go.RowKit

/-- texts, one behind the other -/
def joinL : List ByteArray → ByteArray
  | [] => ⟨#[]⟩
  | x :: l => x ++ joinL l
theorem joinL_snoc (l : List ByteArray) (x : ByteArray) : joinL (l ++ [x]) = joinL l ++ x := by
  induction l with
  | nil => apply ba_ext; simp [joinL]
  | cons y l ih => rw [List.cons_append, joinL, joinL, ih, ByteArray.append_assoc]
/-- the pieces' facts: together they are the whole; each but the last one has n bytes, the last one from 1 to n -/
theorem cutL_facts {n : Nat} (hn : 0 < n) : ∀ (k : Nat) (s : ByteArray), s.size = k → joinL (cutL n s) = s ∧
    ∀ i (h : i < (cutL n s).length), 0 < ((cutL n s)[i]'h).size ∧ ((cutL n s)[i]'h).size ≤ n ∧ (i + 1 < (cutL n s).length → ((cutL n s)[i]'h).size = n) := by
  intro k
  induction k using Nat.strongRecOn with
  | ind k ih =>
    intro s hs
    rcases Nat.eq_zero_or_pos s.size with h | h
    · have e : cutL n s = [] := cutL_nil n h
      rw [e]
      refine ⟨?_, fun i hi => absurd hi (by simp)⟩
      apply ba_ext
      have : s.data.toList = [] := List.eq_nil_of_length_eq_zero (by rw [ba_len]; exact h)
      rw [this]; rfl
    · rcases Nat.lt_or_ge n s.size with h2 | h2
      · have e := cutL_more hn h2
        have hz : (s.extract n s.size).size = s.size - n := by rw [ByteArray.size_extract]; omega
        obtain ⟨j1, j2⟩ := ih (s.size - n) (by omega) (s.extract n s.size) hz
        rw [e]
        refine ⟨?_, fun i hi => ?_⟩
        · rw [joinL, j1]
          apply ba_ext
          rw [ba_append, Lib.extract_data, Lib.extract_data]
          simp only [List.drop_zero, Nat.sub_zero]
          rw [List.take_of_length_le (l := List.drop n s.data.toList) (by rw [List.length_drop, ba_len]; omega)]
          exact List.take_append_drop _ _
        · cases i with
          | zero =>
            simp only [List.getElem_cons_zero, ByteArray.size_extract]
            refine ⟨by omega, by omega, fun _ => by omega⟩
          | succ i =>
            have hi' : i < (cutL n (s.extract n s.size)).length := by simpa using hi
            have := j2 i hi'
            simp only [List.getElem_cons_succ, List.length_cons]
            exact ⟨this.1, this.2.1, fun h => this.2.2 (by omega)⟩
      · have e := cutL_last hn h h2
        rw [e]
        refine ⟨by apply ba_ext; simp [joinL], fun i hi => ?_⟩
        obtain rfl : i = 0 := by simpa using hi
        simp only [List.getElem_cons_zero, List.length_cons, List.length_nil]
        exact ⟨h, h2, fun h => absurd h (by omega)⟩
theorem joinL_take_le (l : List ByteArray) (k : Nat) : (joinL (l.take k)).size ≤ (joinL l).size := by
  induction l generalizing k with
  | nil => simp
  | cons x l ih =>
    cases k with
    | zero => simp only [List.take_zero, joinL]; exact Nat.zero_le _
    | succ k => rw [List.take_succ_cons, joinL, joinL, ByteArray.size_append, ByteArray.size_append]; have := ih k; omega
theorem joinL_next (l : List ByteArray) (k : Nat) (h : k < l.length) : joinL (l.take (k + 1)) = joinL (l.take k) ++ l[k] := by
  rw [List.take_succ_eq_append_getElem h, joinL_snoc]

set_option maxHeartbeats 1000000 in
theorem textCuts_in (s : ByteArray) (m : Nat) (hm : 0 < m) (w : World) (hw : Wid w) (hs : s.size ≤ 1048576) :
    Calls Tryd.prog 6 #[.string s, .int .i64 m] w fun e w' => e = .returned (.bool true) ∧ Below w.heap.size w w' := by
  obtain ⟨f1, f2⟩ := cutL_facts (n := m) hm s.size s rfl
  have hlen := cutL_le (n := m) hm s
  have hpl : pieceLen m = m := by unfold pieceLen; omega
  go_enter Tryd.func6, Tryd.ntmps6
  go_wp2_with fail
  refine (tshown_any w hw).mono ?_
  rintro e w1 ⟨rfl, hb1⟩
  clear hw
  go_wp2_with fail
  refine (tcut_any s m hs w1).mono ?_
  rintro e w2 ⟨v, rfl, hown, hb2⟩
  rw [hpl] at hown
  obtain ⟨A, ca, rfl, hA⟩ := vals_of_row hown
  have hb2 := hb1.trans (hb2.mono hb1.size)
  have hjl : ∀ k, (joinL ((cutL m s).take k)).size ≤ 1048576 := fun k => by have := joinL_take_le (cutL m s) k; rw [f1] at this; omega
  clear hb1 hown hpl
  generalize cutL m s = l at hlen hA f1 f2 hjl ⊢
  have F1 := Lib.hid f1
  have F2 := Lib.hid f2
  have HJ := Lib.hid hjl
  clear f1 f2 hjl
  go_wp2
  go_loop [7, 8] (fun a v => ∃ k : Nat, k ≤ l.length ∧ v = .int .i64 k ∧ a = .string (joinL (l.take k))) (fun _ v => l.length - (intOf v).toNat)
  case atStart => exact ⟨0, Nat.zero_le _, rfl, rfl⟩
  case round =>
    obtain ⟨k, hk, rfl, rfl⟩ := hrel
    by_cases hlt : k < l.length
    · obtain ⟨b, off, rfl, hbl, hc⟩ := hA (by simp; omega)
      have h1 := hc k (by simpa using hlt)
      rw [List.getElem_map] at h1
      obtain ⟨g1, g2, g3⟩ := F2.out k hlt
      have HN := Lib.hid (joinL_next l k hlt)
      have z1 := HJ.out k
      clear hc hA
      generalize l[k] = x at *
      generalize joinL (l.take k) = a at *
      have zz : a.size + x.size ≤ 9223372036854775807 := by have := HJ.out (k + 1); rw [HN.out, ByteArray.size_append] at this; omega
      have d0 : ((x.size : Int) == 0) = false := by rw [beq_eq_false_iff_ne]; omega
      by_cases hl : k + 1 < l.length
      · have d1 : ((x.size : Int) != (m : Int)) = false := by have := g3 hl; simp; omega
        clear g3
        go_wp2
        go_round
        case rel => exact ⟨k + 1, by omega, by go_num, by rw [HN.out]⟩
        case measure => simp [intOf]; omega
      · clear g3
        go_wp2
        go_round
        case rel => exact ⟨k + 1, by omega, by go_num, by rw [HN.out]⟩
        case measure => simp [intOf]; omega
    · obtain rfl : k = l.length := by omega
      have e : joinL (l.take l.length) = s := by rw [List.take_length]; exact F1.out
      rw [e]
      clear e
      go_wp2
      go_ret
      exact ⟨rfl, hb2⟩

set_option maxHeartbeats 1000000 in
theorem textCuts_one (s : ByteArray) (n : Int) (hk1 : n < 1) (w : World) (hw : Wid w) (hs : s.size ≤ 1048576) :
    Calls Tryd.prog 6 #[.string s, .int .i64 n] w fun e w' => e = .returned (.bool true) ∧ Below w.heap.size w w' := by
  obtain ⟨f1, f2⟩ := cutL_facts (n := 1) (Nat.one_pos) s.size s rfl
  have hlen := cutL_le (n := 1) (Nat.one_pos) s
  have hpl : pieceLen n = 1 := by unfold pieceLen; omega
  go_enter Tryd.func6, Tryd.ntmps6
  go_wp2_with fail
  refine (tshown_any w hw).mono ?_
  rintro e w1 ⟨rfl, hb1⟩
  clear hw
  go_wp2_with fail
  refine (tcut_any s n hs w1).mono ?_
  rintro e w2 ⟨v, rfl, hown, hb2⟩
  rw [hpl] at hown
  obtain ⟨A, ca, rfl, hA⟩ := vals_of_row hown
  have hb2 := hb1.trans (hb2.mono hb1.size)
  have hjl : ∀ k, (joinL ((cutL 1 s).take k)).size ≤ 1048576 := fun k => by have := joinL_take_le (cutL 1 s) k; rw [f1] at this; omega
  clear hb1 hown hpl
  generalize cutL 1 s = l at hlen hA f1 f2 hjl ⊢
  have F1 := Lib.hid f1
  have F2 := Lib.hid f2
  have HJ := Lib.hid hjl
  clear f1 f2 hjl
  go_wp2
  go_loop [7, 8] (fun a v => ∃ k : Nat, k ≤ l.length ∧ v = .int .i64 k ∧ a = .string (joinL (l.take k))) (fun _ v => l.length - (intOf v).toNat)
  case atStart => exact ⟨0, Nat.zero_le _, rfl, rfl⟩
  case round =>
    obtain ⟨k, hk, rfl, rfl⟩ := hrel
    by_cases hlt : k < l.length
    · obtain ⟨b, off, rfl, hbl, hc⟩ := hA (by simp; omega)
      have h1 := hc k (by simpa using hlt)
      rw [List.getElem_map] at h1
      obtain ⟨g1, g2, g3⟩ := F2.out k hlt
      have HN := Lib.hid (joinL_next l k hlt)
      have z1 := HJ.out k
      clear hc hA
      generalize l[k] = x at *
      generalize joinL (l.take k) = a at *
      have zz : a.size + x.size ≤ 9223372036854775807 := by have := HJ.out (k + 1); rw [HN.out, ByteArray.size_append] at this; omega
      have d0 : ((x.size : Int) == 0) = false := by rw [beq_eq_false_iff_ne]; omega
      by_cases hl : k + 1 < l.length
      · have d1 : ((x.size : Int) != (1 : Int)) = false := by have := g3 hl; simp; omega
        clear g3
        go_wp2
        go_round
        case rel => exact ⟨k + 1, by omega, by go_num, by rw [HN.out]⟩
        case measure => simp [intOf]; omega
      · clear g3
        go_wp2
        go_round
        case rel => exact ⟨k + 1, by omega, by go_num, by rw [HN.out]⟩
        case measure => simp [intOf]; omega
    · obtain rfl : k = l.length := by omega
      have e : joinL (l.take l.length) = s := by rw [List.take_length]; exact F1.out
      rw [e]
      clear e
      go_wp2
      go_ret
      exact ⟨rfl, hb2⟩

theorem textCuts_any (s : ByteArray) (n : Int) (w : World) (hw : Wid w) (hs : s.size ≤ 1048576) :
    Calls Tryd.prog 6 #[.string s, .int .i64 n] w fun e w' => e = .returned (.bool true) ∧ Below w.heap.size w w' := by
  rcases Int.lt_or_le n 1 with h | h
  · exact textCuts_one s n h w hw hs
  · have e : ((pieceLen n : Nat) : Int) = n := by unfold pieceLen; omega
    have h2 := textCuts_in s (pieceLen n) (by omega) w hw hs
    rw [e] at h2
    exact h2
end Go.Proofs.YtnaplfekhjjknaaDoor
