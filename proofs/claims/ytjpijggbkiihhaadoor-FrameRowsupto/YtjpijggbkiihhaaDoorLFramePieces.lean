/-
  interchangelaw04.FramePieces answers true; nothing that was there is changed. Conditions: the tables of widths and kinds are as their texts lay them; a text of at most 1048576 bytes.
-/
import Derived.Test.YtjpijggbkiihhaaDoorWFShown
import Derived.Test.YtjpijggbkiihhaaDoorRFRows
import Derived.Test.YtjpijggbkiihhaaDoorMApp3
namespace Go.Proofs.YtjpijggbkiihhaaDoor
open Go.RowKit

theorem rowFr_append (a b : List Fr) : rowFr (a ++ b) = rowFr a ++ rowFr b := by simp [rowFr]
theorem rowFr_one (l : List Fr) : ∀ u ∈ rowFr l, u.oneCell' = true := by
  intro u hu
  simp only [rowFr, List.mem_flatMap, cellsFr] at hu
  obtain ⟨f, -, hf⟩ := hu
  simp at hf
  rcases hf with rfl | rfl | rfl <;> rfl
theorem below_own {W W' : World} {e : TypeId} {size : Nat} {v : Value} {n : Nat} {xs : List Value} {w : World} (hrow : W.ownsRow w.heap.size e size v n xs) (hb : Below w.heap.size w W) (hg : W.grownBy W' v.ownBlock) : Below w.heap.size w W' :=
  hb.grown hg hb.size (fun j ej => by
    rcases hrow.2 with ⟨rfl, _⟩ | ⟨g, cap, cur, rfl, hbg, _, _⟩
    · simp [Value.ownBlock] at ej
    · obtain rfl : g = j := by simpa [Value.ownBlock] using ej
      exact hbg)
theorem ba_halves (s : ByteArray) (k : Nat) : s.extract 0 k ++ s.extract k s.size = s := by
  apply ba_ext
  rw [ba_append, ByteArray.data_extract, ByteArray.data_extract]
  simp [Array.toList_extract]
  rw [List.take_of_length_le (i := s.size - k) (by rw [List.length_drop, ba_len]; omega), List.take_append_drop]
theorem sp_parts {s : ByteArray} {m : Int} (h : (frs s m).2.2 = 2) : spR s m = (frs s m).2.1 ∧ spE s m = 0 := ⟨by rw [spR, if_pos h], by rw [spE, if_pos h]⟩
theorem sp_wrong {s : ByteArray} {m : Int} (h : (frs s m).2.2 = 6) : spR s m = ⟨#[]⟩ ∧ spE s m = 6 := ⟨by rw [spR, h, if_neg (by decide)], by rw [spE, h, if_neg (by decide)]⟩
theorem sp_same {s t : ByteArray} {m : Int} (h : (frs s m).2 = (frs t m).2) : spR s m = spR t m ∧ spE s m = spE t m := by
  unfold spR spE
  rw [h]
  exact ⟨rfl, rfl⟩

set_option maxRecDepth 100000 in
set_option maxHeartbeats 2000000 in
theorem framePieces_walk (s : ByteArray) (cut m : Int) (w : World) (hw : Wid w) (hk : Kin w) (hs : s.size ≤ 1048576) :
    Calls Tryd.prog 5 #[.string s, .int .i64 cut, .int .i64 m] w fun e w' => e = .returned (.bool true) ∧ Below w.heap.size w w' := by
  obtain ⟨i0, hi, hz0, hz1, hz2⟩ := info_parts3 infoFrame
  go_enter Tryd.func5, Tryd.ntmps5
  go_wp2_with fail
  refine (frShown_any w hw hk).mono ?_
  rintro e w1 ⟨rfl, hb1⟩
  by_cases c0 : cut < 0
  · go_wp2
    go_ret
    exact ⟨rfl, hb1⟩
  by_cases c1 : (s.size : Int) < cut
  · go_wp2
    go_ret
    exact ⟨rfl, hb1⟩
  obtain ⟨k, rfl⟩ := Int.eq_ofNat_of_zero_le (show 0 ≤ cut by omega)
  have hks : k ≤ s.size := by omega
  have hsz1 : (s.extract 0 k).size ≤ 1048576 := by rw [ByteArray.size_extract]; omega
  have hsz2 : (s.extract k s.size).size ≤ 1048576 := by rw [ByteArray.size_extract]; omega
  have P := frs_pieces m (s.extract k s.size) _ (s.extract 0 k) (Nat.le_refl _)
  rw [ba_halves s k] at P
  obtain ⟨F1, F2⟩ := frs_facts m _ (s.extract 0 k) (Nat.le_refl _)
  obtain ⟨G1, -⟩ := frs_facts m _ s (Nat.le_refl _)
  have HP := Lib.hid P
  clear P
  go_wp2_with fail
  refine (split_any (s.extract 0 k) m w1 (hw.below hb1) (hk.below hb1) (by omega)).mono ?_
  rintro e w2 ⟨v1, rfl, row1, hb⟩
  have hb2 := hb1.trans (hb.mono hb1.size)
  clear hb1 hb
  obtain ⟨A1, q1, rfl, va1, no1, -⟩ := vals_of_row3 row1
  clear row1
  go_wp2_with fail
  refine (split_any s m w2 (hw.below hb2) (hk.below hb2) (by omega)).mono ?_
  rintro e w3 ⟨v2, rfl, row2, hb⟩
  have va1 := va1.below hb
  have hb3 := hb2.trans (hb.mono hb2.size)
  clear hb2 hb
  obtain ⟨A2, q2, rfl, va2, no2, -⟩ := vals_of_row3 row2
  clear row2
  rcases F2 with f2 | f2
  case inr =>
    obtain ⟨e1, e2⟩ := sp_wrong f2
    have e3 := HP.out.1 f2
    have e4 : (frs s m).2.2 = 6 := by rw [e3]
    obtain ⟨e5, e6⟩ := sp_wrong e4
    have e7 : (frs s m).1 = (frs (s.extract 0 k) m).1 := by rw [e3]
    rw [e1, e2, e5, e6]
    rw [e7]
    clear e1 e2 e3 e4 e5 e6 e7 HP f2 va1 va2 no1 no2
    generalize (frs (s.extract 0 k) m).1.length = n1 at F1 ⊢
    go_wp2
    go_ret
    exact ⟨rfl, hb3⟩
  obtain ⟨e1, e2⟩ := sp_parts f2
  have e3 := HP.out.2 f2
  rw [e1, e2]
  obtain ⟨a, ha⟩ : ∃ a, (frs (s.extract 0 k) m).1 = a := ⟨_, rfl⟩
  obtain ⟨r, hr⟩ : ∃ r, (frs (s.extract 0 k) m).2.1 = r := ⟨_, rfl⟩
  rw [ha] at e3 va1 F1 no1 ⊢
  rw [hr] at e3 F1 ⊢
  clear e1 e2 HP f2 ha hr
  obtain ⟨e5, e6⟩ := sp_same (s := s) (t := r ++ s.extract k s.size) (m := m) (by rw [e3])
  rw [e5, e6]
  have e7 : (frs s m).1 = a ++ (frs (r ++ s.extract k s.size) m).1 := by rw [e3]
  rw [e7] at va2 no2 ⊢
  have hx : (r ++ s.extract k s.size).size ≤ 2097152 := by rw [ByteArray.size_append]; omega
  have SP := split_any (r ++ s.extract k s.size) m w3 (hw.below hb3) (hk.below hb3) (by omega)
  obtain ⟨K1, -⟩ := frs_facts m _ (r ++ s.extract k s.size) (Nat.le_refl _)
  have zz : r.size + (s.extract k s.size).size ≤ 9223372036854775807 := by omega
  clear e3 e5 e6 e7 G1
  generalize hb' : (frs (r ++ s.extract k s.size) m).1 = b at *
  clear hb'
  generalize spR (r ++ s.extract k s.size) m = tr at *
  generalize spE (r ++ s.extract k s.size) m = te at *
  have hal : a.length ≤ 1048576 := by omega
  have hbl : b.length ≤ 2097152 := by omega
  clear K1 F1 hsz1 hsz2
  go_wp2_with fail
  refine SP.mono ?_
  rintro e w4 ⟨v3, rfl, row3, hb⟩
  have va1 := va1.below hb
  have va2 := va2.below hb
  have hb4 := hb3.trans (hb.mono hb3.size)
  clear hb3 hb SP
  obtain ⟨A3, q3, rfl, va3, no3, -⟩ := vals_of_row3 row3
  clear row3
  have hrow0 := World.ownsRow_made (e := 23) (size := 3) (base := w4.heap.size) w4 #[] 0 (Nat.le_refl _) (by decide) rfl
  have bA : Below w4.heap.size w4 (w4.alloc (.cells #[] 23)) := (Below.refl _ _).alloc (Nat.le_refl _) _
  have va1 := va1.below bA
  have tok1 : True := trivial
  have tok2 : True := trivial
  have HNo1 := Lib.hid no1
  have HNo3 := Lib.hid no3
  clear no1 no2 no3
  go_wp2_with (at_builtin; have _t := tok1; refine wpList_append_row rfl _ _ 34 rfl w4.heap.size 23 i0 (.agg #[.int .i64 0, .int .i64 0, .string ⟨#[]⟩]) 3 32 Tryd.underlying34 hi hz0 hz1 hz2 rfl ?s0 (.slice (some ⟨w4.heap.size, 0, none⟩) 0 0) 0 [] rfl hrow0 A1 a.length q1 (rowFr a) rfl ?s1 va1 HNo1.out (rowFr_one a) ?s4 ?s5 ?s6 ?s7)
  case s0 => decide
  case s1 => exact rowFr_length a
  case s4 => unfold maxLen; omega
  case s5 => omega
  case s6 => simp
  case s7 =>
    intro v5 w5 row5 hg5
    clear tok1
    have bB := below_own hrow0 bA hg5
    have va3 := va3.below bB
    have bbs := bB.size
    go_wp2_with (at_builtin; have _t := tok2; refine wpList_append_row rfl _ _ 34 rfl w4.heap.size 23 i0 (.agg #[.int .i64 0, .int .i64 0, .string ⟨#[]⟩]) 3 32 Tryd.underlying34 hi hz0 hz1 hz2 rfl ?s0 v5 _ _ rfl row5 A3 b.length q3 (rowFr b) rfl ?s1 va3 HNo3.out (rowFr_one b) ?s4 ?s5 bbs ?s7)
    case s0 => decide
    case s1 => exact rowFr_length b
    case s4 => unfold maxLen; omega
    case s5 => omega
    case s7 =>
      intro v6 w6 row6 hg6
      clear tok2
      have bC := below_own row5 bB hg6
      clear row5 bB hg6 va3 bbs hrow0 bA hg5 va1
      have va2 := va2.below bC
      have hb5 := hb4.trans (bC.mono hb4.size)
      clear bC hb4
      rw [← rowFr_append] at row6
      obtain ⟨A6, q6, rfl, va6, -, -⟩ := vals_of_row3 row6
      clear row6
      have SM := same_any A6 A2 q6 q2 (a ++ b) w6 va6 va2 (by rw [List.length_append]; omega)
      rw [List.length_append] at SM
      go_wp2_with fail
      refine SM.mono ?_
      rintro e w7 ⟨rfl, hb⟩
      have hb6 := hb5.trans (hb.mono hb5.size)
      clear SM va6 va2 hb
      go_wp2
      go_ret
      exact ⟨rfl, hb6⟩
end Go.Proofs.YtjpijggbkiihhaaDoor
