/-
  The document's own Cut of interchangeref02 answers a row of its own with a text's pieces, the same that text.Cut answers; nothing that was there is changed. Condition: a text of at most 1048576 bytes.
-/
import Derived.Test.YtnaplfekhjjknaaDoorWCut
import Derived.Lib.Hide
import Derived.WalkSpells
import Derived.WalkLawsBesides
import Derived.WalkSmall
namespace Go.Proofs.YtnaplfekhjjknaaDoor
open Go.RowKit

theorem cutL_more {n : Nat} {s : ByteArray} (hn : 0 < n) (h : n < s.size) : cutL n s = s.extract 0 n :: cutL n (s.extract n s.size) := by
  have := cutL_cons (s := s) (by omega) hn
  rwa [Nat.min_eq_left (by omega)] at this
theorem cutL_last {n : Nat} {s : ByteArray} (hn : 0 < n) (h0 : 0 < s.size) (h : s.size ≤ n) : cutL n s = [s] := by
  have e0 : s.extract 0 s.size = s := by apply ba_ext; rw [Lib.extract_data, List.drop_zero, List.take_of_length_le (by rw [ba_len]; omega)]
  have := cutL_cons h0 hn
  rwa [Nat.min_eq_right h, e0, cutL_nil n (s := s.extract s.size s.size) (by rw [ByteArray.size_extract]; omega)] at this
theorem row_below {w wr w1 : World} {o : Value} {e : TypeId} {n : Nat} {xs : List Value} {tmp : Obj} (hown : wr.ownsRow w.heap.size e 1 o n xs) (hb : Below w.heap.size w wr) (hgrow : (wr.alloc tmp).grownBy w1 o.ownBlock) : Below w.heap.size w w1 :=
  (hb.alloc hb.size _).grown hgrow (by have := hb.size; simp; omega) (fun k hk => by
    rcases hown.2 with ⟨rfl, _⟩ | ⟨g, cap, cur, rfl, hg, _⟩
    · simp [Value.ownBlock] at hk
    · simp [Value.ownBlock] at hk; omega)

set_option maxHeartbeats 1000000 in
theorem rcut_in (s : ByteArray) (m : Nat) (hm : 0 < m) (hs : s.size ≤ 1048576) (w : World) :
    Calls Tryd.prog 24 #[.string s, .int .i64 m] w fun e W' => ∃ v, e = .returned v ∧ W'.ownsRow w.heap.size 9 1 v (cutL m s).length ((cutL m s).map Value.string) ∧ Below w.heap.size w W' := by
  obtain ⟨i0, hi, hz0, hz1, hz2⟩ := info_parts infoStr
  have Hle := Lib.hid (cutL_le hm s)
  go_enter Tryd.func24, Tryd.ntmps24
  go_wp2
  go_loopw [0, 5] (fun p o wr => ∃ (pre : List ByteArray) (r : ByteArray), p = .string r ∧ r.size ≤ s.size ∧ Hid (cutL m s = pre ++ cutL m r) ∧ wr.ownsRow w.heap.size 9 1 o pre.length (pre.map Value.string) ∧ Below w.heap.size w wr) (fun p _ _ => strSize p)
  case atStart => exact ⟨[], s, rfl, Nat.le_refl _, Lib.hid rfl, World.ownsRow_nil _ _ _ _, Below.refl _ _⟩
  case round =>
    obtain ⟨pre, r, rfl, hle, HX, hown, hb⟩ := hrel
    by_cases hlt : m < r.size
    · have HC := Lib.hid (cutL_more (s := r) hm hlt)
      have hpl : pre.length + 1 ≤ 1048576 := by have h := Hle.out; rw [HX.out, HC.out] at h; simp at h; omega
      go_wp2_with (first
        | (at_builtin; refine wpList_append_own _ rfl _ _ 36 rfl w.heap.size 9 i0 (.string ⟨#[]⟩) 1 16 Tryd.underlying36 hi hz0 hz1 hz2 rfl (by decide) _ _ _ rfl (hown.alloc _) ⟨wr.heap.size, 0, none⟩ 1 1 [.string (r.extract 0 m)] rfl rfl (cell_one_new _ _ _) (by simp [Value.oneCell']) (by unfold maxLen; omega) (by omega) (by have := hb.size; simp; omega) ?_))
      intro o' w1 hown' hgrow _
      have hb1 := row_below hown hb hgrow
      have Hown : Hid (w1.ownsRow w.heap.size 9 1 o' (pre ++ [r.extract 0 m]).length ((pre ++ [r.extract 0 m]).map Value.string)) := Lib.hid (by simpa using hown')
      clear hown' hgrow hown hb
      go_wp2
      go_roundw
      case rel => exact ⟨pre ++ [r.extract 0 m], r.extract m r.size, rfl, by rw [ByteArray.size_extract]; omega, Lib.hid (by rw [HX.out, HC.out]; simp), Hown.out, hb1⟩
      case measure => simp only [strSize, ByteArray.size_extract]; omega
    · by_cases h0 : 0 < r.size
      · have HC := Lib.hid (cutL_last (s := r) hm h0 (by omega))
        have hpl : pre.length + 1 ≤ 1048576 := by have h := Hle.out; rw [HX.out, HC.out] at h; simp at h; omega
        go_wp2_with (first
          | (at_builtin; refine wpList_append_own _ rfl _ _ 36 rfl w.heap.size 9 i0 (.string ⟨#[]⟩) 1 16 Tryd.underlying36 hi hz0 hz1 hz2 rfl (by decide) _ _ _ rfl (hown.alloc _) ⟨wr.heap.size, 0, none⟩ 1 1 [.string r] rfl rfl (cell_one_new _ _ _) (by simp [Value.oneCell']) (by unfold maxLen; omega) (by omega) (by have := hb.size; simp; omega) ?_))
        intro o' w1 hown' hgrow _
        have hb1 := row_below hown hb hgrow
        have Hown : Hid (w1.ownsRow w.heap.size 9 1 o' (cutL m s).length ((cutL m s).map Value.string)) := Lib.hid (by rw [HX.out, HC.out]; simpa using hown')
        clear hown' hgrow hown hb HX
        go_wp2
        go_ret
        exact ⟨o', rfl, Hown.out, hb1⟩
      · have Hown : Hid (wr.ownsRow w.heap.size 9 1 u5 (cutL m s).length ((cutL m s).map Value.string)) := Lib.hid (by rw [HX.out, cutL_nil _ (by omega), List.append_nil]; exact hown)
        clear hown HX
        go_wp2
        go_ret
        exact ⟨u5, rfl, Hown.out, hb⟩

set_option maxHeartbeats 1000000 in
theorem rcut_one (s : ByteArray) (k : Int) (hk : k < 1) (hs : s.size ≤ 1048576) (w : World) :
    Calls Tryd.prog 24 #[.string s, .int .i64 k] w fun e W' => ∃ v, e = .returned v ∧ W'.ownsRow w.heap.size 9 1 v (cutL 1 s).length ((cutL 1 s).map Value.string) ∧ Below w.heap.size w W' := by
  obtain ⟨i0, hi, hz0, hz1, hz2⟩ := info_parts infoStr
  have Hle := Lib.hid (cutL_le (Nat.one_pos) s)
  go_enter Tryd.func24, Tryd.ntmps24
  go_wp2
  go_loopw [0, 5] (fun p o wr => ∃ (pre : List ByteArray) (r : ByteArray), p = .string r ∧ r.size ≤ s.size ∧ Hid (cutL 1 s = pre ++ cutL 1 r) ∧ wr.ownsRow w.heap.size 9 1 o pre.length (pre.map Value.string) ∧ Below w.heap.size w wr) (fun p _ _ => strSize p)
  case atStart => exact ⟨[], s, rfl, Nat.le_refl _, Lib.hid rfl, World.ownsRow_nil _ _ _ _, Below.refl _ _⟩
  case round =>
    obtain ⟨pre, r, rfl, hle, HX, hown, hb⟩ := hrel
    by_cases hlt : 1 < r.size
    · have HC := Lib.hid (cutL_more (s := r) (Nat.one_pos) hlt)
      have hpl : pre.length + 1 ≤ 1048576 := by have h := Hle.out; rw [HX.out, HC.out] at h; simp at h; omega
      go_wp2_with (first
        | (at_builtin; refine wpList_append_own _ rfl _ _ 36 rfl w.heap.size 9 i0 (.string ⟨#[]⟩) 1 16 Tryd.underlying36 hi hz0 hz1 hz2 rfl (by decide) _ _ _ rfl (hown.alloc _) ⟨wr.heap.size, 0, none⟩ 1 1 [.string (r.extract 0 1)] rfl rfl (cell_one_new _ _ _) (by simp [Value.oneCell']) (by unfold maxLen; omega) (by omega) (by have := hb.size; simp; omega) ?_))
      intro o' w1 hown' hgrow _
      have hb1 := row_below hown hb hgrow
      have Hown : Hid (w1.ownsRow w.heap.size 9 1 o' (pre ++ [r.extract 0 1]).length ((pre ++ [r.extract 0 1]).map Value.string)) := Lib.hid (by simpa using hown')
      clear hown' hgrow hown hb
      go_wp2
      go_roundw
      case rel => exact ⟨pre ++ [r.extract 0 1], r.extract 1 r.size, rfl, by rw [ByteArray.size_extract]; omega, Lib.hid (by rw [HX.out, HC.out]; simp), Hown.out, hb1⟩
      case measure => simp only [strSize, ByteArray.size_extract]; omega
    · by_cases h0 : 0 < r.size
      · have HC := Lib.hid (cutL_last (s := r) (Nat.one_pos) h0 (by omega))
        have hpl : pre.length + 1 ≤ 1048576 := by have h := Hle.out; rw [HX.out, HC.out] at h; simp at h; omega
        go_wp2_with (first
          | (at_builtin; refine wpList_append_own _ rfl _ _ 36 rfl w.heap.size 9 i0 (.string ⟨#[]⟩) 1 16 Tryd.underlying36 hi hz0 hz1 hz2 rfl (by decide) _ _ _ rfl (hown.alloc _) ⟨wr.heap.size, 0, none⟩ 1 1 [.string r] rfl rfl (cell_one_new _ _ _) (by simp [Value.oneCell']) (by unfold maxLen; omega) (by omega) (by have := hb.size; simp; omega) ?_))
        intro o' w1 hown' hgrow _
        have hb1 := row_below hown hb hgrow
        have Hown : Hid (w1.ownsRow w.heap.size 9 1 o' (cutL 1 s).length ((cutL 1 s).map Value.string)) := Lib.hid (by rw [HX.out, HC.out]; simpa using hown')
        clear hown' hgrow hown hb HX
        go_wp2
        go_ret
        exact ⟨o', rfl, Hown.out, hb1⟩
      · have Hown : Hid (wr.ownsRow w.heap.size 9 1 u5 (cutL 1 s).length ((cutL 1 s).map Value.string)) := Lib.hid (by rw [HX.out, cutL_nil _ (by omega), List.append_nil]; exact hown)
        clear hown HX
        go_wp2
        go_ret
        exact ⟨u5, rfl, Hown.out, hb⟩

theorem rcut_any (s : ByteArray) (k : Int) (hs : s.size ≤ 1048576) (w : World) :
    Calls Tryd.prog 24 #[.string s, .int .i64 k] w fun e W' => ∃ v, e = .returned v ∧ W'.ownsRow w.heap.size 9 1 v (cutL (pieceLen k) s).length ((cutL (pieceLen k) s).map Value.string) ∧ Below w.heap.size w W' := by
  rcases Int.lt_or_le k 1 with h | h
  · have e : pieceLen k = 1 := by unfold pieceLen; omega
    rw [e]
    exact rcut_one s k h hs w
  · have e : ((pieceLen k : Nat) : Int) = k := by unfold pieceLen; omega
    have h2 := rcut_in s (pieceLen k) (by omega) hs w
    rw [e] at h2
    exact h2
end Go.Proofs.YtnaplfekhjjknaaDoor
