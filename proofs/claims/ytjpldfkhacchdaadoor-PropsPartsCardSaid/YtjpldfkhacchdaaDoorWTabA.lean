/-
  Package table's leaves: enter, within, flat, front, kinds answer as the plain functions of PTab say. Condition: the package num's table of widths holds 1, 2, 4, 8; texts have fewer than 2^62 bytes.
-/
import Derived.Maps.OwnSet
import Derived.Maps.OwnIn
import Derived.Test.YtjpldfkhacchdaaDoorPTab
import Derived.Test.YtjpldfkhacchdaaDoorWText0
namespace Go.Proofs.YtjpldfkhacchdaaDoor
open Go.RowKit Go.Maps

def enOk (t : ByteArray) (room : Int) : Bool := ttOk 4 t && decide (1 ≤ room)
def enE (t : ByteArray) (room : Int) : Int := if ttOk 4 t = true then (if room < 1 then 5 else 0) else 2
def enA (t : ByteArray) (room : Int) : ByteArray := if enOk t room = true then ttA 4 t else ⟨#[]⟩
def enB (t : ByteArray) (room : Int) : ByteArray := if enOk t room = true then ttR 4 t else ⟨#[]⟩

theorem enter_any (s : ByteArray) (room : Int) (w : World) (hw : Wid w) (hs : s.size < 4611686018427387904) :
    Calls Tryd.prog 81 #[.string s, .int .i64 room] w fun e w' => e = .returned (.tuple #[.string (enA s room), .string (enB s room), .int .i64 (enE s room)]) ∧ Below w.heap.size w w' := by
  go_enter Tryd.func81, Tryd.ntmps81
  go_wp2_with fail
  refine (takeLong_any s w hw hs).mono ?_
  rintro e w1 ⟨rfl, hb⟩
  cases h : ttOk 4 s
  · obtain ⟨t1, -⟩ := ttE_not h
    have H := Lib.hid (show enA s room = ⟨#[]⟩ ∧ enB s room = ⟨#[]⟩ ∧ enE s room = ttE 4 s by
      rw [ttE_four h]; simp [enA, enB, enE, enOk, h])
    clear h
    generalize ttA 4 s = a
    generalize ttR 4 s = b
    generalize ttE 4 s = x at t1 H ⊢
    go_wp2
    go_ret3
    refine ⟨?_, hb⟩
    rw [H.out.1, H.out.2.1, H.out.2.2]
    rfl
  · rw [ttE_of h]
    by_cases hr : room < 1
    · have H := Lib.hid (show enA s room = ⟨#[]⟩ ∧ enB s room = ⟨#[]⟩ ∧ enE s room = 5 by
        have : ¬ 1 ≤ room := by omega
        simp [enA, enB, enE, enOk, h, hr, this])
      clear h
      generalize ttA 4 s = a
      generalize ttR 4 s = b
      go_wp2
      go_ret3
      refine ⟨?_, hb⟩
      rw [H.out.1, H.out.2.1, H.out.2.2]
      rfl
    · have H := Lib.hid (show enA s room = ttA 4 s ∧ enB s room = ttR 4 s ∧ enE s room = 0 by
        have : 1 ≤ room := by omega
        simp [enA, enB, enE, enOk, h, hr, this])
      clear h
      generalize ttA 4 s = a at H ⊢
      generalize ttR 4 s = b at H ⊢
      go_wp2
      go_ret3
      refine ⟨?_, hb⟩
      rw [H.out.1, H.out.2.1, H.out.2.2]
      rfl

theorem wErr_any (x : Int) (w : World) :
    Calls Tryd.prog 82 #[.int .i64 x] w fun e w' => e = .returned (.int .i64 (wErr x)) ∧ w = w' := by
  by_cases h : x = 2
  · subst h
    go_enter Tryd.func82, Tryd.ntmps82
    go_wp2
    go_ret
    exact ⟨rfl, rfl⟩
  · have H := Lib.hid (show wErr x = x by simp [wErr, h])
    have t1 : (x == 2) = false := by simpa using h
    go_enter Tryd.func82, Tryd.ntmps82
    go_wp2
    go_ret
    exact ⟨by rw [H.out]; rfl, rfl⟩

theorem front_any (s r : ByteArray) (w : World) (h : r.size ≤ s.size) (hs : s.size < 4611686018427387904) :
    Calls Tryd.prog 87 #[.string s, .string r] w fun e w' => e = .returned (.string (front s r)) ∧ w = w' := by
  have H := Lib.hid (show front s r = s.extract 0 (s.size - r.size) from rfl)
  go_enter Tryd.func87, Tryd.ntmps87
  go_wp2
  go_ret
  exact ⟨by rw [H.out]; rfl, rfl⟩

theorem flat_any (s : ByteArray) (n : Int) (w : World) (hw : Wid w) (hs : s.size < 4611686018427387904) (hn : n = -1 ∨ 0 ≤ n ∧ n ≤ 8) :
    Calls Tryd.prog 86 #[.string s, .int .i64 n] w fun e w' => e = .returned (.tuple #[.int .i64 (flat s n).deep, .string (flat s n).rest, .int .i64 (flat s n).err]) ∧ Below w.heap.size w w' := by
  rcases hn with rfl | ⟨h0, h8⟩
  · have H := Lib.hid (show flat s (-1) = ⟨0, ttR 4 s, ttE 4 s⟩ from rfl)
    go_enter Tryd.func86, Tryd.ntmps86
    go_wp2_with fail
    refine (takeLong_any s w hw hs).mono ?_
    rintro e w1 ⟨rfl, hb⟩
    generalize ttA 4 s = a
    generalize ttR 4 s = b at H ⊢
    generalize ttE 4 s = x at H ⊢
    go_wp2
    go_ret3
    exact ⟨by rw [H.out]; rfl, hb⟩
  · have hne : ¬ n = -1 := by omega
    have H := Lib.hid (show flat s n = ⟨0, skipB s n, skipE s n⟩ by simp [flat, hne])
    have t1 : (n == -1) = false := by simpa using hne
    go_enter Tryd.func86, Tryd.ntmps86
    go_wp2_with fail
    refine (skip_any s _ w h0 (by unfold maxLen; omega)).mono ?_
    rintro e w1 ⟨rfl, hb⟩
    generalize skipA s n = a
    generalize skipB s n = b at H ⊢
    generalize skipE s n = x at H ⊢
    go_wp2
    go_ret3
    exact ⟨by rw [H.out]; rfl, hb⟩
end Go.Proofs.YtjpldfkhacchdaaDoor
