/-
  What the library's strings.IndexByte, Index and Cut answer at a text of one byte, by walking them; nothing that was there is changed. No condition but that a text's length is an int.
-/
import Derived.Test.YtbdhppigmlfjhaaRows
import Derived.Handy
import Derived.WalkKit
import Derived.WalkSpells
import Derived.WalkLawsBesides
import Derived.Lib.Hide
import Derived.Lib.Bytealg
import Derived.Deep.QuietTactic
import Derived.BigQuiet
import Derived.WalkSmall
namespace Go.Proofs.Ytbdhppigmlfjhaa
open Go.RowKit

set_option maxRecDepth 100000 in
theorem sliteIndexByte_any (s : ByteArray) (c : Int) (w : World) :
    Calls Try.prog 26 #[.string s, .int .u8 c] w fun e w' => e = .returned (.int .i64 (Lib.indexByte s.data.toList c.toNat.toUInt8)) ∧ w = w' := by
  go_enter Try.func26, Try.ntmps26
  go_wp2
  rw [run_callFunc_extern Try.func30 (by kernel_rfl) (by kernel_rfl) (by kernel_rfl) (e := Extern.BytealgIndexByte.indexByte) (by kernel_rfl), Lib.run_indexByteString]
  simp only [Result.andThen]
  rw [Oper.upon_value]
  go_wp2
  go_ret
  exact ⟨rfl, rfl⟩
/-- a text that is the one byte has it at 0 -/
theorem indexByte_self (c : UInt8) : Lib.indexByte [c] c = 0 := by simp [Lib.indexByte]
set_option maxRecDepth 100000 in
theorem sliteIndex_any (s : ByteArray) (c : UInt8) (w : World) :
    Calls Try.prog 24 #[.string s, .string ⟨#[c]⟩] w fun e w' => e = .returned (.int .i64 (Lib.indexByte s.data.toList c)) ∧ w = w' := by
  by_cases hs : s = ⟨#[c]⟩
  · subst hs
    go_enter Try.func24, Try.ntmps24
    go_wp2
    go_ret
    exact ⟨by rw [indexByte_self]; rfl, rfl⟩
  · have t1 : ([c] == s.toList) = false := by
      rw [beq_eq_false_iff_ne]
      intro h
      rw [Lib.toList_data] at h
      exact hs (ByteArray.ext (Array.toList_inj.1 h.symm))
    go_enter Try.func24, Try.ntmps24
    go_wp2_with fail
    refine (sliteIndexByte_any s c.toNat w).mono ?_
    rintro e w1 ⟨rfl, rfl⟩
    go_wp2
    go_ret
    exact ⟨by simp, rfl⟩

theorem indexByte_lt (l : List UInt8) (c : UInt8) : Lib.indexByte l c < l.length := by
  induction l with
  | nil => simp [Lib.indexByte]
  | cons b l ih =>
    unfold Lib.indexByte
    rw [List.length_cons]
    split
    · omega
    · split <;> omega

/-- what strings.Cut answers at a text of one byte -/
def cutAt (s : ByteArray) (c : UInt8) : Int := Lib.indexByte s.data.toList c
def cutA (s : ByteArray) (c : UInt8) : ByteArray := if 0 ≤ cutAt s c then s.extract 0 (cutAt s c).toNat else s
def cutB (s : ByteArray) (c : UInt8) : ByteArray := if 0 ≤ cutAt s c then s.extract ((cutAt s c).toNat + 1) s.size else ⟨#[]⟩
set_option maxRecDepth 100000 in
theorem sliteCut_any (s : ByteArray) (c : UInt8) (w : World) (hs : s.size < 4611686018427387904) :
    Calls Try.prog 25 #[.string s, .string ⟨#[c]⟩] w fun e w' => e = .returned (.tuple #[.string (cutA s c), .string (cutB s c), .bool (decide (0 ≤ cutAt s c))]) ∧ Below w.heap.size w w' := by
  have hlt := indexByte_lt s.data.toList c
  rw [← Lib.size_eq] at hlt
  have hge := Lib.indexByte_ge s.data.toList c
  go_enter Try.func25, Try.ntmps25
  go_wp2_with fail
  refine (sliteIndex_any s c w).mono ?_
  rintro e w1 ⟨rfl, rfl⟩
  rcases Int.lt_or_le (Lib.indexByte s.data.toList c) 0 with h | h
  · have e1 : Lib.indexByte s.data.toList c = -1 := by omega
    rw [e1]
    have H := Lib.hid (show ¬ 0 ≤ cutAt s c by rw [cutAt]; omega)
    clear e1 h hge hlt
    go_wp2
    go_ret3
    refine ⟨?_, Below.refl _ _⟩
    have h := H.out
    have e1 : cutA s c = s := by rw [cutA, if_neg (by omega)]
    have e2 : cutB s c = ⟨#[]⟩ := by rw [cutB, if_neg (by omega)]
    have e3 : decide (0 ≤ cutAt s c) = false := by simpa using h
    rw [e1, e2, e3]
    rfl
  · obtain ⟨k, hk⟩ := Int.eq_ofNat_of_zero_le h
    have H := Lib.hid (show cutAt s c = k from hk)
    rw [hk] at hlt ⊢
    have hlt' : k < s.size := by omega
    clear h hge hk hlt
    go_wp2
    go_quiet (fail)
    go_wp2
    go_ret3
    refine ⟨?_, below_drewN (Below.refl _ _) _⟩
    simp [cutA, cutB, H.out]
set_option maxRecDepth 100000 in
theorem cut_any (s : ByteArray) (c : UInt8) (w : World) (hs : s.size < 4611686018427387904) :
    Calls Try.prog 23 #[.string s, .string ⟨#[c]⟩] w fun e w' => e = .returned (.tuple #[.string (cutA s c), .string (cutB s c), .bool (decide (0 ≤ cutAt s c))]) ∧ Below w.heap.size w w' := by
  go_enter Try.func23, Try.ntmps23
  go_wp2_with fail
  refine (sliteCut_any s c w hs).mono ?_
  rintro e w1 ⟨rfl, hb⟩
  go_wp2
  go_ret3
  exact ⟨rfl, hb⟩

end Go.Proofs.Ytbdhppigmlfjhaa
