/-
  num.Skip answers so many bytes and the rest, or that bytes are missing; nothing that was there is changed. No condition but that a text's length is an int.
-/
import Derived.Test.YtjpldfkhacchdaaDoorWTake
namespace Go.Proofs.YtjpldfkhacchdaaDoor
open Go.RowKit

/-- what Skip answers -/
def skipOk (s : ByteArray) (n : Int) : Bool := decide (n ≤ s.size)
def skipE (s : ByteArray) (n : Int) : Int := if skipOk s n = true then 0 else 2
def skipA (s : ByteArray) (n : Int) : ByteArray := if skipOk s n = true then s.extract 0 n.toNat else ⟨#[]⟩
def skipB (s : ByteArray) (n : Int) : ByteArray := if skipOk s n = true then s.extract n.toNat s.size else ⟨#[]⟩

theorem skip_any (s : ByteArray) (n : Int) (w : World) (h0 : 0 ≤ n) (hs : s.size ≤ maxLen) :
    Calls Tryd.prog 88 #[.string s, .int .u64 n] w fun e w' => e = .returned (.tuple #[.string (skipA s n), .string (skipB s n), .int .i64 (skipE s n)]) ∧ Below w.heap.size w w' := by
  unfold maxLen at hs
  obtain ⟨k, rfl⟩ := Int.eq_ofNat_of_zero_le h0
  by_cases hk : k ≤ s.size
  · have Hok := Lib.hid (show skipOk s k = true by simp [skipOk]; omega)
    go_enter Tryd.func88, Tryd.ntmps88
    go_wp2
    go_quiet (fail)
    go_wp2
    go_ret3
    refine ⟨?_, below_drewN (Below.refl _ _) _⟩
    simp [skipA, skipB, skipE, Hok.out]
  · have Hok := Lib.hid (show skipOk s k = false by simp [skipOk]; omega)
    go_enter Tryd.func88, Tryd.ntmps88
    go_wp2
    go_ret3
    exact ⟨by simp [skipA, skipB, skipE, Hok.out], Below.refl _ _⟩

end Go.Proofs.YtjpldfkhacchdaaDoor
