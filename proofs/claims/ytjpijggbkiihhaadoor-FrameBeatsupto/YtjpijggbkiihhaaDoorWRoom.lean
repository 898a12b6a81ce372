/-
  frame.room answers how many bytes of data a frame may have; the world is as it was. No condition.
-/
import Derived.Test.YtjpijggbkiihhaaDoorWKind
namespace Go.Proofs.YtjpijggbkiihhaaDoor
open Go.RowKit

theorem room_any (m : Int) (w : World) :
    Calls Tryd.prog 27 #[.int .i64 m] w fun e w' => e = .returned (.int .u64 (roomOf m)) ∧ w = w' := by
  by_cases h1 : m < 4096
  · have H := Lib.hid (show roomOf m = 4088 by unfold roomOf; omega)
    go_enter Tryd.func27, Tryd.ntmps27
    go_wp2
    go_ret
    exact ⟨by rw [H.out]; rfl, rfl⟩
  by_cases h2 : 131072 < m
  · have H := Lib.hid (show roomOf m = 131064 by unfold roomOf; omega)
    go_enter Tryd.func27, Tryd.ntmps27
    go_wp2
    go_ret
    exact ⟨by rw [H.out]; rfl, rfl⟩
  · have H := Lib.hid (show roomOf m = m - 8 by unfold roomOf; omega)
    go_enter Tryd.func27, Tryd.ntmps27
    go_wp2
    go_ret
    exact ⟨by rw [H.out]; rfl, rfl⟩
end Go.Proofs.YtjpijggbkiihhaaDoor
