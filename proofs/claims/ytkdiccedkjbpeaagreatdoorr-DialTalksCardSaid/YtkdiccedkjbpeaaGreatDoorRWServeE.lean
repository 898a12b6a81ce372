/-
  serve.Empty answers the empty table. No condition.
-/
import Derived.Test.YtkdiccedkjbpeaaGreatDoorRWServe0
namespace Go.Proofs.YtkdiccedkjbpeaaGreatDoorR
open Go.RowKit

theorem dEmpty_any (w : World) : Calls Tryz.prog 57 #[] w fun e w' => e = .returned (.string ⟨#[0, 0, 0, 0]⟩) ∧ w = w' := by
  go_enter Tryz.func57, Tryz.ntmps57
  go_wp2
  go_ret
  exact ⟨rfl, rfl⟩
end Go.Proofs.YtkdiccedkjbpeaaGreatDoorR
