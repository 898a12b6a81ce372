/-
  The document's own Right of a tune that may be; nothing that was there is changed. No condition.
-/
import Derived.Test.YtkdiccedkjbpeaaGreatDoorRWServe8
namespace Go.Proofs.YtkdiccedkjbpeaaGreatDoorR
open Go.RowKit

set_option maxRecDepth 100000 in
set_option maxHeartbeats 2000000 in
theorem rRight_ok (c f b : Int) (w : World) (hq : tRight c f b = true) : Calls Tryz.prog 13 #[.agg #[.int .i64 c, .int .i64 f, .int .i64 b]] w fun e w' => e = .returned (.bool true) ∧ Below w.heap.size w w' := by
  obtain ⟨W0, hW0⟩ : ∃ W0, W0 = w.alloc (.cells #[.int .i64 c, .int .i64 f, .int .i64 b] 23) := ⟨_, rfl⟩
  have hb0 : Below w.heap.size w W0 := by rw [hW0]; exact (Below.refl _ w).alloc (Nat.le_refl _) _
  have hx : Bx W0 w.heap.size 23 [.int .i64 c, .int .i64 f, .int .i64 b] := by rw [hW0]; exact Bx.new w _ _
  obtain ⟨⟨g1, g2⟩, ⟨g3, g4⟩, ⟨g5, g6⟩⟩ := (tRight_iff _ _ _).1 hq
  obtain ⟨x0, x1, x2⟩ := hx.three
  clear hq hx
  go_enter Tryz.func13, Tryz.ntmps13
  go_upto_region 1 with fail
  rw [← hW0]
  clear hW0
  go_wp2
  go_ret
  exact ⟨rfl, hb0⟩
end Go.Proofs.YtkdiccedkjbpeaaGreatDoorR
