/-
  content.Idle tells whether nothing is begun; nothing that was there is changed. No condition.
-/
import Derived.Test.YtllgkohgcicbhaaGreatDoorWFeedW
namespace Go.Proofs.YtllgkohgcicbhaaGreatDoor
open Go.RowKit

set_option maxHeartbeats 1000000 in
theorem idle_any (a : As) (A B : Option Addr) (ca cb : Nat) (w : World) :
 Calls Tryz.prog 18 #[encAs a A B ca cb] w fun e w' => e = .returned (.bool (a.st == 0)) ∧ Below w.heap.size w w' := by
 have hb0 : Below w.heap.size w (w.alloc (.cells (cellsAs a A B ca cb).toArray 31)) := (Below.refl _ w).alloc (Nat.le_refl _) _
 unfold encAs
 unfold cellsAs at hb0
 go_enter Tryz.func18, Tryz.ntmps18
 go_wp2
 go_ret
 exact ⟨rfl, hb0⟩

end Go.Proofs.YtllgkohgcicbhaaGreatDoor
