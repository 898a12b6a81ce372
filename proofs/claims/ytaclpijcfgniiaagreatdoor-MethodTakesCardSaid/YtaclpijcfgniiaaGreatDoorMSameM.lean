/-
  Methods that are the same. No condition.
-/
import Derived.Test.YtaclpijcfgniiaaGreatDoorMSame
import Derived.Test.YtaclpijcfgniiaaGreatDoorPMethC
namespace Go.Proofs.YtaclpijcfgniiaaGreatDoor
open Go.RowKit

def sameM (a b : Me) : Bool := a.c == b.c && a.i == b.i && sameL a.l b.l
theorem sameM_iff (a b : Me) : sameM a b = true ↔ a = b := by
  obtain ⟨c, i, l⟩ := a
  obtain ⟨c', i', l'⟩ := b
  simp only [sameM, Bool.and_eq_true, beq_iff_eq, sameL_iff, Me.mk.injEq, and_assoc]
end Go.Proofs.YtaclpijcfgniiaaGreatDoor
