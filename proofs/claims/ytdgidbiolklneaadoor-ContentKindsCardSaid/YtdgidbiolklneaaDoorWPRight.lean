/-
  props.Right and Letters, and the document's example, answer as the plain functions say; nothing that was there is changed. Conditions: as for props.Bytes.
-/
import Derived.Test.YtdgidbiolklneaaDoorWPBytes
namespace Go.Proofs.YtdgidbiolklneaaDoor
open Go.RowKit

set_option maxHeartbeats 1000000 in
theorem pright_any (h : He) (A : Option Addr) (cap : Nat) (w : World) (hw : Wid w) (hh : wfH h) (hA : ValsAt w A (rowV h.l)) :
    Calls Tryd.prog 19 #[encH h A cap] w fun e w' => e = .returned (.int .i64 (hE h)) ∧ Below w.heap.size w w' := by
  have hb0 : Below w.heap.size w (w.alloc (.cells #[.int .i64 h.c, .int .u64 h.z, .int .u64 h.f, .slice A h.l.length cap] 27)) := (Below.refl _ w).alloc (Nat.le_refl _) _
  have hBy := pbytes_any h A cap _ (hw.below hb0) hh (hA.below hb0)
  generalize hB h = r at hBy
  generalize hE h = x at hBy ⊢
  obtain ⟨c, z, f, l⟩ := h
  unfold encH at hBy ⊢
  dsimp only at *
  clear hh hA
  go_enter Tryd.func19, Tryd.ntmps19
  go_wp2_with fail
  refine hBy.mono ?_
  rintro e w1 ⟨rfl, hb1⟩
  clear hBy
  go_wp2
  go_ret
  exact ⟨rfl, hb0.trans (hb1.mono hb0.size)⟩
end Go.Proofs.YtdgidbiolklneaaDoor
