/-
  props.Right and Letters, and the document's example, answer as the plain functions say; nothing that was there is changed. Conditions: as for props.Bytes.
-/
import Derived.Test.YtjpldfkhacchdaaDoorWPBytes
namespace Go.Proofs.YtjpldfkhacchdaaDoor
open Go.RowKit

set_option maxHeartbeats 1000000 in
theorem pright_any (h : He) (A : Option Addr) (cap : Nat) (w : World) (hw : Wid w) (hh : wfH h) (hA : ValsAt w A (rowV h.l)) :
    Calls Tryd.prog 15 #[encH h A cap] w fun e w' => e = .returned (.int .i64 (hE h)) ∧ Below w.heap.size w w' := by
  have hb0 : Below w.heap.size w (w.alloc (.cells #[.int .i64 h.c, .int .u64 h.z, .int .u64 h.f, .slice A h.l.length cap] 25)) := (Below.refl _ w).alloc (Nat.le_refl _) _
  have hBy := pbytes_any h A cap _ (hw.below hb0) hh (hA.below hb0)
  generalize hB h = r at hBy
  generalize hE h = x at hBy ⊢
  obtain ⟨c, z, f, l⟩ := h
  unfold encH at hBy ⊢
  dsimp only at *
  clear hh hA
  go_enter Tryd.func15, Tryd.ntmps15
  go_wp2_with fail
  refine hBy.mono ?_
  rintro e w1 ⟨rfl, hb1⟩
  clear hBy
  go_wp2
  go_ret
  exact ⟨rfl, hb0.trans (hb1.mono hb0.size)⟩
theorem shown_hE : hE ⟨60, 5, 0, []⟩ = 0 ∧ hB ⟨60, 5, 0, []⟩ = ⟨#[0, 60, 0, 0, 0, 0, 0, 0, 0, 0, 0, 5, 0, 0]⟩ := by
  have e : hE ⟨60, 5, 0, []⟩ = 0 := by kernel_rfl
  refine ⟨e, ?_⟩
  rw [hB, if_pos e]
  kernel_rfl
theorem pshown_any (w : World) (hw : Wid w) : Calls Tryd.prog 9 #[] w fun e w' => e = .returned (.bool true) ∧ Below w.heap.size w w' := by
  have hBy := pbytes_any ⟨60, 5, 0, []⟩ none 0 w hw ⟨by dsimp only; omega, by dsimp only; omega, fun v hv => by cases hv⟩ (fun h => by simp [rowV] at h)
  rw [shown_hE.1, shown_hE.2] at hBy
  unfold encH at hBy
  dsimp only [List.length_nil] at hBy
  go_enter Tryd.func9, Tryd.ntmps9
  go_wp2_with fail
  refine hBy.mono ?_
  rintro e w1 ⟨rfl, hb1⟩
  clear hBy
  go_wp2
  go_ret
  exact ⟨rfl, hb1⟩
end Go.Proofs.YtjpldfkhacchdaaDoor
