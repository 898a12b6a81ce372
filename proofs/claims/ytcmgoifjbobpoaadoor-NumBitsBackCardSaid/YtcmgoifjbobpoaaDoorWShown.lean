/-
  The document's examples, at the head of all statements of layer 1, come out true; nothing that was there is changed. Condition: the package's table of widths holds 1, 2, 4, 8.
-/
import Derived.Test.YtcmgoifjbobpoaaDoorWPut
import Derived.Test.YtcmgoifjbobpoaaDoorWTake
import Derived.Test.YtcmgoifjbobpoaaDoorWBits
namespace Go.Proofs.YtcmgoifjbobpoaaDoor
open Go.RowKit

theorem Wid.below {w w' : World} (h : Wid w) (hb : Below w.heap.size w w') : Wid w' := by
  have hlt : 0 < w.heap.size := by
    rcases Nat.lt_or_ge 0 w.heap.size with k | k
    · exact k
    · have := h.c0; simp [World.cell?, Array.getElem?_eq_none k] at this
  exact ⟨(hb.cell hlt).trans h.c0, (hb.cell hlt).trans h.c1, (hb.cell hlt).trans h.c2, (hb.cell hlt).trans h.c3⟩

theorem put_258 : putS (Int.toNat 2) (Int.toNat 258) = ⟨#[1, 2]⟩ := by decide
theorem bits_101 : bitsS [true, false, true] = ⟨#[5]⟩ := by decide
theorem bools_101 (w : World) : BoolsAt (w.alloc (.cells #[.bool true, .bool false, .bool true] 4)) (some ⟨w.heap.size, 0, none⟩) [true, false, true] := fun _ => by
  refine ⟨_, _, rfl, by simp, fun i hi => ?_⟩
  rw [World.cell?_alloc_new]
  match i, hi with
  | 0, _ => rfl
  | 1, _ => rfl
  | 2, _ => rfl

theorem shown_any (w : World) (hw : Wid w) : Calls Tryd.prog 11 #[] w fun e w' => e = .returned (.bool true) ∧ Below w.heap.size w w' := by
  go_enter Tryd.func11, Tryd.ntmps11
  go_wp2_with fail
  refine (put_ok 2 258 w hw (by decide) (by decide) (by decide)).mono ?_
  rintro e w1 ⟨rfl, hb⟩
  rw [put_258]
  go_wp2_with fail
  refine (bits_any (some ⟨w1.heap.size, 0, none⟩) 3 [true, false, true] _ (by decide) (bools_101 w1)).mono ?_
  rintro e w2 ⟨rfl, hb2⟩
  rw [bits_101]
  go_wp2
  go_ret
  exact ⟨rfl, (hb.alloc hb.size _).trans (hb2.mono (by have := hb.size; simp; omega))⟩
end Go.Proofs.YtcmgoifjbobpoaaDoor
