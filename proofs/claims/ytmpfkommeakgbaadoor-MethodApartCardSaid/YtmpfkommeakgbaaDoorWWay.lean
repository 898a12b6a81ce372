/-
  The method that the map has at a letter lays such a value. Conditions: the package num's table of widths holds 1, 2, 4, 8; the value's number is a uint64, its text is shorter than 2^47 bytes.
-/
import Derived.RangeFuncNested
import Derived.RangeFuncBound
import Derived.RangeFuncCalls
import Derived.RangeFuncLeaves
import Derived.Test.YtmpfkommeakgbaaDoorWVal
import Derived.Test.YtmpfkommeakgbaaDoorWWays
namespace Go.Proofs.YtmpfkommeakgbaaDoor
open Go.RowKit

theorem way_any (c : UInt8) (hc : isLet c = true) : (∀ args w, (callFunc (wayF c) args).run Tryd.prog w = .ok (.enter (wayF c) args) w) ∧ ∀ (v : MV) (w : World), Wid w → wfV v →
    Calls Tryd.prog (wayF c) #[encV v] w fun e w' => e = .returned (.tuple #[.string (vRes c v), .int .i64 (vE c v)]) ∧ Below w.heap.size w w' := by
  rcases let_cases hc with rfl | rfl | rfl | rfl | rfl | rfl | rfl | rfl
  · exact ⟨enters_of Tryd.func46 (by kernel_rfl) rfl, fun v w hw hv => bit_any v w hv⟩
  · exact ⟨enters_of Tryd.func48 (by kernel_rfl) rfl, fun v w hw hv => vlong_any v w hw hv⟩
  · exact ⟨enters_of Tryd.func47 (by kernel_rfl) rfl, fun v w hw hv => vshort_any v w hw hv⟩
  · exact ⟨enters_of Tryd.func49 (by kernel_rfl) rfl, fun v w hw hv => vtable_any v w hw hv⟩
  · exact ⟨enters_of Tryd.func44 (by kernel_rfl) rfl, fun v w hw hv => one_any 108 _ (.inr (.inr (.inl ⟨rfl, rfl⟩))) v w hw hv⟩
  · exact ⟨enters_of Tryd.func42 (by kernel_rfl) rfl, fun v w hw hv => one_any 111 _ (.inl ⟨rfl, rfl⟩) v w hw hv⟩
  · exact ⟨enters_of Tryd.func45 (by kernel_rfl) rfl, fun v w hw hv => one_any 113 _ (.inr (.inr (.inr ⟨rfl, rfl⟩))) v w hw hv⟩
  · exact ⟨enters_of Tryd.func43 (by kernel_rfl) rfl, fun v w hw hv => one_any 115 _ (.inr (.inl ⟨rfl, rfl⟩)) v w hw hv⟩
end Go.Proofs.YtmpfkommeakgbaaDoor
