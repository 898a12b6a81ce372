/-
  text.Long answers as the plain functions of PText say, for every text of fewer than 2^62 bytes; nothing that was there is changed. Condition: the package num's table of widths holds 1, 2, 4, 8.
-/
import Derived.Test.YtebkolhibifbpaaGreatDoorWText0
namespace Go.Proofs.YtebkolhibifbpaaGreatDoor
open Go.RowKit

theorem long_any (s : ByteArray) (w : World) (hw : Wid w) (hs : s.size < 4611686018427387904) :
    Calls Tryz.prog 85 #[.string s] w fun e w' => e = .returned (.tuple #[.string (layR 4 s), .int .i64 (layE 4 s)]) ∧ Below w.heap.size w w' := by
  go_enter Tryz.func85, Tryz.ntmps85
  go_wp2_with fail
  refine (lay_any 4 s w hw (by decide) hs).mono ?_
  rintro e w1 ⟨rfl, hb⟩
  go_wp2
  go_ret2
  exact ⟨rfl, hb⟩
end Go.Proofs.YtebkolhibifbpaaGreatDoor
