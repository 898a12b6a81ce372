/-
  num.bytesOf answers how many bytes so many bits need; it leaves the world as it was. No condition but that the number is far below the greatest int.
-/
import Derived.Test.YtebkolhibifbpaaGreatDoorJWNum
namespace Go.Proofs.YtebkolhibifbpaaGreatDoor
open Go.RowKit

/-- how many bytes n bits need -/
theorem bytesOf_any (n : Int) (w : World) (h0 : 0 ≤ n) (h1 : n ≤ 9223372036854775800) :
    Calls Tryz.prog 71 #[.int .i64 n] w fun e w' => e = .returned (.int .i64 ((n + 7) / 8)) ∧ w = w' := by
  go_enter Tryz.func71, Tryz.ntmps71
  go_wp2
  go_ret
  exact ⟨rfl, rfl⟩

end Go.Proofs.YtebkolhibifbpaaGreatDoor
