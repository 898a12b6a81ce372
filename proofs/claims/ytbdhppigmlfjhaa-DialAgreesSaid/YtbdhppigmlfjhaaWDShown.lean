/-
  The document's example of chapter 11 stands; nothing that was there is changed. No condition.
-/
import Derived.Test.YtbdhppigmlfjhaaWAgreeD
import Derived.Test.YtbdhppigmlfjhaaWOffers
namespace Go.Proofs.Ytbdhppigmlfjhaa
open Go.RowKit

set_option maxRecDepth 100000 in
set_option maxHeartbeats 2000000 in
theorem dshown_any (w : World) : Calls Try.prog 6 #[] w fun e w' => e = .returned (.bool true) ∧ Below w.heap.size w w' := by
  have hA := dAgree_any 10 8192 30 0 0 60 w
  rw [show dgE 10 8192 30 0 0 60 = 0 by decide, show dgV 0 (lessN 10 0) = 10 by decide, show dgV 0 (lessN 8192 0) = 8192 by decide, show dgV 0 (min 30 60) = 30 by decide] at hA
  have hO := fun W => offers_any ⟨#[65, 32, 80, 76, 65, 73, 78]⟩ ⟨#[80, 76, 65, 73, 78]⟩ W (by decide)
  rw [show offX (⟨#[65, 32, 80, 76, 65, 73, 78]⟩ : ByteArray).data.toList (⟨#[80, 76, 65, 73, 78]⟩ : ByteArray).data.toList = true by decide] at hO
  go_enter Try.func6, Try.ntmps6
  go_wp2_with fail
  with_reducible refine hA.mono ?_
  rintro e w1 ⟨rfl, hb1⟩
  clear hA
  obtain ⟨W2, hW2⟩ : ∃ W2, W2 = w1.alloc (.cells #[.int .i64 10, .int .i64 8192, .int .i64 30] 23) := ⟨_, rfl⟩
  have hb2 : Below w1.heap.size w1 W2 := by rw [hW2]; exact (Below.refl _ w1).alloc (Nat.le_refl _) _
  have hx : Bx W2 w1.heap.size 23 [.int .i64 10, .int .i64 8192, .int .i64 30] := by rw [hW2]; exact Bx.new w1 _ _
  have hB := hb1.trans (hb2.mono hb1.size)
  go_upto_region 2 with fail
  rw [← hW2]
  clear hW2 hb1 hb2
  obtain ⟨x0, x1, x2⟩ := hx.three
  clear hx
  go_wp2_with fail
  with_reducible refine (hO _).mono ?_
  rintro e w3 ⟨rfl, hb3⟩
  have hB3 := hB.trans (hb3.mono hB.size)
  go_wp2
  go_ret
  exact ⟨rfl, hB3⟩
end Go.Proofs.Ytbdhppigmlfjhaa
