/-
  serve.Right tells whether a tune may be; nothing that was there is changed. No condition.
-/
import Derived.Laws.ResultCell
import Derived.WalkKit
import Derived.Lib.Hide
import Derived.Deep.DeepCutAuto
import Derived.Test.YtbdhppigmlfjhaaJMem
import Derived.Test.YtbdhppigmlfjhaaMHd7
namespace Go.Proofs.Ytbdhppigmlfjhaa
open Go.RowKit

def tRight (c f b : Int) : Bool := (decide (1 ≤ c) && decide (c ≤ 65535)) && (decide (4096 ≤ f) && decide (f ≤ 131072)) && (decide (0 ≤ b) && decide (b ≤ 65535))
theorem tRight_iff (c f b : Int) : tRight c f b = true ↔ (1 ≤ c ∧ c ≤ 65535) ∧ (4096 ≤ f ∧ f ≤ 131072) ∧ (0 ≤ b ∧ b ≤ 65535) := by
  simp [tRight, and_assoc]
set_option maxRecDepth 100000 in
theorem within_any (n a b : Int) (w : World) : Calls Try.prog 20 #[.int .i64 n, .int .i64 a, .int .i64 b] w fun e w' => e = .returned (.bool (decide (a ≤ n) && decide (n ≤ b))) ∧ w = w' := by
  by_cases h : a ≤ n
  · rw [decide_eq_true h, Bool.true_and]
    go_enter Try.func20, Try.ntmps20
    go_wp2
    go_ret
    exact ⟨rfl, rfl⟩
  · rw [decide_eq_false h, Bool.false_and]
    go_enter Try.func20, Try.ntmps20
    go_wp2
    go_ret
    exact ⟨rfl, rfl⟩
set_option maxRecDepth 100000 in
set_option maxHeartbeats 2000000 in
theorem sRight_any (c f b : Int) (w : World) : Calls Try.prog 13 #[.agg #[.int .i64 c, .int .i64 f, .int .i64 b]] w fun e w' => e = .returned (.bool (tRight c f b)) ∧ Below w.heap.size w w' := by
  obtain ⟨W0, hW0⟩ : ∃ W0, W0 = w.alloc (.cells #[.int .i64 c, .int .i64 f, .int .i64 b] 23) := ⟨_, rfl⟩
  have hb0 : Below w.heap.size w W0 := by rw [hW0]; exact (Below.refl _ w).alloc (Nat.le_refl _) _
  have hx : Bx W0 w.heap.size 23 [.int .i64 c, .int .i64 f, .int .i64 b] := by rw [hW0]; exact Bx.new w _ _
  have h1 := within_any c 1 65535 W0
  have h2 := within_any f 4096 131072 W0
  have h3 := within_any b 0 65535 W0
  have HR : Hid (tRight c f b = ((decide (1 ≤ c) && decide (c ≤ 65535)) && (decide (4096 ≤ f) && decide (f ≤ 131072)) && (decide (0 ≤ b) && decide (b ≤ 65535)))) := Lib.hid rfl
  generalize (decide (1 ≤ c) && decide (c ≤ 65535)) = q1 at *
  generalize (decide (4096 ≤ f) && decide (f ≤ 131072)) = q2 at *
  generalize (decide (0 ≤ b) && decide (b ≤ 65535)) = q3 at *
  generalize tRight c f b = q at *
  obtain ⟨x0, x1, x2⟩ := hx.three
  go_enter Try.func13, Try.ntmps13
  go_upto_region 1 with fail
  rw [← hW0]
  clear hW0 hx
  go_wp2_with fail
  with_reducible refine h1.mono ?_
  rintro e w1 ⟨rfl, rfl⟩
  cases q1
  · have HG : Hid (q = false) := Lib.hid (by rw [HR.out]; rfl)
    clear HR h1 h2 h3
    go_wp2
    go_ret
    exact ⟨by rw [HG.out] <;> rfl, hb0⟩
  · go_wp2_with fail
    with_reducible refine h2.mono ?_
    rintro e w1 ⟨rfl, rfl⟩
    cases q2
    · have HG : Hid (q = false) := Lib.hid (by rw [HR.out]; rfl)
      clear HR h1 h2 h3
      go_wp2
      go_ret
      exact ⟨by rw [HG.out] <;> rfl, hb0⟩
    · go_wp2_with fail
      with_reducible refine h3.mono ?_
      rintro e w1 ⟨rfl, rfl⟩
      have HG : Hid (q = q3) := Lib.hid (by rw [HR.out]; rfl)
      clear HR h1 h2 h3
      go_wp2
      go_ret
      exact ⟨by rw [HG.out] <;> rfl, hb0⟩
end Go.Proofs.Ytbdhppigmlfjhaa
