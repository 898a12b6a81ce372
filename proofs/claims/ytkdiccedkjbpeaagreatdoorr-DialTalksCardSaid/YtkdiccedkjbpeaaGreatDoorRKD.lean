/-
  Several texts joined in one file: each says at its own head, below, what it proves, and its conditions.
-/
import Derived.Test.YtkdiccedkjbpeaaGreatDoorRJMem
import Derived.Laws.ResultCell
import Derived.WalkKit
import Derived.Lib.Hide
import Derived.Deep.DeepCutAuto
/-
  A store of seven cells into a box: what it asks for, and what stays. No condition.
-/
namespace Go.Proofs.YtkdiccedkjbpeaaGreatDoorR
open Go.RowKit

theorem Bx.store7 {W : World} {B : Nat} {t : TypeId} {a0 a1 a2 a3 a4 a5 a6 : Value} (h : Bx W B t [a0, a1, a2, a3, a4, a5, a6]) (b0 b1 b2 b3 b4 b5 b6 : Value) :
    W.cell? ⟨B, 0, none⟩ = some a0 ∧
    W.frozen? ⟨B, 0, none⟩ = false ∧
    (W.setCell ⟨B, 0, none⟩ b0).cell? ⟨B, 1, none⟩ = some a1 ∧
    (W.setCell ⟨B, 0, none⟩ b0).frozen? ⟨B, 1, none⟩ = false ∧
    ((W.setCell ⟨B, 0, none⟩ b0).setCell ⟨B, 1, none⟩ b1).cell? ⟨B, 2, none⟩ = some a2 ∧
    ((W.setCell ⟨B, 0, none⟩ b0).setCell ⟨B, 1, none⟩ b1).frozen? ⟨B, 2, none⟩ = false ∧
    (((W.setCell ⟨B, 0, none⟩ b0).setCell ⟨B, 1, none⟩ b1).setCell ⟨B, 2, none⟩ b2).cell? ⟨B, 3, none⟩ = some a3 ∧
    (((W.setCell ⟨B, 0, none⟩ b0).setCell ⟨B, 1, none⟩ b1).setCell ⟨B, 2, none⟩ b2).frozen? ⟨B, 3, none⟩ = false ∧
    ((((W.setCell ⟨B, 0, none⟩ b0).setCell ⟨B, 1, none⟩ b1).setCell ⟨B, 2, none⟩ b2).setCell ⟨B, 3, none⟩ b3).cell? ⟨B, 4, none⟩ = some a4 ∧
    ((((W.setCell ⟨B, 0, none⟩ b0).setCell ⟨B, 1, none⟩ b1).setCell ⟨B, 2, none⟩ b2).setCell ⟨B, 3, none⟩ b3).frozen? ⟨B, 4, none⟩ = false ∧
    (((((W.setCell ⟨B, 0, none⟩ b0).setCell ⟨B, 1, none⟩ b1).setCell ⟨B, 2, none⟩ b2).setCell ⟨B, 3, none⟩ b3).setCell ⟨B, 4, none⟩ b4).cell? ⟨B, 5, none⟩ = some a5 ∧
    (((((W.setCell ⟨B, 0, none⟩ b0).setCell ⟨B, 1, none⟩ b1).setCell ⟨B, 2, none⟩ b2).setCell ⟨B, 3, none⟩ b3).setCell ⟨B, 4, none⟩ b4).frozen? ⟨B, 5, none⟩ = false ∧
    ((((((W.setCell ⟨B, 0, none⟩ b0).setCell ⟨B, 1, none⟩ b1).setCell ⟨B, 2, none⟩ b2).setCell ⟨B, 3, none⟩ b3).setCell ⟨B, 4, none⟩ b4).setCell ⟨B, 5, none⟩ b5).cell? ⟨B, 6, none⟩ = some a6 ∧
    ((((((W.setCell ⟨B, 0, none⟩ b0).setCell ⟨B, 1, none⟩ b1).setCell ⟨B, 2, none⟩ b2).setCell ⟨B, 3, none⟩ b3).setCell ⟨B, 4, none⟩ b4).setCell ⟨B, 5, none⟩ b5).frozen? ⟨B, 6, none⟩ = false ∧
    Bx (((((((W.setCell ⟨B, 0, none⟩ b0).setCell ⟨B, 1, none⟩ b1).setCell ⟨B, 2, none⟩ b2).setCell ⟨B, 3, none⟩ b3).setCell ⟨B, 4, none⟩ b4).setCell ⟨B, 5, none⟩ b5).setCell ⟨B, 6, none⟩ b6) B t [b0, b1, b2, b3, b4, b5, b6] :=
  ⟨h.cell 0 (by simp), h.frozen 0, (h.set 0 b0).cell 1 (by simp), (h.set 0 b0).frozen 1, ((h.set 0 b0).set 1 b1).cell 2 (by simp), ((h.set 0 b0).set 1 b1).frozen 2, (((h.set 0 b0).set 1 b1).set 2 b2).cell 3 (by simp), (((h.set 0 b0).set 1 b1).set 2 b2).frozen 3, ((((h.set 0 b0).set 1 b1).set 2 b2).set 3 b3).cell 4 (by simp), ((((h.set 0 b0).set 1 b1).set 2 b2).set 3 b3).frozen 4, (((((h.set 0 b0).set 1 b1).set 2 b2).set 3 b3).set 4 b4).cell 5 (by simp), (((((h.set 0 b0).set 1 b1).set 2 b2).set 3 b3).set 4 b4).frozen 5, ((((((h.set 0 b0).set 1 b1).set 2 b2).set 3 b3).set 4 b4).set 5 b5).cell 6 (by simp), ((((((h.set 0 b0).set 1 b1).set 2 b2).set 3 b3).set 4 b4).set 5 b5).frozen 6, (((((((h.set 0 b0).set 1 b1).set 2 b2).set 3 b3).set 4 b4).set 5 b5).set 6 b6)⟩
theorem below_store7 {n B : Nat} {w W : World} (h : Below n w W) (hn : n ≤ B) (b0 b1 b2 b3 b4 b5 b6 : Value) : Below n w (((((((W.setCell ⟨B, 0, none⟩ b0).setCell ⟨B, 1, none⟩ b1).setCell ⟨B, 2, none⟩ b2).setCell ⟨B, 3, none⟩ b3).setCell ⟨B, 4, none⟩ b4).setCell ⟨B, 5, none⟩ b5).setCell ⟨B, 6, none⟩ b6) :=
  (((((((h.setCell (p := ⟨B, 0, none⟩) hn b0).setCell (p := ⟨B, 1, none⟩) hn b1).setCell (p := ⟨B, 2, none⟩) hn b2).setCell (p := ⟨B, 3, none⟩) hn b3).setCell (p := ⟨B, 4, none⟩) hn b4).setCell (p := ⟨B, 5, none⟩) hn b5).setCell (p := ⟨B, 6, none⟩) hn b6)
theorem Bx.other7 {W : World} {B B2 : Nat} {t : TypeId} {l : List Value} (h : Bx W B2 t l) (hne : B ≠ B2) (b0 b1 b2 b3 b4 b5 b6 : Value) : Bx (((((((W.setCell ⟨B, 0, none⟩ b0).setCell ⟨B, 1, none⟩ b1).setCell ⟨B, 2, none⟩ b2).setCell ⟨B, 3, none⟩ b3).setCell ⟨B, 4, none⟩ b4).setCell ⟨B, 5, none⟩ b5).setCell ⟨B, 6, none⟩ b6) B2 t l :=
  (((((((h.other (B' := B) hne 0 b0).other (B' := B) hne 1 b1).other (B' := B) hne 2 b2).other (B' := B) hne 3 b3).other (B' := B) hne 4 b4).other (B' := B) hne 5 b5).other (B' := B) hne 6 b6)
theorem Bx.seven {W : World} {B : Nat} {t : TypeId} {a0 a1 a2 a3 a4 a5 a6 : Value} (h : Bx W B t [a0, a1, a2, a3, a4, a5, a6]) : W.cell? ⟨B, 0, none⟩ = some a0 ∧ W.cell? ⟨B, 1, none⟩ = some a1 ∧ W.cell? ⟨B, 2, none⟩ = some a2 ∧ W.cell? ⟨B, 3, none⟩ = some a3 ∧ W.cell? ⟨B, 4, none⟩ = some a4 ∧ W.cell? ⟨B, 5, none⟩ = some a5 ∧ W.cell? ⟨B, 6, none⟩ = some a6 :=
  ⟨h.cell 0 (by simp), h.cell 1 (by simp), h.cell 2 (by simp), h.cell 3 (by simp), h.cell 4 (by simp), h.cell 5 (by simp), h.cell 6 (by simp)⟩
theorem Bx.three {W : World} {B : Nat} {t : TypeId} {a0 a1 a2 : Value} (h : Bx W B t [a0, a1, a2]) : W.cell? ⟨B, 0, none⟩ = some a0 ∧ W.cell? ⟨B, 1, none⟩ = some a1 ∧ W.cell? ⟨B, 2, none⟩ = some a2 :=
  ⟨h.cell 0 (by simp), h.cell 1 (by simp), h.cell 2 (by simp)⟩
end Go.Proofs.YtkdiccedkjbpeaaGreatDoorR

/-
  serve.Right tells whether a tune may be; nothing that was there is changed. No condition.
-/
namespace Go.Proofs.YtkdiccedkjbpeaaGreatDoorR
open Go.RowKit

def tRight (c f b : Int) : Bool := (decide (1 ≤ c) && decide (c ≤ 65535)) && (decide (4096 ≤ f) && decide (f ≤ 131072)) && (decide (0 ≤ b) && decide (b ≤ 65535))
theorem tRight_iff (c f b : Int) : tRight c f b = true ↔ (1 ≤ c ∧ c ≤ 65535) ∧ (4096 ≤ f ∧ f ≤ 131072) ∧ (0 ≤ b ∧ b ≤ 65535) := by
  simp [tRight, and_assoc]
set_option maxRecDepth 100000 in
theorem within_any (n a b : Int) (w : World) : Calls Tryz.prog 27 #[.int .i64 n, .int .i64 a, .int .i64 b] w fun e w' => e = .returned (.bool (decide (a ≤ n) && decide (n ≤ b))) ∧ w = w' := by
  by_cases h : a ≤ n
  · rw [decide_eq_true h, Bool.true_and]
    go_enter Tryz.func27, Tryz.ntmps27
    go_wp2
    go_ret
    exact ⟨rfl, rfl⟩
  · rw [decide_eq_false h, Bool.false_and]
    go_enter Tryz.func27, Tryz.ntmps27
    go_wp2
    go_ret
    exact ⟨rfl, rfl⟩
set_option maxRecDepth 100000 in
set_option maxHeartbeats 2000000 in
theorem sRight_any (c f b : Int) (w : World) : Calls Tryz.prog 16 #[.agg #[.int .i64 c, .int .i64 f, .int .i64 b]] w fun e w' => e = .returned (.bool (tRight c f b)) ∧ Below w.heap.size w w' := by
  obtain ⟨W0, hW0⟩ : ∃ W0, W0 = w.alloc (.cells #[.int .i64 c, .int .i64 f, .int .i64 b] 23) := ⟨_, rfl⟩
  have hb0 : Below w.heap.size w W0 := by rw [hW0]; exact (Below.refl _ w).alloc (Nat.le_refl _) _
  have hx : Bx W0 w.heap.size 23 [.int .i64 c, .int .i64 f, .int .i64 b] := by rw [hW0]; exact Bx.new w _ _
  have h1 := within_any c 1 65535 W0
  have h2 := within_any f 4096 131072 W0
  have h3 := within_any b 0 65535 W0
  have HR : Hid (tRight c f b = ((decide (1 ≤ c) && decide (c ≤ 65535)) && (decide (4096 ≤ f) && decide (f ≤ 131072)) && (decide (0 ≤ b) && decide (b ≤ 65535)))) := Lib.hid rfl
  generalize (decide (1 ≤ c) && decide (c ≤ 65535)) = q1 at *
  generalize (decide (4096 ≤ f) && decide (f ≤ 131072)) = q2 at *
  generalize (decide (0 ≤ b) && decide (b ≤ 65535)) = q3 at *
  generalize tRight c f b = q at *
  obtain ⟨x0, x1, x2⟩ := hx.three
  go_enter Tryz.func16, Tryz.ntmps16
  go_upto_region 1 with fail
  rw [← hW0]
  clear hW0 hx
  go_wp2_with fail
  with_reducible refine h1.mono ?_
  rintro e w1 ⟨rfl, rfl⟩
  cases q1
  · have HG : Hid (q = false) := Lib.hid (by rw [HR.out]; rfl)
    clear HR h1 h2 h3
    go_wp2
    go_ret
    exact ⟨by rw [HG.out] <;> rfl, hb0⟩
  · go_wp2_with fail
    with_reducible refine h2.mono ?_
    rintro e w1 ⟨rfl, rfl⟩
    cases q2
    · have HG : Hid (q = false) := Lib.hid (by rw [HR.out]; rfl)
      clear HR h1 h2 h3
      go_wp2
      go_ret
      exact ⟨by rw [HG.out] <;> rfl, hb0⟩
    · go_wp2_with fail
      with_reducible refine h3.mono ?_
      rintro e w1 ⟨rfl, rfl⟩
      have HG : Hid (q = q3) := Lib.hid (by rw [HR.out]; rfl)
      clear HR h1 h2 h3
      go_wp2
      go_ret
      exact ⟨by rw [HG.out] <;> rfl, hb0⟩
end Go.Proofs.YtkdiccedkjbpeaaGreatDoorR

/-
  What two tunes agree on, as a plain function. No condition.
-/
namespace Go.Proofs.YtkdiccedkjbpeaaGreatDoorR

/-- why two don't agree -/
def dgE (mc mf mb tc tf tb : Int) : Int := if tRight mc mf mb = true then (if tc < 0 ∨ tf < 0 ∨ tb < 0 then 1 else if 0 < tf ∧ tf < 4096 then 16 else 0) else 1
def lessN (m t : Int) : Int := if t = 0 then m else min m t
def dgV (e a : Int) : Int := if e = 0 then a else 0
theorem dgE_zero {mc mf mb tc tf tb : Int} (h : dgE mc mf mb tc tf tb = 0) : tRight mc mf mb = true ∧ tRight (lessN mc tc) (lessN mf tf) (min mb tb) = true ∧ lessN mc tc ≤ mc ∧ lessN mf tf ≤ mf ∧ min mb tb ≤ mb ∧ (tc ≠ 0 → lessN mc tc ≤ tc) ∧ (tf ≠ 0 → lessN mf tf ≤ tf) ∧ min mb tb ≤ tb := by
  rw [dgE] at h
  by_cases hq : tRight mc mf mb = true
  · rw [if_pos hq] at h
    by_cases hn : tc < 0 ∨ tf < 0 ∨ tb < 0
    · rw [if_pos hn] at h; cases h
    rw [if_neg hn] at h
    by_cases hf : 0 < tf ∧ tf < 4096
    · rw [if_pos hf] at h; cases h
    have hq2 := (tRight_iff mc mf mb).1 hq
    refine ⟨hq, (tRight_iff _ _ _).2 ?_, ?_⟩
    · unfold lessN
      split <;> split <;> omega
    · unfold lessN
      refine ⟨?_, ?_, ?_, ?_, ?_, ?_⟩ <;> (try split) <;> (try intro) <;> omega
  · rw [if_neg hq] at h; cases h
theorem dgE_self {mc mf mb : Int} (hq : tRight mc mf mb = true) : dgE mc mf mb mc mf mb = 0 := by
  have hq2 := (tRight_iff mc mf mb).1 hq
  rw [dgE, if_pos hq, if_neg (by omega), if_neg (by omega)]
theorem lessN_self (a : Int) : lessN a a = a := by
  unfold lessN
  split <;> omega
theorem dgE_not {mc mf mb tc tf tb : Int} (hq : tRight mc mf mb = false) : dgE mc mf mb tc tf tb = 1 := by
  rw [dgE, if_neg (by rw [hq]; decide)]
end Go.Proofs.YtkdiccedkjbpeaaGreatDoorR
