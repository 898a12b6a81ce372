/-
  The document's own functions of chapter 4: Right, Bytes and Begins answer as the program's; nothing that was there is changed. No condition.
-/
import Derived.Test.YtdgidbiolklneaaDoorJFr
import Derived.Laws.BytesArg
namespace Go.Proofs.YtdgidbiolklneaaDoor
open Go.RowKit

theorem frRight_of {t c : Int} {d : ByteArray} {b : Bool} (h : (kOk t = true ∧ 0 ≤ c ∧ c ≤ kLast t ∧ kLeast t ≤ d.size ∧ d.size ≤ kMost t) ↔ b = true) : frRight ⟨t, c, d⟩ = b := by
  rw [Bool.eq_iff_iff, ← h]
  simp [frRight, and_assoc]

theorem k8 : kOk 8 = true ∧ kLast 8 = 0 ∧ kLeast 8 = 0 ∧ kMost 8 = 0 := by decide
theorem right8 {c : Int} {d : ByteArray} : (kOk 8 = true ∧ 0 ≤ c ∧ c ≤ kLast 8 ∧ kLeast 8 ≤ d.size ∧ d.size ≤ kMost 8) ↔ (c = 0 ∧ d.size = 0) := by
  rw [k8.1, k8.2.1, k8.2.2.1, k8.2.2.2]
  constructor
  · rintro ⟨-, h1, h2, h3, h4⟩
    omega
  · rintro ⟨h1, h2⟩
    exact ⟨rfl, by omega, by omega, by omega, by omega⟩

set_option maxHeartbeats 4000000 in
theorem rright_any (f : Fr) (w : World) :
    Calls Tryd.prog 8 #[encFr f] w fun e w' => e = .returned (.bool (frRight f)) ∧ Below w.heap.size w w' := by
  obtain ⟨t, c, d⟩ := f
  unfold encFr
  dsimp only
  have hb0 : Below w.heap.size w (w.alloc (.cells #[.int .i64 t, .int .i64 c, .string d] 36)) := (Below.refl _ _).alloc (Nat.le_refl _) _
  by_cases ht : t = 1 ∨ t = 2 ∨ t = 3 ∨ t = 8
  case neg =>
    have H := Lib.hid (show frRight ⟨t, c, d⟩ = false from frRight_of (by simp [kOk]; omega))
    have t1 : (t != 1) = true := by simp; omega
    have t2 : (t != 2) = true := by simp; omega
    have t3 : (t != 3) = true := by simp; omega
    have t8 : (t != 8) = true := by simp; omega
    clear ht
    go_enter Tryd.func8, Tryd.ntmps8
    go_wp2
    go_ret
    exact ⟨by rw [H.out]; rfl, hb0⟩
  by_cases hc0 : c < 0
  · have H := Lib.hid (show frRight ⟨t, c, d⟩ = false from frRight_of (by simp; omega))
    rcases ht with rfl | rfl | rfl | rfl
    all_goals
      go_enter Tryd.func8, Tryd.ntmps8
      go_wp2
      go_ret
      exact ⟨by rw [H.out]; rfl, hb0⟩
  by_cases hc1 : 65535 < c
  · have H := Lib.hid (show frRight ⟨t, c, d⟩ = false from frRight_of (by simp; unfold kLast; intro _ _ h; split at h <;> (try split at h) <;> omega))
    rcases ht with rfl | rfl | rfl | rfl
    all_goals
      go_enter Tryd.func8, Tryd.ntmps8
      go_wp2
      go_ret
      exact ⟨by rw [H.out]; rfl, hb0⟩
  by_cases hd : 131072 < d.size
  · have H := Lib.hid (show frRight ⟨t, c, d⟩ = false from frRight_of (by simp; unfold kMost; intro _ _ _ _; split <;> (try split) <;> omega))
    rcases ht with rfl | rfl | rfl | rfl
    all_goals
      go_enter Tryd.func8, Tryd.ntmps8
      go_wp2
      go_ret
      exact ⟨by rw [H.out]; rfl, hb0⟩
  rcases ht with rfl | rfl | rfl | rfl
  · have H := Lib.hid (show frRight ⟨1, c, d⟩ = true from frRight_of (by simp [kOk, kLast, kLeast, kMost]; omega))
    go_enter Tryd.func8, Tryd.ntmps8
    go_wp2
    go_ret
    exact ⟨by rw [H.out]; rfl, hb0⟩
  · have H := Lib.hid (show frRight ⟨2, c, d⟩ = true from frRight_of (by simp [kOk, kLast, kLeast, kMost]; omega))
    go_enter Tryd.func8, Tryd.ntmps8
    go_wp2
    go_ret
    exact ⟨by rw [H.out]; rfl, hb0⟩
  · by_cases hz : 0 < d.size
    · have H := Lib.hid (show frRight ⟨3, c, d⟩ = true from frRight_of (by simp [kOk, kLast, kLeast, kMost]; omega))
      go_enter Tryd.func8, Tryd.ntmps8
      go_wp2
      go_ret
      exact ⟨by rw [H.out]; rfl, hb0⟩
    · have H := Lib.hid (show frRight ⟨3, c, d⟩ = false from frRight_of (by simp [kOk, kLast, kLeast, kMost]; omega))
      go_enter Tryd.func8, Tryd.ntmps8
      go_wp2
      go_ret
      exact ⟨by rw [H.out]; rfl, hb0⟩
  · by_cases hz : d.size = 0
    · by_cases hc : c = 0
      · subst hc
        have H := Lib.hid (show frRight ⟨8, 0, d⟩ = true from frRight_of (right8.trans ⟨fun _ => rfl, fun _ => ⟨rfl, hz⟩⟩))
        go_enter Tryd.func8, Tryd.ntmps8
        go_wp2
        go_ret
        exact ⟨by rw [H.out]; rfl, hb0⟩
      · have H := Lib.hid (show frRight ⟨8, c, d⟩ = false from frRight_of (right8.trans ⟨fun h => by omega, fun h => by cases h⟩))
        have t1 : (c == 0) = false := by simpa using hc
        go_enter Tryd.func8, Tryd.ntmps8
        go_wp2
        go_ret
        exact ⟨by rw [H.out]; rfl, hb0⟩
    · have H := Lib.hid (show frRight ⟨8, c, d⟩ = false from frRight_of (right8.trans ⟨fun h => by omega, fun h => by cases h⟩))
      have t1 : ((d.size : Int) == 0) = false := by rw [beq_eq_false_iff_ne]; omega
      go_enter Tryd.func8, Tryd.ntmps8
      go_wp2
      go_ret
      exact ⟨by rw [H.out]; rfl, hb0⟩
end Go.Proofs.YtdgidbiolklneaaDoor
