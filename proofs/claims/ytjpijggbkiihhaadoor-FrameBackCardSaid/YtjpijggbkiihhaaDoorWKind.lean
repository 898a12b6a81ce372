/-
  frame.kindOf answers what a type allows, and whether it is one; nothing that was there is changed. Condition: the package's table of kinds is as its text lays it.
-/
import Derived.Laws.ResultCell
import Derived.Test.YtjpijggbkiihhaaDoorWWidth
import Derived.Test.YtjpijggbkiihhaaDoorPFrame
import Derived.Test.YtjpijggbkiihhaaDoorMBox
namespace Go.Proofs.YtjpijggbkiihhaaDoor
open Go.RowKit

/-- the table of kinds, cell by cell -/
def kinL : List Int := [1, 65535, 0, 131072, 2, 65535, 0, 131072, 3, 65535, 1, 131072, 8, 0, 0, 0]
def Kin (w : World) : Prop := ∀ i (h : i < 16), w.cell? ⟨0, i, none⟩ = some (.int .i64 (kinL[i]'h))
theorem Kin.below {w w' : World} (h : Kin w) (hb : Below w.heap.size w w') : Kin w' := by
  have hlt : 0 < w.heap.size := by
    rcases Nat.lt_or_ge 0 w.heap.size with k | k
    · exact k
    · have := h 0 (by decide); simp [World.cell?, Array.getElem?_eq_none k] at this
  exact fun i hi => (hb.cell (p := ⟨0, i, none⟩) hlt).trans (h i hi)
/-- a kind as it stands in memory -/
def encK (t : Int) : Value := .agg #[.int .i64 (if kOk t = true then t else 0), .int .i64 (kLast t), .int .i64 (kLeast t), .int .i64 (kMost t)]

set_option maxHeartbeats 2000000 in
theorem kindOf_any (t : Int) (w : World) (hk : Kin w) :
    Calls Tryd.prog 35 #[.int .i64 t] w fun e w' => e = .returned (.tuple #[encK t, .bool (kOk t)]) ∧ Below w.heap.size w w' := by
  have hA : Kin (w.alloc (.cells #[.int .i64 0, .int .i64 0, .int .i64 0, .int .i64 0] 71)) := hk.below ((Below.refl _ _).alloc (Nat.le_refl _) _)
  clear hk
  have c0 : (w.alloc (.cells #[.int .i64 0, .int .i64 0, .int .i64 0, .int .i64 0] 71)).cell? ⟨0, 0, none⟩ = some (.int .i64 1) := hA 0 (by decide)
  have c1 : (w.alloc (.cells #[.int .i64 0, .int .i64 0, .int .i64 0, .int .i64 0] 71)).cell? ⟨0, 1, none⟩ = some (.int .i64 65535) := hA 1 (by decide)
  have c2 : (w.alloc (.cells #[.int .i64 0, .int .i64 0, .int .i64 0, .int .i64 0] 71)).cell? ⟨0, 2, none⟩ = some (.int .i64 0) := hA 2 (by decide)
  have c3 : (w.alloc (.cells #[.int .i64 0, .int .i64 0, .int .i64 0, .int .i64 0] 71)).cell? ⟨0, 3, none⟩ = some (.int .i64 131072) := hA 3 (by decide)
  have c4 : (w.alloc (.cells #[.int .i64 0, .int .i64 0, .int .i64 0, .int .i64 0] 71)).cell? ⟨0, 4, none⟩ = some (.int .i64 2) := hA 4 (by decide)
  have c5 : (w.alloc (.cells #[.int .i64 0, .int .i64 0, .int .i64 0, .int .i64 0] 71)).cell? ⟨0, 5, none⟩ = some (.int .i64 65535) := hA 5 (by decide)
  have c6 : (w.alloc (.cells #[.int .i64 0, .int .i64 0, .int .i64 0, .int .i64 0] 71)).cell? ⟨0, 6, none⟩ = some (.int .i64 0) := hA 6 (by decide)
  have c7 : (w.alloc (.cells #[.int .i64 0, .int .i64 0, .int .i64 0, .int .i64 0] 71)).cell? ⟨0, 7, none⟩ = some (.int .i64 131072) := hA 7 (by decide)
  have c8 : (w.alloc (.cells #[.int .i64 0, .int .i64 0, .int .i64 0, .int .i64 0] 71)).cell? ⟨0, 8, none⟩ = some (.int .i64 3) := hA 8 (by decide)
  have c9 : (w.alloc (.cells #[.int .i64 0, .int .i64 0, .int .i64 0, .int .i64 0] 71)).cell? ⟨0, 9, none⟩ = some (.int .i64 65535) := hA 9 (by decide)
  have c10 : (w.alloc (.cells #[.int .i64 0, .int .i64 0, .int .i64 0, .int .i64 0] 71)).cell? ⟨0, 10, none⟩ = some (.int .i64 1) := hA 10 (by decide)
  have c11 : (w.alloc (.cells #[.int .i64 0, .int .i64 0, .int .i64 0, .int .i64 0] 71)).cell? ⟨0, 11, none⟩ = some (.int .i64 131072) := hA 11 (by decide)
  have c12 : (w.alloc (.cells #[.int .i64 0, .int .i64 0, .int .i64 0, .int .i64 0] 71)).cell? ⟨0, 12, none⟩ = some (.int .i64 8) := hA 12 (by decide)
  have c13 : (w.alloc (.cells #[.int .i64 0, .int .i64 0, .int .i64 0, .int .i64 0] 71)).cell? ⟨0, 13, none⟩ = some (.int .i64 0) := hA 13 (by decide)
  have c14 : (w.alloc (.cells #[.int .i64 0, .int .i64 0, .int .i64 0, .int .i64 0] 71)).cell? ⟨0, 14, none⟩ = some (.int .i64 0) := hA 14 (by decide)
  have c15 : (w.alloc (.cells #[.int .i64 0, .int .i64 0, .int .i64 0, .int .i64 0] 71)).cell? ⟨0, 15, none⟩ = some (.int .i64 0) := hA 15 (by decide)
  clear hA
  have i0 : ∀ w, (Instr.index 76 (.agg #[.int .i64 1, .int .i64 65535, .int .i64 0, .int .i64 131072, .int .i64 2, .int .i64 65535, .int .i64 0, .int .i64 131072, .int .i64 3, .int .i64 65535, .int .i64 1, .int .i64 131072, .int .i64 8, .int .i64 0, .int .i64 0, .int .i64 0]) (.int .i64 0)).run Tryd.prog w = .ok (.agg #[.int .i64 1, .int .i64 65535, .int .i64 0, .int .i64 131072]) w := fun _ => by kernel_rfl
  have i1 : ∀ w, (Instr.index 76 (.agg #[.int .i64 1, .int .i64 65535, .int .i64 0, .int .i64 131072, .int .i64 2, .int .i64 65535, .int .i64 0, .int .i64 131072, .int .i64 3, .int .i64 65535, .int .i64 1, .int .i64 131072, .int .i64 8, .int .i64 0, .int .i64 0, .int .i64 0]) (.int .i64 1)).run Tryd.prog w = .ok (.agg #[.int .i64 2, .int .i64 65535, .int .i64 0, .int .i64 131072]) w := fun _ => by kernel_rfl
  have i2 : ∀ w, (Instr.index 76 (.agg #[.int .i64 1, .int .i64 65535, .int .i64 0, .int .i64 131072, .int .i64 2, .int .i64 65535, .int .i64 0, .int .i64 131072, .int .i64 3, .int .i64 65535, .int .i64 1, .int .i64 131072, .int .i64 8, .int .i64 0, .int .i64 0, .int .i64 0]) (.int .i64 2)).run Tryd.prog w = .ok (.agg #[.int .i64 3, .int .i64 65535, .int .i64 1, .int .i64 131072]) w := fun _ => by kernel_rfl
  have i3 : ∀ w, (Instr.index 76 (.agg #[.int .i64 1, .int .i64 65535, .int .i64 0, .int .i64 131072, .int .i64 2, .int .i64 65535, .int .i64 0, .int .i64 131072, .int .i64 3, .int .i64 65535, .int .i64 1, .int .i64 131072, .int .i64 8, .int .i64 0, .int .i64 0, .int .i64 0]) (.int .i64 3)).run Tryd.prog w = .ok (.agg #[.int .i64 8, .int .i64 0, .int .i64 0, .int .i64 0]) w := fun _ => by kernel_rfl
  by_cases h1 : t = 1
  · subst h1
    go_enter Tryd.func35, Tryd.ntmps35
    go_wp2
    go_rounds 1
    refine bodyPost_ret (v := .tuple #[encK 1, .bool (kOk 1)]) ?_ rfl ⟨rfl, ?_⟩
    · rw [results_cell_tmp rfl]
      simp [asAddr, Result.andThen, go_sem, encK, kOk, kLast, kLeast, kMost]
    · exact (((Below.refl _ w).alloc (by simp) _).alloc (by simp) _)
  by_cases h2 : t = 2
  · subst h2
    go_enter Tryd.func35, Tryd.ntmps35
    go_wp2
    go_rounds 2
    refine bodyPost_ret (v := .tuple #[encK 2, .bool (kOk 2)]) ?_ rfl ⟨rfl, ?_⟩
    · rw [results_cell_tmp rfl]
      simp [asAddr, Result.andThen, go_sem, encK, kOk, kLast, kLeast, kMost]
    · exact ((((Below.refl _ w).alloc (by simp) _).alloc (by simp) _).alloc (by simp; omega) _)
  by_cases h3 : t = 3
  · subst h3
    go_enter Tryd.func35, Tryd.ntmps35
    go_wp2
    go_rounds 3
    refine bodyPost_ret (v := .tuple #[encK 3, .bool (kOk 3)]) ?_ rfl ⟨rfl, ?_⟩
    · rw [results_cell_tmp rfl]
      simp [asAddr, Result.andThen, go_sem, encK, kOk, kLast, kLeast, kMost]
    · exact (((((Below.refl _ w).alloc (by simp) _).alloc (by simp) _).alloc (by simp; omega) _).alloc (by simp; omega) _)
  by_cases h8 : t = 8
  · subst h8
    go_enter Tryd.func35, Tryd.ntmps35
    go_wp2
    go_rounds 4
    refine bodyPost_ret (v := .tuple #[encK 8, .bool (kOk 8)]) ?_ rfl ⟨rfl, ?_⟩
    · rw [results_cell_tmp rfl]
      simp [asAddr, Result.andThen, go_sem, encK, kOk, kLast, kLeast, kMost]
    · exact ((((((Below.refl _ w).alloc (by simp) _).alloc (by simp) _).alloc (by simp; omega) _).alloc (by simp; omega) _).alloc (by simp; omega) _)
  have t1 : (1 == t) = false := by simp; omega
  have t2 : (2 == t) = false := by simp; omega
  have t3 : (3 == t) = false := by simp; omega
  have t8 : (8 == t) = false := by simp; omega
  have H := Lib.hid (show encK t = .agg #[.int .i64 0, .int .i64 0, .int .i64 0, .int .i64 0] ∧ kOk t = false by simp [encK, kOk, kLast, kLeast, kMost, h1, h2, h3, h8])
  clear h1 h2 h3 h8
  go_enter Tryd.func35, Tryd.ntmps35
  go_wp2
  go_rounds 5
  refine bodyPost_ret (v := .tuple #[encK t, .bool (kOk t)]) ?_ rfl ⟨rfl, ?_⟩
  · rw [results_cell_tmp rfl, H.out.1, H.out.2]
    simp [asAddr, Result.andThen, go_sem]
  · exact ((((((Below.refl _ w).alloc (by simp) _).alloc (by simp) _).alloc (by simp; omega) _).alloc (by simp; omega) _).alloc (by simp; omega) _)
end Go.Proofs.YtjpijggbkiihhaaDoor
