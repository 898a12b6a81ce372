/-
  sig.Content answers whether a content follows a method; nothing that was there is changed. Condition: the package's table of contents is as its text lays it.
-/
import Derived.Test.YtdgidbiolklneaaDoorJWSig
namespace Go.Proofs.YtdgidbiolklneaaDoor
open Go.RowKit

/-- the table of contents, cell by cell -/
def conL : List Int := [60, 40, 60, 50, 60, 60, 60, 71]
def Con (w : World) : Prop := ∀ i (h : i < 8), w.cell? ⟨0, i, none⟩ = some (.int .i64 (conL[i]'h))
theorem Con.below {w w' : World} (h : Con w) (hb : Below w.heap.size w w') : Con w' := by
  have hlt : 0 < w.heap.size := by
    rcases Nat.lt_or_ge 0 w.heap.size with k | k
    · exact k
    · have := h 0 (by decide); simp [World.cell?, Array.getElem?_eq_none k] at this
  exact fun i hi => (hb.cell (p := ⟨0, i, none⟩) hlt).trans (h i hi)
theorem belowMore {w W : World} (h : Below w.heap.size w W) (o : Obj) : Below w.heap.size w (W.alloc o) := h.alloc h.size o
theorem cont_is (c i : Int) : sCont c i = ((60 == c && 40 == i) || ((60 == c && 50 == i) || ((60 == c && 60 == i) || (60 == c && 71 == i)))) := by
  unfold sCont
  by_cases h : c = 60
  · subst h
    have e : ∀ n : Int, (i == n) = (n == i) := fun n => Bool.eq_iff_iff.2 (by simp only [beq_iff_eq]; exact ⟨fun h => h.symm, fun h => h.symm⟩)
    simp [e, Bool.or_assoc]
  · have h1 : (c == 60) = false := by simpa using h
    have h2 : ((60 : Int) == c) = false := by simpa using fun k => h k.symm
    simp [h1, h2]

set_option maxHeartbeats 2000000 in
theorem content_any (c i : Int) (w : World) (hk : Con w) :
    Calls Tryd.prog 18 #[.int .i64 c, .int .i64 i] w fun e w' => e = .returned (.bool (sCont c i)) ∧ Below w.heap.size w w' := by
  have hA : Con (w.alloc (.cells #[.int .i64 c, .int .i64 i] 79)) := hk.below ((Below.refl _ _).alloc (Nat.le_refl _) _)
  clear hk
  have c0 : (w.alloc (.cells #[.int .i64 c, .int .i64 i] 79)).cell? ⟨0, 0, none⟩ = some (.int .i64 60) := hA 0 (by decide)
  have c1 : (w.alloc (.cells #[.int .i64 c, .int .i64 i] 79)).cell? ⟨0, 1, none⟩ = some (.int .i64 40) := hA 1 (by decide)
  have c2 : (w.alloc (.cells #[.int .i64 c, .int .i64 i] 79)).cell? ⟨0, 2, none⟩ = some (.int .i64 60) := hA 2 (by decide)
  have c3 : (w.alloc (.cells #[.int .i64 c, .int .i64 i] 79)).cell? ⟨0, 3, none⟩ = some (.int .i64 50) := hA 3 (by decide)
  have c4 : (w.alloc (.cells #[.int .i64 c, .int .i64 i] 79)).cell? ⟨0, 4, none⟩ = some (.int .i64 60) := hA 4 (by decide)
  have c5 : (w.alloc (.cells #[.int .i64 c, .int .i64 i] 79)).cell? ⟨0, 5, none⟩ = some (.int .i64 60) := hA 5 (by decide)
  have c6 : (w.alloc (.cells #[.int .i64 c, .int .i64 i] 79)).cell? ⟨0, 6, none⟩ = some (.int .i64 60) := hA 6 (by decide)
  have c7 : (w.alloc (.cells #[.int .i64 c, .int .i64 i] 79)).cell? ⟨0, 7, none⟩ = some (.int .i64 71) := hA 7 (by decide)
  clear hA
  have i0 : ∀ w, (Instr.index 80 (.agg #[.int .i64 60, .int .i64 40, .int .i64 60, .int .i64 50, .int .i64 60, .int .i64 60, .int .i64 60, .int .i64 71]) (.int .i64 0)).run Tryd.prog w = .ok (.agg #[.int .i64 60, .int .i64 40]) w := fun _ => by kernel_rfl
  have i1 : ∀ w, (Instr.index 80 (.agg #[.int .i64 60, .int .i64 40, .int .i64 60, .int .i64 50, .int .i64 60, .int .i64 60, .int .i64 60, .int .i64 71]) (.int .i64 1)).run Tryd.prog w = .ok (.agg #[.int .i64 60, .int .i64 50]) w := fun _ => by kernel_rfl
  have i2 : ∀ w, (Instr.index 80 (.agg #[.int .i64 60, .int .i64 40, .int .i64 60, .int .i64 50, .int .i64 60, .int .i64 60, .int .i64 60, .int .i64 71]) (.int .i64 2)).run Tryd.prog w = .ok (.agg #[.int .i64 60, .int .i64 60]) w := fun _ => by kernel_rfl
  have i3 : ∀ w, (Instr.index 80 (.agg #[.int .i64 60, .int .i64 40, .int .i64 60, .int .i64 50, .int .i64 60, .int .i64 60, .int .i64 60, .int .i64 71]) (.int .i64 3)).run Tryd.prog w = .ok (.agg #[.int .i64 60, .int .i64 71]) w := fun _ => by kernel_rfl
  have E0 := eq2 60 40 c i
  have E1 := eq2 60 50 c i
  have E2 := eq2 60 60 c i
  have E3 := eq2 60 71 c i
  have HC := Lib.hid (cont_is c i)
  generalize sCont c i = q at HC
  generalize (60 == c && 40 == i) = q0 at E0 HC
  generalize (60 == c && 50 == i) = q1 at E1 HC
  generalize (60 == c && 60 == i) = q2 at E2 HC
  generalize (60 == c && 71 == i) = q3 at E3 HC
  go_enter Tryd.func18, Tryd.ntmps18
  go_wp2
  cases q0
  · cases q1
    · cases q2
      · cases q3
        · go_rounds 5
          go_ret
          exact ⟨by rw [HC.out]; rfl, belowMore (belowMore (belowMore (belowMore (belowMore (Below.refl _ w) _) _) _) _) _⟩
        · go_rounds 4
          go_ret
          exact ⟨by rw [HC.out]; rfl, belowMore (belowMore (belowMore (belowMore (belowMore (Below.refl _ w) _) _) _) _) _⟩
      · go_rounds 3
        go_ret
        exact ⟨by rw [HC.out]; rfl, belowMore (belowMore (belowMore (belowMore (Below.refl _ w) _) _) _) _⟩
    · go_rounds 2
      go_ret
      exact ⟨by rw [HC.out]; rfl, belowMore (belowMore (belowMore (Below.refl _ w) _) _) _⟩
  · go_rounds 1
    go_ret
    exact ⟨by rw [HC.out]; rfl, belowMore (belowMore (Below.refl _ w) _) _⟩
end Go.Proofs.YtdgidbiolklneaaDoor
