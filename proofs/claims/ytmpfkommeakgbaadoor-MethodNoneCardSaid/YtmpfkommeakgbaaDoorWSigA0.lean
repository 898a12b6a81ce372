/-
  A method's place, and the test by which a method is looked up; nothing that was there is changed. Condition: the place that is looked for stands in a box.
-/
import Derived.Deep.RegionHeld3
import Derived.Laws.StructEq
import Derived.Test.YtmpfkommeakgbaaDoorWMeths
import Derived.Test.YtmpfkommeakgbaaDoorJMem
namespace Go.Proofs.YtmpfkommeakgbaaDoor
open Go.RowKit

def at2 (c i : Int) : List Value := [.int .i64 c, .int .i64 i]
set_option maxHeartbeats 2000000 in
theorem at_any (m : Met) (w : World) :
    Calls Tryd.prog 41 #[encMet m] w fun e w' => e = .returned (.agg #[.int .i64 m.c, .int .i64 m.i]) ∧ Below w.heap.size w w' := by
  obtain ⟨c, i, v, s, r⟩ := m
  unfold encMet
  dsimp only
  go_enter Tryd.func41, Tryd.ntmps41
  go_wp2
  refine bodyPost_ret (v := .agg #[.int .i64 c, .int .i64 i]) ?_ rfl ⟨rfl, ?_⟩
  · rw [results_cell rfl]
    simp [asAddr, Result.andThen, go_sem]
  · exact (((Below.refl _ w).alloc (Nat.le_refl _) _).alloc (by simp) _)

theorem eq2 (a b c d : Int) (w : World) : (Op.equalIn 10000 87 (.agg #[.int .i64 a, .int .i64 b]) (.agg #[.int .i64 c, .int .i64 d])).run Tryd.prog w = .ok (a == c && b == d) w := by
  have u3 := Tryd.underlying3
  have a3 := Tryd.isAgg3
  have z3 := Tryd.sizeOf3
  rw [show (10000 : Nat) = 9999 + 1 from rfl, Op.equalIn]
  simp only [Sem.run_bind, run_underlying Tryd.underlying87, Result.andThen_ok]
  simp only [Std.Legacy.Range.forIn_eq_forIn_range', Std.Legacy.Range.size, Nat.sub_zero, Nat.add_sub_cancel, Nat.div_one, List.range'_succ, List.range'_zero, List.forIn_cons, List.forIn_nil]
  go_simp
  by_cases h1 : a = c <;> by_cases h2 : b = d <;> simp [h1, h2]

set_option maxHeartbeats 2000000 in
theorem look1_any (m : Met) (c i : Int) (B : Nat) (w : World) (hB : Bx w B 87 (at2 c i)) :
    Calls Tryd.prog 40 #[encMet m, .pointer (some ⟨B, 0, none⟩)] w fun e w' => e = .returned (.bool (isAt c i m)) ∧ Below w.heap.size w w' := by
  have hA := at_any m
  have hE : ∀ w, (Op.equalIn 10000 87 (.agg #[.int .i64 m.c, .int .i64 m.i]) (.agg #[.int .i64 c, .int .i64 i])).run Tryd.prog w = .ok (isAt c i m) w := fun w => eq2 _ _ _ _ w
  have h1 := hB.alloc (.cells (cellsMet m).toArray 61)
  have h2 := Bx.new w 61 (cellsMet m)
  have hb : Below w.heap.size w (w.alloc (.cells (cellsMet m).toArray 61)) := (Below.refl _ w).alloc (Nat.le_refl _) _
  generalize isAt c i m = q at hE
  obtain ⟨c1, i1, v, s, r⟩ := m
  unfold encMet at hA ⊢
  unfold cellsMet at h1 h2 hb
  dsimp only at hA hE h1 h2 hb ⊢
  go_enter Tryd.func40, Tryd.ntmps40
  go_wp2_with fail
  generalize w.alloc (.cells #[.int .i64 c1, .int .i64 i1, .string v, .int .i64 s, .int .i64 r] 61) = w9 at h1 h2 hb
  have keep : ∀ w', Below w9.heap.size w9 w' → w'.cell? ⟨w.heap.size, 0, none⟩ = some (.int .i64 c1) ∧ w'.cell? ⟨w.heap.size, 1, none⟩ = some (.int .i64 i1) ∧ w'.cell? ⟨w.heap.size, 2, none⟩ = some (.string v) ∧ w'.cell? ⟨w.heap.size, 3, none⟩ = some (.int .i64 s) ∧ w'.cell? ⟨w.heap.size, 4, none⟩ = some (.int .i64 r) ∧ w'.cell? ⟨B, 0, none⟩ = some (.int .i64 c) ∧ w'.cell? ⟨B, 1, none⟩ = some (.int .i64 i) := fun w' h => ⟨(h2.kept h).cell 0 (by simp), (h2.kept h).cell 1 (by simp), (h2.kept h).cell 2 (by simp), (h2.kept h).cell 3 (by simp), (h2.kept h).cell 4 (by simp), (h1.kept h).cell 0 (by simp [at2]), (h1.kept h).cell 1 (by simp [at2])⟩
  obtain ⟨x0, x1, x2, x3, x4, y0, y1⟩ := keep w9 (Below.refl _ _)
  have hbs := hb.size
  clear h1 h2 hB
  go_region_held3 (fun w' => w'.cell? ⟨w.heap.size, 0, none⟩ = some (.int .i64 c1) ∧ w'.cell? ⟨w.heap.size, 1, none⟩ = some (.int .i64 i1) ∧ w'.cell? ⟨w.heap.size, 2, none⟩ = some (.string v) ∧ w'.cell? ⟨w.heap.size, 3, none⟩ = some (.int .i64 s) ∧ w'.cell? ⟨w.heap.size, 4, none⟩ = some (.int .i64 r) ∧ w'.cell? ⟨B, 0, none⟩ = some (.int .i64 c) ∧ w'.cell? ⟨B, 1, none⟩ = some (.int .i64 i)) (first | go_keep | (exact keep _ ⟨hq.os, hq.tape, hq.output, hq.size, hq.block⟩)) (first | (go_at_call 41; refine (hA _).mono ?_; rintro e w10 ⟨rfl, hq⟩))
  have hf : Below w9.heap.size w9 w10 := ⟨hq.os, hq.tape, hq.output, hq.size, hq.block⟩
  go_wp2
  go_ret
  exact ⟨rfl, hb.trans (hf.mono hbs)⟩

end Go.Proofs.YtmpfkommeakgbaaDoor
