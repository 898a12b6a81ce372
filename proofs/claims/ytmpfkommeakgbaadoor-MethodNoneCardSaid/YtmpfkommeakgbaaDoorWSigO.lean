/-
  sig.lookUp and Of answer what the table says of a class and an id; nothing that was there is changed. No condition.
-/
import Derived.Test.YtmpfkommeakgbaaDoorWFind
namespace Go.Proofs.YtmpfkommeakgbaaDoor
open Go.RowKit Go.Maps Go.Shelf

theorem mets_small : ∀ m ∈ mets, 0 ≤ m.i ∧ m.i ≤ 1000 ∧ 0 ≤ m.r ∧ m.r ≤ 1000 :=
  mets_all (q := fun m => decide (0 ≤ m.i ∧ m.i ≤ 1000 ∧ 0 ≤ m.r ∧ m.r ≤ 1000)) (fun m h => of_decide_eq_true h) (by kernel_rfl)

set_option maxRecDepth 100000 in
set_option maxHeartbeats 2000000 in
theorem lookUp_any (c i : Int) (w : World) :
    Calls Tryd.prog 28 #[.int .i64 c, .int .i64 i] w fun e w' => e = .returned (.tuple #[encMet (fst (isAt c i)), .bool (sIs c i)]) ∧ Below w.heap.size w w' := by
  have hmf : ∀ (p : Value) (w : World), (Instr.makeFunc (.func 40) #[] #[p]).run Tryd.prog w = .ok (.func (.func 40) #[] #[p]) w := fun _ _ => by kernel_rfl
  have HI := Lib.hid (show sIs c i = mets.any (isAt c i) from rfl)
  have h1 := Bx.new (w.alloc (.cells #[.int .i64 0, .int .i64 0, .string ⟨#[]⟩, .int .i64 0, .int .i64 0] 61)) 87 (at2 c i)
  have h2 := (Bx.new w 61 [.int .i64 0, .int .i64 0, .string ⟨#[]⟩, .int .i64 0, .int .i64 0]).alloc (.cells (at2 c i).toArray 87)
  have hb : Below w.heap.size w ((w.alloc (.cells #[.int .i64 0, .int .i64 0, .string ⟨#[]⟩, .int .i64 0, .int .i64 0] 61)).alloc (.cells (at2 c i).toArray 87)) := ((Below.refl _ w).alloc (Nat.le_refl _) _).alloc (by simp) _
  rw [World.size_alloc] at h1
  have hF := find_any (isAt c i) 40 (w.heap.size + 1) ((w.alloc (.cells #[.int .i64 0, .int .i64 0, .string ⟨#[]⟩, .int .i64 0, .int .i64 0] 61)).alloc (.cells (at2 c i).toArray 87)) (enters_of Tryd.func40 (by kernel_rfl) rfl) (fun m hm W hW => look1_any m c i _ W (h1.kept hW))
  clear h1
  rw [← HI.out] at hF
  generalize sIs c i = q at hF
  generalize fst (isAt c i) = m at hF
  obtain ⟨c1, j1, v, s, k1⟩ := m
  unfold encMet at hF ⊢
  unfold at2 at hF h2 hb
  dsimp only at hF h2 hb ⊢
  have hbs := hb.size
  go_enter Tryd.func28, Tryd.ntmps28
  go_wp2_with fail
  refine hF.mono ?_
  rintro e w1 ⟨rfl, hq⟩
  have p1 := h2.kept hq
  have hb2 := hb.trans (hq.mono hbs)
  obtain ⟨a0, f0, a1, f1, a2, f2, a3, f3, a4, f4, bR⟩ := p1.store5 (.int .i64 c1) (.int .i64 j1) (.string v) (.int .i64 s) (.int .i64 k1)
  have hb3 := below_store5 hb2 (B := w.heap.size) (by omega) (.int .i64 c1) (.int .i64 j1) (.string v) (.int .i64 s) (.int .i64 k1)
  clear hF h2 hb hq p1 hb2 hbs
  go_wp2
  have y0 := bR.cell 0 (by simp)
  have y1 := bR.cell 1 (by simp)
  have y2 := bR.cell 2 (by simp)
  have y3 := bR.cell 3 (by simp)
  have y4 := bR.cell 4 (by simp)
  dsimp only [List.getElem_cons_zero, List.getElem_cons_succ] at y0 y1 y2 y3 y4
  refine bodyPost_ret (v := .tuple #[.agg #[.int .i64 c1, .int .i64 j1, .string v, .int .i64 s, .int .i64 k1], .bool q]) ?_ rfl ⟨rfl, hb3⟩
  rw [results_cell_tmp rfl]
  simp [asAddr, Result.andThen, go_sem, y0, y1, y2, y3, y4]

set_option maxHeartbeats 2000000 in
theorem of_any (c i : Int) (w : World) :
    Calls Tryd.prog 22 #[.int .i64 c, .int .i64 i] w fun e w' => e = .returned (.tuple #[.string (sOf c i), .bool (sIs c i)]) ∧ Below w.heap.size w w' := by
  have hF := lookUp_any c i w
  have HI := Lib.hid (show sOf c i = (fst (isAt c i)).v from rfl)
  generalize sOf c i = o at HI
  generalize fst (isAt c i) = m at hF HI
  generalize sIs c i = q at hF
  obtain ⟨c1, j1, v, s, k1⟩ := m
  unfold encMet at hF
  dsimp only at hF HI
  go_enter Tryd.func22, Tryd.ntmps22
  go_wp2_with fail
  refine hF.mono ?_
  rintro e w1 ⟨rfl, hb⟩
  clear hF
  go_wp2
  go_ret2
  exact ⟨by rw [HI.out]; rfl, hb.alloc hb.size _⟩

end Go.Proofs.YtmpfkommeakgbaaDoor
