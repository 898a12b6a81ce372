/-
  content.Feed refuses a frame of a type that isn't waited for; nothing that was there is changed. No condition.
-/
import Derived.Deep.RegionHeld3
import Derived.Deep.DeepCutAuto
import Derived.Test.YtllgkohgcicbhaaGreatDoorWStates
import Derived.Test.YtllgkohgcicbhaaGreatDoorWBegunM
import Derived.Test.YtllgkohgcicbhaaGreatDoorZB
namespace Go.Proofs.YtllgkohgcicbhaaGreatDoor
open Go.RowKit

theorem results_cctt {fn : Func} {p q t u : Tmp} {tp tq : TypeId} (h : fn.results = #[.cell p tp, .cell q tq, .tmp t, .tmp u]) (tmps : Array Value) (P : Program) (w : World) :
    (results fn tmps).run P w =
      ((asAddr (tmps.getD p undef)).run P w).andThen fun a w₁ => ((loadVar tp a).run P w₁).andThen fun x w₂ => ((asAddr (tmps.getD q undef)).run P w₂).andThen fun b w₃ => ((loadVar tq b).run P w₃).andThen fun y w₄ => .ok (.tuple #[x, y, tmps.getD t undef, tmps.getD u undef]) w₄ := by
  simp only [results, h]
  simp [Sem.run_bind, Result.andThen]
theorem Bx.nine {W : World} {B : Nat} {t : TypeId} {a b c d e f g h i : Value} (x : Bx W B t [a, b, c, d, e, f, g, h, i]) :
    W.cell? ⟨B, 0, none⟩ = some a ∧ W.cell? ⟨B, 1, none⟩ = some b ∧ W.cell? ⟨B, 2, none⟩ = some c ∧ W.cell? ⟨B, 3, none⟩ = some d ∧ W.cell? ⟨B, 4, none⟩ = some e ∧ W.cell? ⟨B, 5, none⟩ = some f ∧ W.cell? ⟨B, 6, none⟩ = some g ∧ W.cell? ⟨B, 7, none⟩ = some h ∧ W.cell? ⟨B, 8, none⟩ = some i :=
  ⟨x.cell 0 (by simp), x.cell 1 (by simp), x.cell 2 (by simp), x.cell 3 (by simp), x.cell 4 (by simp), x.cell 5 (by simp), x.cell 6 (by simp), x.cell 7 (by simp), x.cell 8 (by simp)⟩
def cellsAs (a : As) (A B : Option Addr) (ca cb : Nat) : List Value := [.int .i64 a.st, .int .i64 a.c.m.c, .int .i64 a.c.m.i, .slice A a.c.m.l.length ca, .int .i64 a.c.h.c, .int .u64 a.c.h.z, .int .u64 a.c.h.f, .slice B a.c.h.l.length cb, .string a.c.b]
/-- what Feed answers -/
def FdPost (r : Fd) (w : World) (e : Ending) (w' : World) : Prop := ∃ A B A' B' ca cb ca' cb', e = .returned (.tuple #[encAs r.a A B ca cb, encC r.c A' B' ca' cb', .bool r.b, .int .i64 r.e]) ∧ CmAt w' r.a.c A B ca cb ∧ CmAt w' r.c A' B' ca' cb' ∧ Below w.heap.size w w'

set_option maxRecDepth 100000 in
set_option maxHeartbeats 4000000 in
theorem feed_wrong (a : As) (A B : Option Addr) (ca cb : Nat) (t ch : Int) (d : ByteArray) (w : World) (hst : 0 ≤ a.st ∧ a.st ≤ 2) (ht : ¬ t = a.st + 1) :
    Calls Tryz.prog 8 #[encAs a A B ca cb, encFr ⟨t, ch, d⟩] w (FdPost (fNo 10) w) := by
  obtain ⟨W0, hW0⟩ : ∃ W0, W0 = (((w.alloc (.cells (cellsAs a A B ca cb).toArray 31)).alloc (.cells #[.int .i64 t, .int .i64 ch, .string d] 33)).alloc (.cells #[.int .i64 0, .int .i64 0, .int .i64 0, .slice none 0 0, .int .i64 0, .int .u64 0, .int .u64 0, .slice none 0 0, .string ⟨#[]⟩] 31)).alloc (.cells #[.int .i64 0, .int .i64 0, .slice none 0 0, .int .i64 0, .int .u64 0, .int .u64 0, .slice none 0 0, .string ⟨#[]⟩] 29) := ⟨_, rfl⟩
  have hb0 : Below w.heap.size w W0 := by rw [hW0]; exact ((((Below.refl _ w).alloc (Nat.le_refl _) _).alloc (by simp) _).alloc (by simp; omega) _).alloc (by simp; omega) _
  have hx : Bx W0 w.heap.size 31 (cellsAs a A B ca cb) := by rw [hW0]; exact (((Bx.new w 31 (cellsAs a A B ca cb)).alloc _).alloc _).alloc _
  have hf : Bx W0 (w.heap.size + 1) 33 [.int .i64 t, .int .i64 ch, .string d] := by
    have h := ((Bx.new (w.alloc (.cells (cellsAs a A B ca cb).toArray 31)) 33 [.int .i64 t, .int .i64 ch, .string d]).alloc (.cells #[.int .i64 0, .int .i64 0, .int .i64 0, .slice none 0 0, .int .i64 0, .int .u64 0, .int .u64 0, .slice none 0 0, .string ⟨#[]⟩] 31)).alloc (.cells #[.int .i64 0, .int .i64 0, .slice none 0 0, .int .i64 0, .int .u64 0, .int .u64 0, .slice none 0 0, .string ⟨#[]⟩] 29)
    rw [World.size_alloc] at h
    rw [hW0]; exact h
  have hr : Bx W0 (w.heap.size + 1 + 1) 31 [.int .i64 0, .int .i64 0, .int .i64 0, .slice none 0 0, .int .i64 0, .int .u64 0, .int .u64 0, .slice none 0 0, .string ⟨#[]⟩] := by
    have h := (Bx.new ((w.alloc (.cells (cellsAs a A B ca cb).toArray 31)).alloc (.cells #[.int .i64 t, .int .i64 ch, .string d] 33)) 31 [.int .i64 0, .int .i64 0, .int .i64 0, .slice none 0 0, .int .i64 0, .int .u64 0, .int .u64 0, .slice none 0 0, .string ⟨#[]⟩]).alloc (.cells #[.int .i64 0, .int .i64 0, .slice none 0 0, .int .i64 0, .int .u64 0, .int .u64 0, .slice none 0 0, .string ⟨#[]⟩] 29)
    rw [World.size_alloc, World.size_alloc] at h
    rw [hW0]; exact h
  have hq : Bx W0 (w.heap.size + 1 + 1 + 1) 29 [.int .i64 0, .int .i64 0, .slice none 0 0, .int .i64 0, .int .u64 0, .int .u64 0, .slice none 0 0, .string ⟨#[]⟩] := by
    have h := Bx.new (((w.alloc (.cells (cellsAs a A B ca cb).toArray 31)).alloc (.cells #[.int .i64 t, .int .i64 ch, .string d] 33)).alloc (.cells #[.int .i64 0, .int .i64 0, .int .i64 0, .slice none 0 0, .int .i64 0, .int .u64 0, .int .u64 0, .slice none 0 0, .string ⟨#[]⟩] 31)) 29 [.int .i64 0, .int .i64 0, .slice none 0 0, .int .i64 0, .int .u64 0, .int .u64 0, .slice none 0 0, .string ⟨#[]⟩]
    rw [World.size_alloc, World.size_alloc, World.size_alloc] at h
    rw [hW0]; exact h
  have hun := unexpected_any a.st t
  rw [unexp_in hst, show (t == a.st + 1) = false by simpa using ht] at hun
  have hdec : decide (0 ≤ a.st ∧ a.st ≤ 2) = true := decide_eq_true hst
  have hLk : ∀ W M, States W M → ∃ v, (Instr.lookup 62 (.map (some M)) (.int .i64 a.st) true).run Tryz.prog W = .ok (.tuple #[v, .bool true]) W ∧ v = .func (.func (stF a.st)) #[] #[] := fun W M h => by
    obtain ⟨v, h1, h2⟩ := h.look a.st ⟨by omega, by omega⟩
    rw [hdec] at h1
    exact ⟨v, h1, h2 hst⟩
  have hLk2 : ∀ W M, States W M → (Instr.lookup 62 (.map (some M)) (.int .i64 a.st) true).run Tryz.prog W = .ok (.tuple #[.func (.func (stF a.st)) #[] #[], .bool true]) W := fun W M h => by
    obtain ⟨v, h1, h2⟩ := hLk W M h
    rw [h1, h2]
  clear hLk hdec ht
  unfold FdPost
  have HE : Hid (fNo 10 = ⟨as0, cm0, false, 10⟩) := Lib.hid rfl
  generalize fNo 10 = fd at HE ⊢
  generalize stF a.st = sf at hLk2
  unfold encAs encFr
  unfold cellsAs at hx hW0
  clear hst
  obtain ⟨st, ⟨⟨mc, mi, ml⟩, ⟨hc', hz', hf', hl⟩, sb⟩⟩ := a
  dsimp only at *
  have hSt := states_any
  go_enter Tryz.func8, Tryz.ntmps8
  go_upto_region 1 with fail
  rw [← hW0]
  clear hW0
  have keep : ∀ w', Below W0.heap.size W0 w' → w'.cell? ⟨w.heap.size, 0, none⟩ = some (.int .i64 st) := fun w' h => (hx.kept h).nine.1
  have x0 := keep W0 (Below.refl _ _)
  go_cut [8, 9] (fun v o wx => o = .bool true ∧ Below W0.heap.size W0 wx)
  case first =>
    go_region_with (first | (go_at_call 19; refine (hSt _).mono ?_; rintro e w4 ⟨rfl, hM, hb4⟩; have k4 := hLk2 w4 W0.heap.size hM; have k5 := hLk2 w4.drew W0.heap.size hM; have k6 := hLk2 w4.drew.drew W0.heap.size hM; have z0 := keep w4 (Below.trans (by repeat (first | exact Below.refl _ _ | refine Below.drew ?_)) (hb4.mono (by simp)))))
    all_goals
      have hU : Below W0.heap.size W0 w4 := Below.trans (by repeat (first | exact Below.refl _ _ | refine Below.drew ?_)) (hb4.mono (by simp))
      go_wp2_with fail
      go_meet
      exact ⟨rfl, by repeat (first | exact hU | refine Below.drew ?_)⟩
  case rest =>
    obtain ⟨rfl, hbc⟩ := hcut
    have hB := hb0.trans (hbc.mono hb0.size)
    have hx2 := hx.kept hbc
    have hf2 := hf.kept hbc
    have hr2 := hr.kept hbc
    have hq2 := hq.kept hbc
    have y0 := hx2.nine.1
    have t0 := hf2.cell 0 (by simp)
    dsimp only [List.getElem_cons_zero] at t0
    clear hx hf hr hq hbc hb0 keep x0 hLk2 hSt
    go_wp2_with fail
    with_reducible refine (hun _).mono ?_
    rintro e w5 ⟨rfl, rfl⟩
    obtain ⟨a0, f0, a1, f1, a2, f2, a3, f3, a4, f4, a5, f5, a6, f6, a7, f7, a8, f8, bR⟩ := hr2.store9 (.int .i64 0) (.int .i64 0) (.int .i64 0) (.slice none 0 0) (.int .i64 0) (.int .u64 0) (.int .u64 0) (.slice none 0 0) (.string ⟨#[]⟩)
    have hq3 := (((((((((hq2.other (B' := w.heap.size + 1 + 1) (by omega) 0 (.int .i64 0)).other (B' := w.heap.size + 1 + 1) (by omega) 1 (.int .i64 0)).other (B' := w.heap.size + 1 + 1) (by omega) 2 (.int .i64 0)).other (B' := w.heap.size + 1 + 1) (by omega) 3 (.slice none 0 0)).other (B' := w.heap.size + 1 + 1) (by omega) 4 (.int .i64 0)).other (B' := w.heap.size + 1 + 1) (by omega) 5 (.int .u64 0)).other (B' := w.heap.size + 1 + 1) (by omega) 6 (.int .u64 0)).other (B' := w.heap.size + 1 + 1) (by omega) 7 (.slice none 0 0)).other (B' := w.heap.size + 1 + 1) (by omega) 8 (.string ⟨#[]⟩))
    obtain ⟨c0, g0, c1, g1, c2, g2, c3, g3, c4, g4, c5, g5, c6, g6, c7, g7, bQ⟩ := hq3.store8 (.int .i64 0) (.int .i64 0) (.slice none 0 0) (.int .i64 0) (.int .u64 0) (.int .u64 0) (.slice none 0 0) (.string ⟨#[]⟩)
    have bR2 := ((((((((bR.other (B' := w.heap.size + 1 + 1 + 1) (by omega) 0 (.int .i64 0)).other (B' := w.heap.size + 1 + 1 + 1) (by omega) 1 (.int .i64 0)).other (B' := w.heap.size + 1 + 1 + 1) (by omega) 2 (.slice none 0 0)).other (B' := w.heap.size + 1 + 1 + 1) (by omega) 3 (.int .i64 0)).other (B' := w.heap.size + 1 + 1 + 1) (by omega) 4 (.int .u64 0)).other (B' := w.heap.size + 1 + 1 + 1) (by omega) 5 (.int .u64 0)).other (B' := w.heap.size + 1 + 1 + 1) (by omega) 6 (.slice none 0 0)).other (B' := w.heap.size + 1 + 1 + 1) (by omega) 7 (.string ⟨#[]⟩))
    have hBz := below_store8 (below_store9 hB (B := w.heap.size + 1 + 1) (by omega) (.int .i64 0) (.int .i64 0) (.int .i64 0) (.slice none 0 0) (.int .i64 0) (.int .u64 0) (.int .u64 0) (.slice none 0 0) (.string ⟨#[]⟩)) (B := w.heap.size + 1 + 1 + 1) (by omega) (.int .i64 0) (.int .i64 0) (.slice none 0 0) (.int .i64 0) (.int .u64 0) (.int .u64 0) (.slice none 0 0) (.string ⟨#[]⟩)
    obtain ⟨q0, q1, q2, q3, q4, q5, q6, q7⟩ := bQ.eight
    obtain ⟨r0, r1, r2, r3, r4, r5, r6, r7, r8⟩ := bR2.nine
    clear hun y0 t0 hx2 hf2 hr2 hq2 bR hq3 bQ bR2 hB
    go_wp2
    refine bodyPost_ret (v := .tuple #[.agg #[.int .i64 0, .int .i64 0, .int .i64 0, .slice none 0 0, .int .i64 0, .int .u64 0, .int .u64 0, .slice none 0 0, .string ⟨#[]⟩], .agg #[.int .i64 0, .int .i64 0, .slice none 0 0, .int .i64 0, .int .u64 0, .int .u64 0, .slice none 0 0, .string ⟨#[]⟩], .bool false, .int .i64 10]) ?_ rfl ⟨none, none, none, none, 0, 0, 0, 0, by rw [HE.out]; rfl, by rw [HE.out]; exact cmAt0 _, by rw [HE.out]; exact cmAt0 _, hBz⟩
    rw [results_cctt rfl]
    simp [asAddr, Result.andThen, go_sem, q0, q1, q2, q3, q4, q5, q6, q7, r0, r1, r2, r3, r4, r5, r6, r7, r8]
end Go.Proofs.YtllgkohgcicbhaaGreatDoor
