/-
  content.Feed takes a frame that holds a piece of a body; nothing that was there is changed. Conditions: the tables of widths and of contents are as their texts lay them; the values lie in old memory, of at most 2^47 bytes; bytes of fewer than 2^62.
-/
import Derived.Deep.RegionHeld3
import Derived.Deep.DeepCutAuto
import Derived.Test.YtllgkohgcicbhaaGreatDoorWFeedW
import Derived.Test.YtllgkohgcicbhaaGreatDoorWFeed0
import Derived.Test.YtllgkohgcicbhaaGreatDoorWBegunB
namespace Go.Proofs.YtllgkohgcicbhaaGreatDoor
open Go.RowKit

set_option maxRecDepth 100000 in
set_option maxHeartbeats 4000000 in
theorem feed_at2 (c : Cm) (A B : Option Addr) (ca cb : Nat) (ch : Int) (d : ByteArray) (w : World) (hc : CmAt w c A B ca cb) (hl : c.m.l.length * 24 ≤ 140737488355328) (hl2 : c.h.l.length * 24 ≤ 140737488355328) (hd : c.b.size + d.size < 4611686018427387904) :
    Calls Tryz.prog 8 #[encAs ⟨2, c⟩ A B ca cb, encFr ⟨3, ch, d⟩] w (FdPost (feedB c d) w) := by
  obtain ⟨W0, hW0⟩ : ∃ W0, W0 = (((w.alloc (.cells (cellsAs ⟨2, c⟩ A B ca cb).toArray 31)).alloc (.cells #[.int .i64 3, .int .i64 ch, .string d] 33)).alloc (.cells #[.int .i64 0, .int .i64 0, .int .i64 0, .slice none 0 0, .int .i64 0, .int .u64 0, .int .u64 0, .slice none 0 0, .string ⟨#[]⟩] 31)).alloc (.cells #[.int .i64 0, .int .i64 0, .slice none 0 0, .int .i64 0, .int .u64 0, .int .u64 0, .slice none 0 0, .string ⟨#[]⟩] 29) := ⟨_, rfl⟩
  have hb0 : Below w.heap.size w W0 := by rw [hW0]; exact ((((Below.refl _ w).alloc (Nat.le_refl _) _).alloc (by simp) _).alloc (by simp; omega) _).alloc (by simp; omega) _
  have hx : Bx W0 w.heap.size 31 (cellsAs ⟨2, c⟩ A B ca cb) := by rw [hW0]; exact (((Bx.new w 31 (cellsAs ⟨2, c⟩ A B ca cb)).alloc _).alloc _).alloc _
  have hf : Bx W0 (w.heap.size + 1) 33 [.int .i64 3, .int .i64 ch, .string d] := by
    have h := ((Bx.new (w.alloc (.cells (cellsAs ⟨2, c⟩ A B ca cb).toArray 31)) 33 [.int .i64 3, .int .i64 ch, .string d]).alloc (.cells #[.int .i64 0, .int .i64 0, .int .i64 0, .slice none 0 0, .int .i64 0, .int .u64 0, .int .u64 0, .slice none 0 0, .string ⟨#[]⟩] 31)).alloc (.cells #[.int .i64 0, .int .i64 0, .slice none 0 0, .int .i64 0, .int .u64 0, .int .u64 0, .slice none 0 0, .string ⟨#[]⟩] 29)
    rw [World.size_alloc] at h
    rw [hW0]; exact h
  have hr : Bx W0 (w.heap.size + 1 + 1) 31 [.int .i64 0, .int .i64 0, .int .i64 0, .slice none 0 0, .int .i64 0, .int .u64 0, .int .u64 0, .slice none 0 0, .string ⟨#[]⟩] := by
    have h := (Bx.new ((w.alloc (.cells (cellsAs ⟨2, c⟩ A B ca cb).toArray 31)).alloc (.cells #[.int .i64 3, .int .i64 ch, .string d] 33)) 31 [.int .i64 0, .int .i64 0, .int .i64 0, .slice none 0 0, .int .i64 0, .int .u64 0, .int .u64 0, .slice none 0 0, .string ⟨#[]⟩]).alloc (.cells #[.int .i64 0, .int .i64 0, .slice none 0 0, .int .i64 0, .int .u64 0, .int .u64 0, .slice none 0 0, .string ⟨#[]⟩] 29)
    rw [World.size_alloc, World.size_alloc] at h
    rw [hW0]; exact h
  have hq : Bx W0 (w.heap.size + 1 + 1 + 1) 29 [.int .i64 0, .int .i64 0, .slice none 0 0, .int .i64 0, .int .u64 0, .int .u64 0, .slice none 0 0, .string ⟨#[]⟩] := by
    have h := Bx.new (((w.alloc (.cells (cellsAs ⟨2, c⟩ A B ca cb).toArray 31)).alloc (.cells #[.int .i64 3, .int .i64 ch, .string d] 33)).alloc (.cells #[.int .i64 0, .int .i64 0, .int .i64 0, .slice none 0 0, .int .i64 0, .int .u64 0, .int .u64 0, .slice none 0 0, .string ⟨#[]⟩] 31)) 29 [.int .i64 0, .int .i64 0, .slice none 0 0, .int .i64 0, .int .u64 0, .int .u64 0, .slice none 0 0, .string ⟨#[]⟩]
    rw [World.size_alloc, World.size_alloc, World.size_alloc] at h
    rw [hW0]; exact h
  have hun := unexpected_any 2 3
  rw [show unexp 2 3 = false from rfl] at hun
  have hLk2 : ∀ W M, States W M → (Instr.lookup 62 (.map (some M)) (.int .i64 2) true).run Tryz.prog W = .ok (.tuple #[.func (.func 40) #[] #[], .bool true]) W := fun W M h => by
    obtain ⟨v, h1, h2⟩ := h.look 2 ⟨by decide, by decide⟩
    rw [show decide ((0 : Int) ≤ 2 ∧ (2 : Int) ≤ 2) = true from rfl] at h1
    rw [h1, h2 ⟨by decide, by decide⟩]
    rfl
  have hC := fun W (h : Below w.heap.size w W) => withBody_any c A B ca cb d W (hc.below h) hl hl2 hd
  have HFF := formB c d
  unfold FdPost
  unfold BgPost at hC
  generalize feedB c d = fd at hC HFF ⊢
  unfold encAs encFr
  unfold cellsAs at hx hW0
  unfold encC at hC ⊢
  clear hc hl hl2 hd
  obtain ⟨⟨mc, mi, ml⟩, ⟨hc', hz', hf', hl⟩, sb⟩ := c
  dsimp only at *
  have hSt := states_any
  go_enter Tryz.func8, Tryz.ntmps8
  go_upto_region 1 with fail
  rw [← hW0]
  clear hW0
  have keep : ∀ w', Below W0.heap.size W0 w' → w'.cell? ⟨w.heap.size, 0, none⟩ = some (.int .i64 2) := fun w' h => (hx.kept h).nine.1
  have x0 := keep W0 (Below.refl _ _)
  go_cut [8, 9] (fun v o wx => v = .func (.func 40) #[] #[] ∧ o = .bool true ∧ Below W0.heap.size W0 wx)
  case first =>
    clear hC HFF hun
    go_region_with (first | (go_at_call 19; refine (hSt _).mono ?_; rintro e w4 ⟨rfl, hM, hb4⟩; have k4 := hLk2 w4 W0.heap.size hM; have k5 := hLk2 w4.drew W0.heap.size hM; have k6 := hLk2 w4.drew.drew W0.heap.size hM; have z0 := keep w4 (Below.trans (by repeat (first | exact Below.refl _ _ | refine Below.drew ?_)) (hb4.mono (by simp)))))
    all_goals
      have hU : Below W0.heap.size W0 w4 := Below.trans (by repeat (first | exact Below.refl _ _ | refine Below.drew ?_)) (hb4.mono (by simp))
      go_wp2_with fail
      go_meet
      exact ⟨rfl, rfl, by repeat (first | exact hU | refine Below.drew ?_)⟩
  case rest =>
    obtain ⟨rfl, rfl, hbc⟩ := hcut
    have hB := hb0.trans (hbc.mono hb0.size)
    have hx2 := hx.kept hbc
    have hf2 := hf.kept hbc
    have hr2 := hr.kept hbc
    have hq2 := hq.kept hbc
    obtain ⟨y0, y1, y2, y3, y4, y5, y6, y7, y8⟩ := hx2.nine
    have t0 := hf2.cell 0 (by simp)
    have t2 := hf2.cell 2 (by simp)
    dsimp only [List.getElem_cons_zero, List.getElem_cons_succ] at t0 t2
    have hlt := hq2.lt
    clear hx hf hr hq hbc hb0 keep x0 hLk2 hSt hx2 hf2
    go_wp2_with fail
    with_reducible refine (hun _).mono ?_
    rintro e w5 ⟨rfl, rfl⟩
    go_wp2_with fail
    with_reducible refine (hC _ hB).mono ?_
    rintro e w6 ⟨A1, B1, c1, c2, rfl, hcm, hb6⟩
    have hB6 := hB.trans (hb6.mono hB.size)
    have hr6 := hr2.kept hb6
    have hq6 := hq2.kept hb6
    have hlt6 := hq6.lt
    clear hun hC hb6 hB hr2 hq2 y0 y1 y2 y3 y4 y5 y6 y7 y8 t0 t2 hlt
    rcases HFF with ⟨er, he, hfd⟩ | ⟨c, hfd⟩ | ⟨c, hfd⟩
    · have HE := Lib.hid hfd
      have e1 : bgC fd = cm0 := by rw [hfd]; rfl
      have e2 : fd.a.st = 0 := by rw [hfd]; rfl
      have e3 : fd.e = er := by rw [hfd]; rfl
      rw [e1] at hcm
      rw [e1, e2, e3]
      clear e1 e2 e3 hfd
      clear hcm
      dsimp only [cm0, noH, List.length_nil]
      obtain ⟨W6, hW6⟩ : ∃ W6, W6 = w6.alloc (.cells #[.int .i64 0, .int .i64 0, .slice A1 0 c1, .int .i64 0, .int .u64 0, .int .u64 0, .slice B1 0 c2, .string ⟨#[]⟩] 29) := ⟨_, rfl⟩
      have hb7 : Below w6.heap.size w6 W6 := by rw [hW6]; exact (Below.refl _ w6).alloc (Nat.le_refl _) _
      have hB7 := hB6.trans (hb7.mono hB6.size)
      have hr7 := hr6.kept hb7
      have hq7 := hq6.kept hb7
      have hn7 : Bx W6 w6.heap.size 29 [.int .i64 0, .int .i64 0, .slice A1 0 c1, .int .i64 0, .int .u64 0, .int .u64 0, .slice B1 0 c2, .string ⟨#[]⟩] := by rw [hW6]; exact Bx.new w6 _ _
      have tt : (er != 0) = true := by simpa using he
      clear he
      go_upto_region 8 with fail
      rw [← hW6]
      clear hW6
      obtain ⟨a0, f0, a1, f1, a2, f2, a3, f3, a4, f4, a5, f5, a6, f6, a7, f7, a8, f8, bR⟩ := (hr7).store9 (.int .i64 0) (.int .i64 0) (.int .i64 0) (.slice none 0 0) (.int .i64 0) (.int .u64 0) (.int .u64 0) (.slice none 0 0) (.string ⟨#[]⟩)
      have hq3 := (((((((((hq7.other (B' := w.heap.size + 1 + 1) (by omega) 0 (.int .i64 0)).other (B' := w.heap.size + 1 + 1) (by omega) 1 (.int .i64 0)).other (B' := w.heap.size + 1 + 1) (by omega) 2 (.int .i64 0)).other (B' := w.heap.size + 1 + 1) (by omega) 3 (.slice none 0 0)).other (B' := w.heap.size + 1 + 1) (by omega) 4 (.int .i64 0)).other (B' := w.heap.size + 1 + 1) (by omega) 5 (.int .u64 0)).other (B' := w.heap.size + 1 + 1) (by omega) 6 (.int .u64 0)).other (B' := w.heap.size + 1 + 1) (by omega) 7 (.slice none 0 0)).other (B' := w.heap.size + 1 + 1) (by omega) 8 (.string ⟨#[]⟩))
      obtain ⟨k0, g0, k1, g1, k2, g2, k3, g3, k4, g4, k5, g5, k6, g6, k7, g7, bQ⟩ := hq3.store8 (.int .i64 0) (.int .i64 0) (.slice none 0 0) (.int .i64 0) (.int .u64 0) (.int .u64 0) (.slice none 0 0) (.string ⟨#[]⟩)
      have bR2 := ((((((((bR.other (B' := w.heap.size + 1 + 1 + 1) (by omega) 0 (.int .i64 0)).other (B' := w.heap.size + 1 + 1 + 1) (by omega) 1 (.int .i64 0)).other (B' := w.heap.size + 1 + 1 + 1) (by omega) 2 (.slice none 0 0)).other (B' := w.heap.size + 1 + 1 + 1) (by omega) 3 (.int .i64 0)).other (B' := w.heap.size + 1 + 1 + 1) (by omega) 4 (.int .u64 0)).other (B' := w.heap.size + 1 + 1 + 1) (by omega) 5 (.int .u64 0)).other (B' := w.heap.size + 1 + 1 + 1) (by omega) 6 (.slice none 0 0)).other (B' := w.heap.size + 1 + 1 + 1) (by omega) 7 (.string ⟨#[]⟩))
      have hBy := below_store9 hB7 (B := w.heap.size + 1 + 1) (by omega) (.int .i64 0) (.int .i64 0) (.int .i64 0) (.slice none 0 0) (.int .i64 0) (.int .u64 0) (.int .u64 0) (.slice none 0 0) (.string ⟨#[]⟩)
      have hBz := below_store8 hBy (B := w.heap.size + 1 + 1 + 1) (by omega) (.int .i64 0) (.int .i64 0) (.slice none 0 0) (.int .i64 0) (.int .u64 0) (.int .u64 0) (.slice none 0 0) (.string ⟨#[]⟩)
      obtain ⟨q0, q1, q2, q3, q4, q5, q6, q7⟩ := bQ.eight
      obtain ⟨r0, r1, r2, r3, r4, r5, r6, r7, r8⟩ := bR2.nine
      clear hr7 hq7 hn7 hq3 bR bQ bR2 hBy hB7 hB6 hr6 hq6 hb7
      go_wp2
      refine bodyPost_ret (v := .tuple #[.agg #[.int .i64 0, .int .i64 0, .int .i64 0, .slice none 0 0, .int .i64 0, .int .u64 0, .int .u64 0, .slice none 0 0, .string ⟨#[]⟩], .agg #[.int .i64 0, .int .i64 0, .slice none 0 0, .int .i64 0, .int .u64 0, .int .u64 0, .slice none 0 0, .string ⟨#[]⟩], .bool false, .int .i64 er]) ?_ rfl ⟨none, none, none, none, 0, 0, 0, 0, by rw [HE.out]; rfl, by rw [HE.out]; exact cmAt0 _, by rw [HE.out]; exact cmAt0 _, hBz⟩
      rw [results_cctt rfl]
      simp [asAddr, Result.andThen, go_sem, q0, q1, q2, q3, q4, q5, q6, q7, r0, r1, r2, r3, r4, r5, r6, r7, r8]
    · have HE := Lib.hid hfd
      have e1 : bgC fd = c := by rw [hfd]; rfl
      have e2 : fd.a.st = 0 := by rw [hfd]; rfl
      have e3 : fd.e = 0 := by rw [hfd]; rfl
      rw [e1] at hcm
      rw [e1, e2, e3]
      clear e1 e2 e3 hfd
      have va := hcm.va
      have vb := hcm.vb
      have HNA := Lib.hid hcm.na
      have HNB := Lib.hid hcm.nb
      clear hcm
      obtain ⟨⟨xc, xi, xl⟩, ⟨yc, yz, yf, yl⟩, xb⟩ := c
      dsimp only at *
      obtain ⟨W6, hW6⟩ : ∃ W6, W6 = w6.alloc (.cells #[.int .i64 xc, .int .i64 xi, .slice A1 xl.length c1, .int .i64 yc, .int .u64 yz, .int .u64 yf, .slice B1 yl.length c2, .string xb] 29) := ⟨_, rfl⟩
      have hb7 : Below w6.heap.size w6 W6 := by rw [hW6]; exact (Below.refl _ w6).alloc (Nat.le_refl _) _
      have hB7 := hB6.trans (hb7.mono hB6.size)
      have hr7 := hr6.kept hb7
      have hq7 := hq6.kept hb7
      have hn7 : Bx W6 w6.heap.size 29 [.int .i64 xc, .int .i64 xi, .slice A1 xl.length c1, .int .i64 yc, .int .u64 yz, .int .u64 yf, .slice B1 yl.length c2, .string xb] := by rw [hW6]; exact Bx.new w6 _ _
      go_upto_region 10 with fail
      rw [← hW6]
      clear hW6
      have va7 := va.below hb7
      have vb7 := vb.below hb7
      have bR := (hr7.store9 (.int .i64 0) (.int .i64 0) (.int .i64 0) (.slice none 0 0) (.int .i64 0) (.int .u64 0) (.int .u64 0) (.slice none 0 0) (.string ⟨#[]⟩)).2.2.2.2.2.2.2.2.2.2.2.2.2.2.2.2.2.2
      have hq3 := (((((((((hq7.other (B' := w.heap.size + 1 + 1) (by omega) 0 (.int .i64 0)).other (B' := w.heap.size + 1 + 1) (by omega) 1 (.int .i64 0)).other (B' := w.heap.size + 1 + 1) (by omega) 2 (.int .i64 0)).other (B' := w.heap.size + 1 + 1) (by omega) 3 (.slice none 0 0)).other (B' := w.heap.size + 1 + 1) (by omega) 4 (.int .i64 0)).other (B' := w.heap.size + 1 + 1) (by omega) 5 (.int .u64 0)).other (B' := w.heap.size + 1 + 1) (by omega) 6 (.int .u64 0)).other (B' := w.heap.size + 1 + 1) (by omega) 7 (.slice none 0 0)).other (B' := w.heap.size + 1 + 1) (by omega) 8 (.string ⟨#[]⟩))
      have bQ := (hq3.store8 (.int .i64 xc) (.int .i64 xi) (.slice A1 xl.length c1) (.int .i64 yc) (.int .u64 yz) (.int .u64 yf) (.slice B1 yl.length c2) (.string xb)).2.2.2.2.2.2.2.2.2.2.2.2.2.2.2.2
      have bR2 := ((((((((bR.other (B' := w.heap.size + 1 + 1 + 1) (by omega) 0 (.int .i64 xc)).other (B' := w.heap.size + 1 + 1 + 1) (by omega) 1 (.int .i64 xi)).other (B' := w.heap.size + 1 + 1 + 1) (by omega) 2 (.slice A1 xl.length c1)).other (B' := w.heap.size + 1 + 1 + 1) (by omega) 3 (.int .i64 yc)).other (B' := w.heap.size + 1 + 1 + 1) (by omega) 4 (.int .u64 yz)).other (B' := w.heap.size + 1 + 1 + 1) (by omega) 5 (.int .u64 yf)).other (B' := w.heap.size + 1 + 1 + 1) (by omega) 6 (.slice B1 yl.length c2)).other (B' := w.heap.size + 1 + 1 + 1) (by omega) 7 (.string xb))
      have hBz := below_store8 (below_store9 hB7 (B := w.heap.size + 1 + 1) (by omega) (.int .i64 0) (.int .i64 0) (.int .i64 0) (.slice none 0 0) (.int .i64 0) (.int .u64 0) (.int .u64 0) (.slice none 0 0) (.string ⟨#[]⟩)) (B := w.heap.size + 1 + 1 + 1) (by omega) (.int .i64 xc) (.int .i64 xi) (.slice A1 xl.length c1) (.int .i64 yc) (.int .u64 yz) (.int .u64 yf) (.slice B1 yl.length c2) (.string xb)
      have hva := vals_store8 hq3 noVal_zero8 (vals_store9 hr7 noVal_zero9 va7 (.int .i64 0) (.int .i64 0) (.int .i64 0) (.slice none 0 0) (.int .i64 0) (.int .u64 0) (.int .u64 0) (.slice none 0 0) (.string ⟨#[]⟩)) (.int .i64 xc) (.int .i64 xi) (.slice A1 xl.length c1) (.int .i64 yc) (.int .u64 yz) (.int .u64 yf) (.slice B1 yl.length c2) (.string xb)
      have hvb := vals_store8 hq3 noVal_zero8 (vals_store9 hr7 noVal_zero9 vb7 (.int .i64 0) (.int .i64 0) (.int .i64 0) (.slice none 0 0) (.int .i64 0) (.int .u64 0) (.int .u64 0) (.slice none 0 0) (.string ⟨#[]⟩)) (.int .i64 xc) (.int .i64 xi) (.slice A1 xl.length c1) (.int .i64 yc) (.int .u64 yz) (.int .u64 yf) (.slice B1 yl.length c2) (.string xb)
      obtain ⟨W9, hW9⟩ : ∃ W9, W9 = (((((((((((((((((W6.setCell ⟨w.heap.size + 1 + 1, 0, none⟩ (.int .i64 0)).setCell ⟨w.heap.size + 1 + 1, 1, none⟩ (.int .i64 0)).setCell ⟨w.heap.size + 1 + 1, 2, none⟩ (.int .i64 0)).setCell ⟨w.heap.size + 1 + 1, 3, none⟩ (.slice none 0 0)).setCell ⟨w.heap.size + 1 + 1, 4, none⟩ (.int .i64 0)).setCell ⟨w.heap.size + 1 + 1, 5, none⟩ (.int .u64 0)).setCell ⟨w.heap.size + 1 + 1, 6, none⟩ (.int .u64 0)).setCell ⟨w.heap.size + 1 + 1, 7, none⟩ (.slice none 0 0)).setCell ⟨w.heap.size + 1 + 1, 8, none⟩ (.string ⟨#[]⟩)).setCell ⟨w.heap.size + 1 + 1 + 1, 0, none⟩ (.int .i64 xc)).setCell ⟨w.heap.size + 1 + 1 + 1, 1, none⟩ (.int .i64 xi)).setCell ⟨w.heap.size + 1 + 1 + 1, 2, none⟩ (.slice A1 xl.length c1)).setCell ⟨w.heap.size + 1 + 1 + 1, 3, none⟩ (.int .i64 yc)).setCell ⟨w.heap.size + 1 + 1 + 1, 4, none⟩ (.int .u64 yz)).setCell ⟨w.heap.size + 1 + 1 + 1, 5, none⟩ (.int .u64 yf)).setCell ⟨w.heap.size + 1 + 1 + 1, 6, none⟩ (.slice B1 yl.length c2)).setCell ⟨w.heap.size + 1 + 1 + 1, 7, none⟩ (.string xb)) := ⟨_, rfl⟩
      rw [← hW9] at bQ bR2 hBz hva hvb
      have HW9 := Lib.hid hW9
      have HQ : Hid (Bx W9.drew (w.heap.size + 1 + 1 + 1) 29 [.int .i64 xc, .int .i64 xi, .slice A1 xl.length c1, .int .i64 yc, .int .u64 yz, .int .u64 yf, .slice B1 yl.length c2, .string xb]) := Lib.hid bQ
      have HR : Hid (Bx W9.drew (w.heap.size + 1 + 1) 31 [.int .i64 0, .int .i64 0, .int .i64 0, .slice none 0 0, .int .i64 0, .int .u64 0, .int .u64 0, .slice none 0 0, .string ⟨#[]⟩]) := Lib.hid bR2
      have hBz := hBz.drew
      have hva := hva.below (Below.refl _ W9).drew
      have hvb := hvb.below (Below.refl _ W9).drew
      have HVA := Lib.hid hva
      have HVB := Lib.hid hvb
      obtain ⟨a0, a1, a2, a3, a4, a5, a6, a7, a8⟩ := hr7.nine
      obtain ⟨k0, k1, k2, k3, k4, k5, k6, k7⟩ := hq7.eight
      obtain ⟨m0, m1, m2, m3, m4, m5, m6, m7⟩ := hn7.eight
      have f0 := hr7.frozen 0
      have f1 := hr7.frozen 1
      have f2 := hr7.frozen 2
      have f3 := hr7.frozen 3
      have f4 := hr7.frozen 4
      have f5 := hr7.frozen 5
      have f6 := hr7.frozen 6
      have f7 := hr7.frozen 7
      have f8 := hr7.frozen 8
      have g0 := hq7.frozen 0
      have g1 := hq7.frozen 1
      have g2 := hq7.frozen 2
      have g3 := hq7.frozen 3
      have g4 := hq7.frozen 4
      have g5 := hq7.frozen 5
      have g6 := hq7.frozen 6
      have g7 := hq7.frozen 7
      have ne1 : ¬ (w6.heap.size = w.heap.size + 1 + 1) := by omega
      have ne2 : ¬ (w.heap.size + 1 + 1 = w6.heap.size) := by omega
      clear hr7 hq7 hn7 hq3 bR bQ bR2 hB7 hB6 hr6 hq6 hb7 va vb va7 vb7 hW9 hva hvb
      go_region
      rw [← HW9.out]
      clear a0 f0 a1 f1 a2 f2 a3 f3 a4 f4 a5 f5 a6 f6 a7 f7 a8 f8 k0 g0 m0 k1 g1 m1 k2 g2 m2 k3 g3 m3 k4 g4 m4 k5 g5 m5 k6 g6 m6 k7 g7 m7 ne1 ne2
      obtain ⟨q0, q1, q2, q3, q4, q5, q6, q7⟩ := HQ.out.eight
      obtain ⟨r0, r1, r2, r3, r4, r5, r6, r7, r8⟩ := HR.out.nine
      go_wp2
      refine bodyPost_ret (v := .tuple #[.agg #[.int .i64 0, .int .i64 0, .int .i64 0, .slice none 0 0, .int .i64 0, .int .u64 0, .int .u64 0, .slice none 0 0, .string ⟨#[]⟩], .agg #[.int .i64 xc, .int .i64 xi, .slice A1 xl.length c1, .int .i64 yc, .int .u64 yz, .int .u64 yf, .slice B1 yl.length c2, .string xb], .bool true, .int .i64 0]) ?_ rfl ⟨none, none, A1, B1, 0, 0, c1, c2, by rw [HE.out]; rfl, by rw [HE.out]; exact cmAt0 _, by rw [HE.out]; exact ⟨HVA.out, HVB.out, HNA.out, HNB.out⟩, hBz⟩
      rw [results_cctt rfl]
      simp [asAddr, Result.andThen, go_sem, q0, q1, q2, q3, q4, q5, q6, q7, r0, r1, r2, r3, r4, r5, r6, r7, r8]
    · have HE := Lib.hid hfd
      have e1 : bgC fd = c := by rw [hfd]; rfl
      have e2 : fd.a.st = 2 := by rw [hfd]; rfl
      have e3 : fd.e = 0 := by rw [hfd]; rfl
      rw [e1] at hcm
      rw [e1, e2, e3]
      clear e1 e2 e3 hfd
      have va := hcm.va
      have vb := hcm.vb
      have HNA := Lib.hid hcm.na
      have HNB := Lib.hid hcm.nb
      clear hcm
      obtain ⟨⟨xc, xi, xl⟩, ⟨yc, yz, yf, yl⟩, xb⟩ := c
      dsimp only at *
      obtain ⟨W6, hW6⟩ : ∃ W6, W6 = w6.alloc (.cells #[.int .i64 xc, .int .i64 xi, .slice A1 xl.length c1, .int .i64 yc, .int .u64 yz, .int .u64 yf, .slice B1 yl.length c2, .string xb] 29) := ⟨_, rfl⟩
      have hb7 : Below w6.heap.size w6 W6 := by rw [hW6]; exact (Below.refl _ w6).alloc (Nat.le_refl _) _
      have hB7 := hB6.trans (hb7.mono hB6.size)
      have hr7 := hr6.kept hb7
      have hq7 := hq6.kept hb7
      have hn7 : Bx W6 w6.heap.size 29 [.int .i64 xc, .int .i64 xi, .slice A1 xl.length c1, .int .i64 yc, .int .u64 yz, .int .u64 yf, .slice B1 yl.length c2, .string xb] := by rw [hW6]; exact Bx.new w6 _ _
      go_upto_region 11 with fail
      rw [← hW6]
      clear hW6
      have va7 := va.below hb7
      have vb7 := vb.below hb7
      obtain ⟨a0, f0, a1, f1, a2, f2, a3, f3, a4, f4, a5, f5, a6, f6, a7, f7, a8, f8, bR⟩ := (hr7).store9 (.int .i64 2) (.int .i64 xc) (.int .i64 xi) (.slice A1 xl.length c1) (.int .i64 yc) (.int .u64 yz) (.int .u64 yf) (.slice B1 yl.length c2) (.string xb)
      have hq3 := (((((((((hq7.other (B' := w.heap.size + 1 + 1) (by omega) 0 (.int .i64 2)).other (B' := w.heap.size + 1 + 1) (by omega) 1 (.int .i64 xc)).other (B' := w.heap.size + 1 + 1) (by omega) 2 (.int .i64 xi)).other (B' := w.heap.size + 1 + 1) (by omega) 3 (.slice A1 xl.length c1)).other (B' := w.heap.size + 1 + 1) (by omega) 4 (.int .i64 yc)).other (B' := w.heap.size + 1 + 1) (by omega) 5 (.int .u64 yz)).other (B' := w.heap.size + 1 + 1) (by omega) 6 (.int .u64 yf)).other (B' := w.heap.size + 1 + 1) (by omega) 7 (.slice B1 yl.length c2)).other (B' := w.heap.size + 1 + 1) (by omega) 8 (.string xb))
      obtain ⟨k0, g0, k1, g1, k2, g2, k3, g3, k4, g4, k5, g5, k6, g6, k7, g7, bQ⟩ := hq3.store8 (.int .i64 0) (.int .i64 0) (.slice none 0 0) (.int .i64 0) (.int .u64 0) (.int .u64 0) (.slice none 0 0) (.string ⟨#[]⟩)
      have bR2 := ((((((((bR.other (B' := w.heap.size + 1 + 1 + 1) (by omega) 0 (.int .i64 0)).other (B' := w.heap.size + 1 + 1 + 1) (by omega) 1 (.int .i64 0)).other (B' := w.heap.size + 1 + 1 + 1) (by omega) 2 (.slice none 0 0)).other (B' := w.heap.size + 1 + 1 + 1) (by omega) 3 (.int .i64 0)).other (B' := w.heap.size + 1 + 1 + 1) (by omega) 4 (.int .u64 0)).other (B' := w.heap.size + 1 + 1 + 1) (by omega) 5 (.int .u64 0)).other (B' := w.heap.size + 1 + 1 + 1) (by omega) 6 (.slice none 0 0)).other (B' := w.heap.size + 1 + 1 + 1) (by omega) 7 (.string ⟨#[]⟩))
      have hBy := below_store9 hB7 (B := w.heap.size + 1 + 1) (by omega) (.int .i64 2) (.int .i64 xc) (.int .i64 xi) (.slice A1 xl.length c1) (.int .i64 yc) (.int .u64 yz) (.int .u64 yf) (.slice B1 yl.length c2) (.string xb)
      have hBz := below_store8 hBy (B := w.heap.size + 1 + 1 + 1) (by omega) (.int .i64 0) (.int .i64 0) (.slice none 0 0) (.int .i64 0) (.int .u64 0) (.int .u64 0) (.slice none 0 0) (.string ⟨#[]⟩)
      obtain ⟨q0, q1, q2, q3, q4, q5, q6, q7⟩ := bQ.eight
      obtain ⟨r0, r1, r2, r3, r4, r5, r6, r7, r8⟩ := bR2.nine
      have HVA : Hid (ValsAt (((((((((((((((((W6.setCell ⟨w.heap.size + 1 + 1, 0, none⟩ (.int .i64 2)).setCell ⟨w.heap.size + 1 + 1, 1, none⟩ (.int .i64 xc)).setCell ⟨w.heap.size + 1 + 1, 2, none⟩ (.int .i64 xi)).setCell ⟨w.heap.size + 1 + 1, 3, none⟩ (.slice A1 xl.length c1)).setCell ⟨w.heap.size + 1 + 1, 4, none⟩ (.int .i64 yc)).setCell ⟨w.heap.size + 1 + 1, 5, none⟩ (.int .u64 yz)).setCell ⟨w.heap.size + 1 + 1, 6, none⟩ (.int .u64 yf)).setCell ⟨w.heap.size + 1 + 1, 7, none⟩ (.slice B1 yl.length c2)).setCell ⟨w.heap.size + 1 + 1, 8, none⟩ (.string xb)).setCell ⟨w.heap.size + 1 + 1 + 1, 0, none⟩ (.int .i64 0)).setCell ⟨w.heap.size + 1 + 1 + 1, 1, none⟩ (.int .i64 0)).setCell ⟨w.heap.size + 1 + 1 + 1, 2, none⟩ (.slice none 0 0)).setCell ⟨w.heap.size + 1 + 1 + 1, 3, none⟩ (.int .i64 0)).setCell ⟨w.heap.size + 1 + 1 + 1, 4, none⟩ (.int .u64 0)).setCell ⟨w.heap.size + 1 + 1 + 1, 5, none⟩ (.int .u64 0)).setCell ⟨w.heap.size + 1 + 1 + 1, 6, none⟩ (.slice none 0 0)).setCell ⟨w.heap.size + 1 + 1 + 1, 7, none⟩ (.string ⟨#[]⟩)) A1 _) := Lib.hid (vals_store8 hq3 noVal_zero8 (vals_store9 (hr7) noVal_zero9 (va7) (.int .i64 2) (.int .i64 xc) (.int .i64 xi) (.slice A1 xl.length c1) (.int .i64 yc) (.int .u64 yz) (.int .u64 yf) (.slice B1 yl.length c2) (.string xb)) (.int .i64 0) (.int .i64 0) (.slice none 0 0) (.int .i64 0) (.int .u64 0) (.int .u64 0) (.slice none 0 0) (.string ⟨#[]⟩))
      have HVB : Hid (ValsAt (((((((((((((((((W6.setCell ⟨w.heap.size + 1 + 1, 0, none⟩ (.int .i64 2)).setCell ⟨w.heap.size + 1 + 1, 1, none⟩ (.int .i64 xc)).setCell ⟨w.heap.size + 1 + 1, 2, none⟩ (.int .i64 xi)).setCell ⟨w.heap.size + 1 + 1, 3, none⟩ (.slice A1 xl.length c1)).setCell ⟨w.heap.size + 1 + 1, 4, none⟩ (.int .i64 yc)).setCell ⟨w.heap.size + 1 + 1, 5, none⟩ (.int .u64 yz)).setCell ⟨w.heap.size + 1 + 1, 6, none⟩ (.int .u64 yf)).setCell ⟨w.heap.size + 1 + 1, 7, none⟩ (.slice B1 yl.length c2)).setCell ⟨w.heap.size + 1 + 1, 8, none⟩ (.string xb)).setCell ⟨w.heap.size + 1 + 1 + 1, 0, none⟩ (.int .i64 0)).setCell ⟨w.heap.size + 1 + 1 + 1, 1, none⟩ (.int .i64 0)).setCell ⟨w.heap.size + 1 + 1 + 1, 2, none⟩ (.slice none 0 0)).setCell ⟨w.heap.size + 1 + 1 + 1, 3, none⟩ (.int .i64 0)).setCell ⟨w.heap.size + 1 + 1 + 1, 4, none⟩ (.int .u64 0)).setCell ⟨w.heap.size + 1 + 1 + 1, 5, none⟩ (.int .u64 0)).setCell ⟨w.heap.size + 1 + 1 + 1, 6, none⟩ (.slice none 0 0)).setCell ⟨w.heap.size + 1 + 1 + 1, 7, none⟩ (.string ⟨#[]⟩)) B1 _) := Lib.hid (vals_store8 hq3 noVal_zero8 (vals_store9 (hr7) noVal_zero9 (vb7) (.int .i64 2) (.int .i64 xc) (.int .i64 xi) (.slice A1 xl.length c1) (.int .i64 yc) (.int .u64 yz) (.int .u64 yf) (.slice B1 yl.length c2) (.string xb)) (.int .i64 0) (.int .i64 0) (.slice none 0 0) (.int .i64 0) (.int .u64 0) (.int .u64 0) (.slice none 0 0) (.string ⟨#[]⟩))
      obtain ⟨m0, m1, m2, m3, m4, m5, m6, m7⟩ := hn7.eight
      clear hr7 hq7 hn7 hq3 bR bQ bR2 hBy hB7 hB6 hr6 hq6 hb7 va vb va7 vb7
      go_wp2
      refine bodyPost_ret (v := .tuple #[.agg #[.int .i64 2, .int .i64 xc, .int .i64 xi, .slice A1 xl.length c1, .int .i64 yc, .int .u64 yz, .int .u64 yf, .slice B1 yl.length c2, .string xb], .agg #[.int .i64 0, .int .i64 0, .slice none 0 0, .int .i64 0, .int .u64 0, .int .u64 0, .slice none 0 0, .string ⟨#[]⟩], .bool false, .int .i64 0]) ?_ rfl ⟨A1, B1, none, none, c1, c2, 0, 0, by rw [HE.out]; rfl, by rw [HE.out]; exact ⟨HVA.out, HVB.out, HNA.out, HNB.out⟩, by rw [HE.out]; exact cmAt0 _, hBz⟩
      rw [results_cctt rfl]
      simp [asAddr, Result.andThen, go_sem, q0, q1, q2, q3, q4, q5, q6, q7, r0, r1, r2, r3, r4, r5, r6, r7, r8]
end Go.Proofs.YtllgkohgcicbhaaGreatDoor
