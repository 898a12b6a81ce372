/-
  The law's own same tells whether two commands that aren't whole are the same; nothing that was there is changed. No condition but how long rows of values may be.
-/
import Derived.Test.YtllgkohgcicbhaaGreatDoorZH
import Derived.Test.YtllgkohgcicbhaaGreatDoorWFeedW
namespace Go.Proofs.YtllgkohgcicbhaaGreatDoor
open Go.RowKit

set_option maxRecDepth 100000 in
set_option maxHeartbeats 2000000 in
theorem lsame_any (a b : As) (A B A' B' : Option Addr) (ca cb ca' cb' : Nat) (w : World) (ha : CmAt w a.c A B ca cb) (hb : CmAt w b.c A' B' ca' cb') (hl : shortC a.c) :
    Calls Tryz.prog 12 #[encAs a A B ca cb, encAs b A' B' ca' cb'] w fun e w' => e = .returned (.bool (sameA a b)) ∧ Below w.heap.size w w' := by
  obtain ⟨W0, hW0⟩ : ∃ W0, W0 = (w.alloc (.cells (cellsAs a A B ca cb).toArray 31)).alloc (.cells (cellsAs b A' B' ca' cb').toArray 31) := ⟨_, rfl⟩
  have hb0 : Below w.heap.size w W0 := by rw [hW0]; exact ((Below.refl _ w).alloc (Nat.le_refl _) _).alloc (by simp) _
  have hx : Bx W0 w.heap.size 31 (cellsAs a A B ca cb) := by rw [hW0]; exact (Bx.new w 31 (cellsAs a A B ca cb)).alloc _
  have hy : Bx W0 (w.heap.size + 1) 31 (cellsAs b A' B' ca' cb') := by
    have h := Bx.new (w.alloc (.cells (cellsAs a A B ca cb).toArray 31)) 31 (cellsAs b A' B' ca' cb')
    rw [World.size_alloc] at h
    rw [hW0]
    exact h
  have hC := rcsame_any a.c b.c A B A' B' ca cb ca' cb' W0 (ha.below hb0) (hb.below hb0) hl
  have HC : Hid (sameA a b = (sameC a.c b.c && (a.st == b.st))) := Lib.hid rfl
  generalize sameA a b = q at HC ⊢
  generalize sameC a.c b.c = q1 at hC HC
  unfold encC at hC
  unfold cellsAs at hx hy hW0
  unfold encAs
  clear ha hb hl
  obtain ⟨st, ⟨⟨mc, mi, ml⟩, ⟨hc, hz, hf, hl⟩, sb⟩⟩ := a
  obtain ⟨st', ⟨⟨mc', mi', ml'⟩, ⟨hc', hz', hf', hl'⟩, sb'⟩⟩ := b
  dsimp only at *
  generalize hq3 : (st == st') = q3 at HC
  go_enter Tryz.func12, Tryz.ntmps12
  go_wp2_with fail
  rw [← hW0]
  clear hW0
  obtain ⟨x0, x1, x2, x3, x4, x5, x6, x7, x8⟩ := hx.nine
  obtain ⟨y0, y1, y2, y3, y4, y5, y6, y7, y8⟩ := hy.nine
  go_wp2_with fail
  with_reducible refine hC.mono ?_
  rintro e w1 ⟨rfl, hb1⟩
  have hB1 := hb0.trans (hb1.mono hb0.size)
  have z0 := (hx.kept hb1).nine.1
  have z1 := (hy.kept hb1).nine.1
  clear hC hx hy hb1 hb0 x0 x1 x2 x3 x4 x5 x6 x7 x8 y0 y1 y2 y3 y4 y5 y6 y7 y8
  cases q1
  · have HF : Hid (q = false) := Lib.hid (by rw [HC.out]; rfl)
    clear HC hq3
    go_wp2
    go_ret
    exact ⟨by rw [HF.out]; rfl, hB1⟩
  · have HF : Hid (q = q3) := Lib.hid (by rw [HC.out]; rfl)
    clear HC
    cases q3
    · go_wp2
      go_ret
      exact ⟨by rw [HF.out]; rfl, hB1⟩
    · go_wp2
      go_ret
      exact ⟨by rw [HF.out]; rfl, hB1⟩
end Go.Proofs.YtllgkohgcicbhaaGreatDoor
