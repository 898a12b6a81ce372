/-
  interchangelaw06.MethodApart answers true; nothing that was there is changed. Conditions: the table of widths is as its text lays it; the values lie in old memory, each number a uint64, each text shorter than 2^47 bytes.
-/
import Derived.Test.YtmpfkommeakgbaaDoorRMSame
namespace Go.Proofs.YtmpfkommeakgbaaDoor
open Go.RowKit

set_option maxRecDepth 100000 in
set_option maxHeartbeats 2000000 in
theorem methodApart_walk (a b : Me) (A B : Option Addr) (ca cb : Nat) (w : World) (hw : Wid w) (hA : ValsAt w A (rowV a.l)) (hB : ValsAt w B (rowV b.l)) (ha : wfM a) (hb : wfM b) (hl : a.l.length * 24 ≤ 140737488355328) :
    Calls Tryd.prog 8 #[encM a A ca, encM b B cb] w fun e w' => e = .returned (.bool true) ∧ Below w.heap.size w w' := by
  have hBa := fun W hW h => mbytes_any a A ca W hW ha h
  have hBb := fun W hW h => mbytes_any b B cb W hW hb h
  have hSame := fun W h1 h2 => rsame_any a b A B ca cb W h1 h2 (by omega)
  have HQ : Hid (mE a = 0 → mE b = 0 → ((mB a).toList == (mB b).toList) = sameM a b) := Lib.hid (fun h1 h2 => by
    rw [Bool.eq_iff_iff, sameM_iff, beq_iff_eq]
    constructor
    · intro h
      refine mB_inj (fun v hv => (ha v hv).1) (fun v hv => (hb v hv).1) h1 h2 (ba_ext ?_)
      rw [ByteArray.toList_eq, ByteArray.toList_eq] at h
      exact h
    · intro h; rw [h])
  have HZ : Hid (mE a = 0 → 4 ≤ (mB a).size ∧ (mB a).size ≤ 1099511627776) := Lib.hid (fun h => mB_size h)
  generalize mB a = x at hBa HQ HZ
  generalize mB b = y at hBb HQ
  generalize mE a = e1 at hBa HQ HZ
  generalize mE b = f1 at hBb HQ
  generalize sameM a b = q at hSame HQ
  obtain ⟨c, i, l⟩ := a
  obtain ⟨c', i', m⟩ := b
  simp only [encM] at hBa hBb hSame ⊢
  dsimp only at hA hB hl
  obtain ⟨W0, hW0⟩ : ∃ W0, W0 = (w.alloc (.cells #[.int .i64 c, .int .i64 i, .slice A l.length ca] 24)).alloc (.cells #[.int .i64 c', .int .i64 i', .slice B m.length cb] 24) := ⟨_, rfl⟩
  have hb0 : Below w.heap.size w W0 := by rw [hW0]; exact ((Below.refl _ w).alloc (Nat.le_refl _) _).alloc (by simp) _
  have hx : Bx W0 w.heap.size 24 [.int .i64 c, .int .i64 i, .slice A l.length ca] := by rw [hW0]; exact (Bx.new w 24 [.int .i64 c, .int .i64 i, .slice A l.length ca]).alloc _
  have hy : Bx W0 (w.heap.size + 1) 24 [.int .i64 c', .int .i64 i', .slice B m.length cb] := by
    have h := Bx.new (w.alloc (.cells #[.int .i64 c, .int .i64 i, .slice A l.length ca] 24)) 24 [.int .i64 c', .int .i64 i', .slice B m.length cb]
    rw [World.size_alloc] at h
    rw [hW0]
    exact h
  have hSh := mshown_any W0 (hw.below hb0)
  go_enter Tryd.func8, Tryd.ntmps8
  go_wp2_with fail
  rw [← hW0]
  refine hSh.mono ?_
  rintro e w1 ⟨rfl, hb1⟩
  have hB1 := hb0.trans (hb1.mono hb0.size)
  have hx1 := hx.kept hb1
  have hy1 := hy.kept hb1
  have x0 := hx1.cell 0 (by simp)
  have x1 := hx1.cell 1 (by simp)
  have x2 := hx1.cell 2 (by simp)
  dsimp only [List.getElem_cons_zero, List.getElem_cons_succ] at x0 x1 x2
  clear hSh hb0 hb1 hx hy hW0
  go_wp2_with fail
  refine (hBa w1 (hw.below hB1) (hA.below hB1)).mono ?_
  rintro e w2 ⟨rfl, hb2⟩
  have hB2 := hB1.trans (hb2.mono hB1.size)
  have hx2 := hx1.kept hb2
  have hy2 := hy1.kept hb2
  have y0 := hy2.cell 0 (by simp)
  have y1 := hy2.cell 1 (by simp)
  have y2 := hy2.cell 2 (by simp)
  dsimp only [List.getElem_cons_zero, List.getElem_cons_succ] at y0 y1 y2
  clear hBa hB1 hb2 hx1 hy1 x0 x1 x2
  go_wp2_with fail
  refine (hBb w2 (hw.below hB2) (hB.below hB2)).mono ?_
  rintro e w3 ⟨rfl, hb3⟩
  have hB3 := hB2.trans (hb3.mono hB2.size)
  have hx3 := hx2.kept hb3
  have hy3 := hy2.kept hb3
  clear hBb hB2 hb3 hx2 hy2 y0 y1 y2
  by_cases he : e1 = 0
  · obtain ⟨z1, z2⟩ := HZ.out he
    have tz : decide ((4 : Int) ≤ (x.size : Int)) = true := by simp; omega
    by_cases hf : f1 = 0
    · have hq := HQ.out he hf
      subst he
      subst hf
      have x0 := hx3.cell 0 (by simp)
      have x1 := hx3.cell 1 (by simp)
      have x2 := hx3.cell 2 (by simp)
      have y0 := hy3.cell 0 (by simp)
      have y1 := hy3.cell 1 (by simp)
      have y2 := hy3.cell 2 (by simp)
      dsimp only [List.getElem_cons_zero, List.getElem_cons_succ] at x0 x1 x2 y0 y1 y2
      clear HQ HZ hx3 hy3
      go_wp2_with fail
      refine (hSame w3 (hA.below hB3) (hB.below hB3)).mono ?_
      rintro e w4 ⟨rfl, hb4⟩
      have hB4 := hB3.trans (hb4.mono hB3.size)
      clear hSame x0 x1 x2 y0 y1 y2 hA hB hB3 hb4
      cases q <;> (go_wp2; go_ret; exact ⟨rfl, hB4⟩)
    · have tf : (f1 != 0) = true := by simpa using hf
      subst he
      clear HQ HZ hx3 hy3 hSame hA hB hf
      go_wp2
      go_ret
      exact ⟨rfl, hB3⟩
  · have te : (e1 != 0) = true := by simpa using he
    clear HQ HZ hx3 hy3 hSame hA hB he
    go_wp2
    go_ret
    exact ⟨rfl, hB3⟩
end Go.Proofs.YtmpfkommeakgbaaDoor
