/-
  Several texts joined in one file: each says at its own head, below, what it proves, and its conditions.
-/
import Derived.Test.YtllgkohgcicbhaaGreatDoorJEq
import Derived.Test.YtllgkohgcicbhaaGreatDoorJC1
import Derived.Test.YtllgkohgcicbhaaGreatDoorZK
import Derived.Test.YtllgkohgcicbhaaGreatDoorZF
/-
  content.Same answers as the plain function says; nothing that was there is changed. Conditions: the values lie in old memory.
-/
namespace Go.Proofs.YtllgkohgcicbhaaGreatDoor
open Go.RowKit

set_option maxRecDepth 100000 in
set_option maxHeartbeats 2000000 in
theorem csame_any (a b : Cm) (A B A' B' : Option Addr) (ca cb ca' cb' : Nat) (w : World) (ha : CmAt w a A B ca cb) (hb : CmAt w b A' B' ca' cb') (hl : shortC a) :
    Calls Tryz.prog 17 #[encC a A B ca cb, encC b A' B' ca' cb'] w fun e w' => e = .returned (.bool (sameC a b)) ∧ Below w.heap.size w w' := by
  obtain ⟨W0, hW0⟩ : ∃ W0, W0 = (w.alloc (.cells (cellsC a A B ca cb).toArray 29)).alloc (.cells (cellsC b A' B' ca' cb').toArray 29) := ⟨_, rfl⟩
  have hb0 : Below w.heap.size w W0 := by rw [hW0]; exact ((Below.refl _ w).alloc (Nat.le_refl _) _).alloc (by simp) _
  have hx : Bx W0 w.heap.size 29 (cellsC a A B ca cb) := by rw [hW0]; exact (Bx.new w 29 (cellsC a A B ca cb)).alloc _
  have hy : Bx W0 (w.heap.size + 1) 29 (cellsC b A' B' ca' cb') := by
    have h := Bx.new (w.alloc (.cells (cellsC a A B ca cb).toArray 29)) 29 (cellsC b A' B' ca' cb')
    rw [World.size_alloc] at h
    rw [hW0]
    exact h
  have hM := fun W hA hB => msame_any a.m b.m A A' ca ca' W hA hB hl.1
  have hH := fun W hA hB => psame_any a.h b.h B B' cb cb' W hA hB hl.2
  have HC : Hid (sameC a b = ((sameM a.m b.m && sameH a.h b.h) && (a.b.toList == b.b.toList))) := Lib.hid rfl
  generalize sameC a b = q at HC ⊢
  generalize sameM a.m b.m = q1 at hM HC
  generalize sameH a.h b.h = q2 at hH HC
  have va := ha.va
  have vb := ha.vb
  have va' := hb.va
  have vb' := hb.vb
  unfold encM at hM
  unfold encH at hH
  unfold cellsC at hx hy hW0
  unfold encC
  clear ha hb hl
  obtain ⟨⟨mc, mi, ml⟩, ⟨hc, hz, hf, hl⟩, sb⟩ := a
  obtain ⟨⟨mc', mi', ml'⟩, ⟨hc', hz', hf', hl'⟩, sb'⟩ := b
  dsimp only at *
  go_enter Tryz.func17, Tryz.ntmps17
  go_wp2_with fail
  rw [← hW0]
  clear hW0
  obtain ⟨x0, x1, x2, x3, x4, x5, x6, x7⟩ := hx.eight
  obtain ⟨y0, y1, y2, y3, y4, y5, y6, y7⟩ := hy.eight
  go_wp2_with fail
  with_reducible refine (hM _ (va.below hb0) (va'.below hb0)).mono ?_
  rintro e w1 ⟨rfl, hb1⟩
  have hB1 := hb0.trans (hb1.mono hb0.size)
  have hx1 := hx.kept hb1
  have hy1 := hy.kept hb1
  clear hM hx hy hb1 hb0 x0 x1 x2 x3 x4 x5 x6 x7 y0 y1 y2 y3 y4 y5 y6 y7
  obtain ⟨x0, x1, x2, x3, x4, x5, x6, x7⟩ := hx1.eight
  obtain ⟨y0, y1, y2, y3, y4, y5, y6, y7⟩ := hy1.eight
  cases q1
  · have HF : Hid (q = false) := Lib.hid (by rw [HC.out]; rfl)
    clear HC hH hx1 hy1
    go_wp2
    go_ret
    exact ⟨by rw [HF.out]; rfl, hB1⟩
  · go_wp2_with fail
    with_reducible refine (hH _ (vb.below hB1) (vb'.below hB1)).mono ?_
    rintro e w2 ⟨rfl, hb2⟩
    have hB2 := hB1.trans (hb2.mono hB1.size)
    have hx2 := hx1.kept hb2
    have hy2 := hy1.kept hb2
    clear hH hx1 hy1 hb2 hB1 x0 x1 x2 x3 x4 x5 x6 x7 y0 y1 y2 y3 y4 y5 y6 y7
    have x7 := hx2.eight.2.2.2.2.2.2.2
    have y7 := hy2.eight.2.2.2.2.2.2.2
    cases q2
    · have HF : Hid (q = false) := Lib.hid (by rw [HC.out]; rfl)
      clear HC hx2 hy2
      go_wp2
      go_ret
      exact ⟨by rw [HF.out]; rfl, hB2⟩
    · generalize hq3 : (sb.toList == sb'.toList) = q3 at HC
      have HF : Hid (q = q3) := Lib.hid (by rw [HC.out]; rfl)
      clear HC hx2 hy2
      cases q3
      · go_wp2
        go_ret
        exact ⟨by rw [HF.out]; rfl, hB2⟩
      · go_wp2
        go_ret
        exact ⟨by rw [HF.out]; rfl, hB2⟩
end Go.Proofs.YtllgkohgcicbhaaGreatDoor

/-
  content.follows, rightContent and Right answer as the plain functions say; nothing that was there is changed. Conditions: the tables of widths and of contents are as their texts lay them; the values lie in old memory, each number a uint64, each text shorter than 2^47 bytes.
-/
namespace Go.Proofs.YtllgkohgcicbhaaGreatDoor
open Go.RowKit

set_option maxHeartbeats 2000000 in
theorem follows_any (m : Me) (A : Option Addr) (cap : Nat) (w : World) (hk : Con w) :
    Calls Tryz.prog 26 #[encM m A cap] w fun e w' => e = .returned (.bool (fol m)) ∧ Below w.heap.size w w' := by
  have hb0 : Below w.heap.size w (w.alloc (.cells #[.int .i64 m.c, .int .i64 m.i, .slice A m.l.length cap] 24)) := (Below.refl _ w).alloc (Nat.le_refl _) _
  have hC := content_any m.c m.i _ (hk.below hb0)
  have HQ : Hid (fol m = sCont m.c m.i) := Lib.hid rfl
  generalize fol m = q at HQ ⊢
  generalize sCont m.c m.i = q' at HQ hC
  obtain ⟨c, i, l⟩ := m
  unfold encM
  dsimp only at *
  clear hk
  go_enter Tryz.func26, Tryz.ntmps26
  go_wp2_with fail
  with_reducible refine hC.mono ?_
  rintro e w1 ⟨rfl, hb1⟩
  clear hC
  go_wp2
  go_ret
  exact ⟨by rw [HQ.out]; rfl, hb0.trans (hb1.mono hb0.size)⟩

/-- why a head and a body aren't right -/
def hbE (c : Cm) : Int := if hE c.h = 0 then (if c.h.z = c.b.size then 0 else 3) else hE c.h
set_option maxRecDepth 100000 in
set_option maxHeartbeats 2000000 in
theorem rightContent_any (c : Cm) (A B : Option Addr) (ca cb : Nat) (w : World) (hw : Wid w) (hh : wfH c.h) (hB : ValsAt w B (rowV c.h.l)) (hs : c.b.size < 4611686018427387904) :
    Calls Tryz.prog 33 #[encC c A B ca cb] w fun e w' => e = .returned (.int .i64 (hbE c)) ∧ Below w.heap.size w w' := by
  obtain ⟨W0, hW0⟩ : ∃ W0, W0 = w.alloc (.cells (cellsC c A B ca cb).toArray 29) := ⟨_, rfl⟩
  have hb0 : Below w.heap.size w W0 := by rw [hW0]; exact (Below.refl _ w).alloc (Nat.le_refl _) _
  have hx : Bx W0 w.heap.size 29 (cellsC c A B ca cb) := by rw [hW0]; exact Bx.new w 29 (cellsC c A B ca cb)
  have hR := pright_any c.h B cb W0 (hw.below hb0) hh (hB.below hb0)
  have HQ : Hid (hbE c = if hE c.h = 0 then (if c.h.z = c.b.size then 0 else 3) else hE c.h) := Lib.hid rfl
  have hz := hh.1
  have e1 : IntKind.u64.wrap (c.b.size : Int) = (c.b.size : Int) := by simp only [IntKind.wrap_u64]; omega
  generalize hbE c = q at HQ ⊢
  generalize hE c.h = he at HQ hR
  unfold encH at hR
  unfold cellsC at hx hW0
  unfold encC
  clear hw hh hB
  obtain ⟨⟨mc, mi, ml⟩, ⟨hc, hz', hf, hl⟩, sb⟩ := c
  dsimp only at *
  go_enter Tryz.func33, Tryz.ntmps33
  go_wp2_with fail
  rw [← hW0]
  clear hW0
  obtain ⟨x0, x1, x2, x3, x4, x5, x6, x7⟩ := hx.eight
  go_wp2_with fail
  with_reducible refine hR.mono ?_
  rintro e w1 ⟨rfl, hb1⟩
  have hB1 := hb0.trans (hb1.mono hb0.size)
  have hx1 := hx.kept hb1
  clear hR hx hb1 hb0 x0 x1 x2 x3 x4 x5 x6 x7
  by_cases h : he = 0
  · obtain ⟨x0, x1, x2, x3, x4, x5, x6, x7⟩ := hx1.eight
    have HQ2 : Hid (q = if hz' = sb.size then 0 else 3) := Lib.hid (by rw [HQ.out, if_pos h])
    subst h
    clear HQ hx1
    by_cases h2 : hz' = sb.size
    · have HF : Hid (q = 0) := Lib.hid (by rw [HQ2.out, if_pos h2])
      have t : (hz' != (sb.size : Int)) = false := by simpa using h2
      clear HQ2 h2
      go_wp2
      go_ret
      exact ⟨by rw [HF.out]; rfl, hB1⟩
    · have HF : Hid (q = 3) := Lib.hid (by rw [HQ2.out, if_neg h2])
      have t : (hz' != (sb.size : Int)) = true := by simpa using h2
      clear HQ2 h2
      go_wp2
      go_ret
      exact ⟨by rw [HF.out]; rfl, hB1⟩
  · have HF : Hid (q = he) := Lib.hid (by rw [HQ.out, if_neg h])
    have t : (he != 0) = true := by simpa using h
    clear HQ h hx1
    go_wp2
    go_ret
    exact ⟨by rw [HF.out]; rfl, hB1⟩

theorem same_ofM (c : Cm) : sameC c (ofM c.m) = decide (c.h.c = 0 ∧ c.h.z = 0 ∧ c.h.f = 0 ∧ c.h.l.length = 0 ∧ c.b.size = 0) := by
  rw [Bool.eq_iff_iff, sameC_iff, decide_eq_true_iff]
  obtain ⟨m, ⟨x, z, f, l⟩, b⟩ := c
  simp only [ofM, noH, Cm.mk.injEq, He.mk.injEq, true_and]
  constructor
  · rintro ⟨⟨rfl, rfl, rfl, rfl⟩, rfl⟩
    exact ⟨rfl, rfl, rfl, rfl, rfl⟩
  · rintro ⟨rfl, rfl, rfl, g4, g5⟩
    exact ⟨⟨rfl, rfl, rfl, List.eq_nil_of_length_eq_zero g4⟩, ba_empty g5⟩
theorem cE_no {c : Cm} (h1 : mE c.m = 0) (h2 : fol c.m = false) : cE c = if sameC c (ofM c.m) = true then 0 else 3 := by
  rw [cE, if_pos h1, if_neg (by simp [h2]), same_ofM]
  simp only [decide_eq_true_iff]
theorem cE_yes {c : Cm} (h1 : mE c.m = 0) (h2 : fol c.m = true) : cE c = hbE c := by
  rw [cE, if_pos h1, if_pos h2, hbE]

set_option maxRecDepth 100000 in
set_option maxHeartbeats 2000000 in
theorem cright_any (c : Cm) (A B : Option Addr) (ca cb : Nat) (w : World) (hw : Wid w) (hk : Con w) (hwf : wfC c) (hc : CmAt w c A B ca cb) (hl : shortC c) (hs : c.b.size < 4611686018427387904) :
    Calls Tryz.prog 15 #[encC c A B ca cb] w fun e w' => e = .returned (.int .i64 (cE c)) ∧ Below w.heap.size w w' := by
  obtain ⟨W0, hW0⟩ : ∃ W0, W0 = w.alloc (.cells (cellsC c A B ca cb).toArray 29) := ⟨_, rfl⟩
  have hb0 : Below w.heap.size w W0 := by rw [hW0]; exact (Below.refl _ w).alloc (Nat.le_refl _) _
  have hx : Bx W0 w.heap.size 29 (cellsC c A B ca cb) := by rw [hW0]; exact Bx.new w 29 (cellsC c A B ca cb)
  have hR := mright_any c.m A ca W0 (hw.below hb0) hwf.1 (hc.va.below hb0)
  have hF := fun W hW => follows_any c.m A ca W hW
  have hT := fun W hW hV => rightContent_any c A B ca cb W hW hwf.2 hV hs
  have hS := fun W h1 h2 => csame_any c (ofM c.m) A B A none ca cb ca 0 W h1 h2 hl
  have HN : Hid (mE c.m = 0 → fol c.m = false → cE c = if sameC c (ofM c.m) = true then 0 else 3) := Lib.hid (fun a b => cE_no a b)
  have HY : Hid (mE c.m = 0 → fol c.m = true → cE c = hbE c) := Lib.hid (fun a b => cE_yes a b)
  have HB : Hid (¬ mE c.m = 0 → cE c = mE c.m) := Lib.hid (fun h => by rw [cE, if_neg h])
  have hcat : ∀ W, Below w.heap.size w W → CmAt W (ofM c.m) A none ca 0 := fun W h => ⟨hc.va.below h, fun h' => by simp [ofM, noH, rowV] at h', hc.na, fun _ => ⟨rfl, rfl⟩⟩
  generalize sameC c (ofM c.m) = sm at hS HN
  generalize hbE c = hb at hT HY
  generalize cE c = q at HN HY HB ⊢
  generalize fol c.m = fl at hF HN HY
  generalize mE c.m = me at hR HN HY HB
  have va := hc
  unfold encM at hR hF
  unfold encC at hT hS ⊢
  unfold cellsC at hx hW0
  clear hl hs hwf hc
  obtain ⟨⟨mc, mi, ml⟩, ⟨hc', hz', hf, hl⟩, sb⟩ := c
  dsimp only [ofM, noH, List.length_nil] at hR hF hT hS hx hW0 hcat ⊢
  go_enter Tryz.func15, Tryz.ntmps15
  go_wp2_with fail
  rw [← hW0]
  clear hW0
  obtain ⟨x0, x1, x2, x3, x4, x5, x6, x7⟩ := hx.eight
  go_wp2_with fail
  with_reducible refine hR.mono ?_
  rintro e w1 ⟨rfl, hb1⟩
  have hB1 := hb0.trans (hb1.mono hb0.size)
  have hx1 := hx.kept hb1
  clear hR hx hb1 hb0 x0 x1 x2 x3 x4 x5 x6 x7
  by_cases h : me = 0
  · obtain ⟨x0, x1, x2, x3, x4, x5, x6, x7⟩ := hx1.eight
    have HN2 : Hid (fl = false → q = if sm = true then 0 else 3) := Lib.hid (HN.out h)
    have HY2 : Hid (fl = true → q = hb) := Lib.hid (HY.out h)
    subst h
    clear HN HY HB
    go_wp2_with fail
    with_reducible refine (hF w1 (hk.below hB1)).mono ?_
    rintro e w2 ⟨rfl, hb2⟩
    have hB2 := hB1.trans (hb2.mono hB1.size)
    have hx2 := hx1.kept hb2
    clear hF hx1 hb2 hB1 x0 x1 x2 x3 x4 x5 x6 x7
    obtain ⟨x0, x1, x2, x3, x4, x5, x6, x7⟩ := hx2.eight
    cases fl
    · have HF : Hid (q = if sm = true then 0 else 3) := Lib.hid (HN2.out rfl)
      clear HN2 HY2 hT
      go_wp2_with fail
      with_reducible refine (hS w2 (va.below hB2) (hcat _ hB2)).mono ?_
      rintro e w3 ⟨rfl, hb3⟩
      have hB3 := hB2.trans (hb3.mono hB2.size)
      clear hS hx2 hb3 hB2 x0 x1 x2 x3 x4 x5 x6 x7 va hcat
      cases sm
      · go_wp2
        go_ret
        exact ⟨by rw [HF.out]; rfl, hB3⟩
      · go_wp2
        go_ret
        exact ⟨by rw [HF.out]; rfl, hB3⟩
    · have HF : Hid (q = hb) := Lib.hid (HY2.out rfl)
      clear HN2 HY2 hS
      go_wp2_with fail
      with_reducible refine (hT w2 (hw.below hB2) (va.vb.below hB2)).mono ?_
      rintro e w3 ⟨rfl, hb3⟩
      have hB3 := hB2.trans (hb3.mono hB2.size)
      clear hT hx2 hb3 hB2 x0 x1 x2 x3 x4 x5 x6 x7 va hcat
      go_wp2
      go_ret
      exact ⟨by rw [HF.out]; rfl, hB3⟩
  · have HF : Hid (q = me) := Lib.hid (HB.out h)
    have t : (me != 0) = true := by simpa using h
    clear HN HY HB h hx1
    go_wp2
    go_ret
    exact ⟨by rw [HF.out]; rfl, hB1⟩
end Go.Proofs.YtllgkohgcicbhaaGreatDoor
