/-
  The document's own content and Right of chapter 8 answer as the plain functions say; nothing that was there is changed. Conditions: the values lie in old memory, each number a uint64, each text shorter than 2^47 bytes.
-/
import Derived.Test.YtllgkohgcicbhaaGreatDoorZH
import Derived.Test.YtllgkohgcicbhaaGreatDoorRMRight
import Derived.Test.YtllgkohgcicbhaaGreatDoorJRBytes
namespace Go.Proofs.YtllgkohgcicbhaaGreatDoor
open Go.RowKit

set_option maxHeartbeats 2000000 in
theorem rcont_any (m : Me) (A : Option Addr) (cap : Nat) (w : World) :
 Calls Tryz.prog 23 #[encM m A cap] w fun e w' => e = .returned (.bool (fol m)) ∧ Below w.heap.size w w' := by
 have hb0 : Below w.heap.size w (w.alloc (.cells #[.int .i64 m.c, .int .i64 m.i, .slice A m.l.length cap] 24)) := (Below.refl _ w).alloc (Nat.le_refl _) _
 have hC := rcontent_any m.c m.i (w.alloc (.cells #[.int .i64 m.c, .int .i64 m.i, .slice A m.l.length cap] 24))
 have HQ : Hid (fol m = sCont m.c m.i) := Lib.hid rfl
 generalize fol m = q at HQ ⊢
 generalize sCont m.c m.i = q' at HQ hC
 obtain ⟨c, i, l⟩ := m
 unfold encM
 dsimp only at *
 go_enter Tryz.func23, Tryz.ntmps23
 go_wp2_with fail
 with_reducible refine hC.mono ?_
 rintro e w1 ⟨rfl, rfl⟩
 clear hC
 go_wp2
 go_ret
 exact ⟨by rw [HQ.out]; rfl, hb0⟩

theorem wrap_z {z : Int} {n : Nat} (hz : 0 ≤ z ∧ z < 18446744073709551616) (hn : n < 4611686018427387904) : (IntKind.i64.wrap z = (n : Int)) ↔ z = (n : Int) := by
 simp only [IntKind.wrap_i64]
 omega
theorem cE_noR {c : Cm} (h1 : mE c.m = 0) (h2 : fol c.m = false) : cE c = if sameH c.h noH = true then (if c.b.size = 0 then 0 else 3) else 3 := by
 rw [cE, if_pos h1, if_neg (by simp [h2])]
 have e : (sameH c.h noH = true) ↔ (c.h.c = 0 ∧ c.h.z = 0 ∧ c.h.f = 0 ∧ c.h.l.length = 0) := by
  rw [sameH_iff]
  obtain ⟨m, ⟨x, z, f, l⟩, b⟩ := c
  simp only [noH, He.mk.injEq]
  exact ⟨fun ⟨a, b, c, d⟩ => ⟨a, b, c, by rw [d]; rfl⟩, fun ⟨a, b, c, d⟩ => ⟨a, b, c, List.eq_nil_of_length_eq_zero d⟩⟩
 by_cases h3 : sameH c.h noH = true
 · obtain ⟨g1, g2, g3, g4⟩ := e.1 h3
   rw [if_pos h3]
   by_cases h4 : c.b.size = 0
   · rw [if_pos h4, if_pos ⟨g1, g2, g3, g4, h4⟩]
   · rw [if_neg h4, if_neg (fun h => h4 h.2.2.2.2)]
 · rw [if_neg h3, if_neg (fun h => h3 (e.2 ⟨h.1, h.2.1, h.2.2.1, h.2.2.2.1⟩))]
theorem cE_yesR {c : Cm} (h1 : mE c.m = 0) (h2 : fol c.m = true) : cE c = if hE c.h = 0 then (if c.h.z = c.b.size then 0 else 3) else hE c.h := by
 rw [cE, if_pos h1, if_pos h2]

set_option maxRecDepth 100000 in
set_option maxHeartbeats 2000000 in
theorem rright8_any (c : Cm) (A B : Option Addr) (ca cb : Nat) (w : World) (hwf : wfC c) (hc : CmAt w c A B ca cb) (hl : shortC c) (hs : c.b.size < 4611686018427387904) :
 Calls Tryz.prog 16 #[encC c A B ca cb] w fun e w' => e = .returned (.int .i64 (cE c)) ∧ Below w.heap.size w w' := by
 obtain ⟨W0, hW0⟩ : ∃ W0, W0 = w.alloc (.cells (cellsC c A B ca cb).toArray 29) := ⟨_, rfl⟩
 have hb0 : Below w.heap.size w W0 := by rw [hW0]; exact (Below.refl _ w).alloc (Nat.le_refl _) _
 have hx : Bx W0 w.heap.size 29 (cellsC c A B ca cb) := by rw [hW0]; exact Bx.new w 29 (cellsC c A B ca cb)
 have hR := rright6_any c.m A ca W0 hwf.1 (hc.va.below hb0)
 have hF := fun W => rcont_any c.m A ca W
 have hT := fun W hV => rright7_any c.h B cb W hwf.2 hV
 have hS := fun W h1 h2 => rpsame_any c.h noH B none cb 0 W h1 h2 hl.2
 have hnil : ∀ W, ValsAt W none (rowV noH.l) := fun W h' => by simp [noH, rowV] at h'
 have HN : Hid (mE c.m = 0 → fol c.m = false → cE c = if sameH c.h noH = true then (if c.b.size = 0 then 0 else 3) else 3) := Lib.hid (fun a b => cE_noR a b)
 have HY : Hid (mE c.m = 0 → fol c.m = true → cE c = if hE c.h = 0 then (if c.h.z = c.b.size then 0 else 3) else hE c.h) := Lib.hid (fun a b => cE_yesR a b)
 have HB : Hid (¬ mE c.m = 0 → cE c = mE c.m) := Lib.hid (fun h => by rw [cE, if_neg h])
 have HZ := Lib.hid (wrap_z (z := c.h.z) (n := c.b.size) hwf.2.1 hs)
 generalize sameH c.h noH = sm at hS HN
 generalize hE c.h = he at hT HY
 generalize cE c = q at HN HY HB ⊢
 generalize fol c.m = fl at hF HN HY
 generalize mE c.m = me at hR HN HY HB
 have vb := hc.vb
 unfold encM at hR hF
 unfold encH at hT hS
 unfold encC
 unfold cellsC at hx hW0
 clear hl hwf hc
 obtain ⟨⟨mc, mi, ml⟩, ⟨hc', hz', hf, hl⟩, sb⟩ := c
 dsimp only [noH, List.length_nil] at hR hF hT hS hx hW0 hs HN HY HB HZ vb hnil ⊢
 go_enter Tryz.func16, Tryz.ntmps16
 go_wp2_with fail
 rw [← hW0]
 clear hW0
 obtain ⟨x0, x1, x2, x3, x4, x5, x6, x7⟩ := hx.eight
 go_wp2_with fail
 with_reducible refine hR.mono ?_
 rintro e w1 ⟨rfl, hb1⟩
 have hB1 := hb0.trans (hb1.mono hb0.size)
 have hx1 := hx.kept hb1
 clear hR hx hb1 hb0 x0 x1 x2 x3 x4 x5 x6 x7
 by_cases h : me = 0
 · obtain ⟨x0, x1, x2, x3, x4, x5, x6, x7⟩ := hx1.eight
   have HN2 : Hid (fl = false → q = if sm = true then (if sb.size = 0 then 0 else 3) else 3) := Lib.hid (HN.out h)
   have HY2 : Hid (fl = true → q = if he = 0 then (if hz' = sb.size then 0 else 3) else he) := Lib.hid (HY.out h)
   subst h
   clear HN HY HB
   go_wp2_with fail
   with_reducible refine (hF w1).mono ?_
   rintro e w2 ⟨rfl, hb2⟩
   have hB2 := hB1.trans (hb2.mono hB1.size)
   have hx2 := hx1.kept hb2
   clear hF hx1 hb2 hB1 x0 x1 x2 x3 x4 x5 x6 x7
   obtain ⟨x0, x1, x2, x3, x4, x5, x6, x7⟩ := hx2.eight
   cases fl
   · have HF : Hid (q = if sm = true then (if sb.size = 0 then 0 else 3) else 3) := Lib.hid (HN2.out rfl)
     clear HN2 HY2 hT
     go_wp2_with fail
     with_reducible refine (hS w2 (vb.below hB2) (hnil _)).mono ?_
     rintro e w3 ⟨rfl, hb3⟩
     have hB3 := hB2.trans (hb3.mono hB2.size)
     have hx3 := hx2.kept hb3
     clear hS hx2 hb3 hB2 x0 x1 x2 x3 x4 x5 x6 x7 vb hnil
     obtain ⟨x0, x1, x2, x3, x4, x5, x6, x7⟩ := hx3.eight
     cases sm
     · have HF2 : Hid (q = 3) := Lib.hid (by rw [HF.out]; rfl)
       clear HF
       go_wp2
       go_ret
       exact ⟨by rw [HF2.out]; rfl, hB3⟩
     · by_cases h0 : sb.size = 0
       · have HF2 : Hid (q = 0) := Lib.hid (by rw [HF.out, if_pos rfl, if_pos h0])
         have t : decide ((0 : Int) < (sb.size : Int)) = false := decide_eq_false (by omega)
         clear HF
         go_wp2
         go_ret
         exact ⟨by rw [HF2.out]; rfl, hB3⟩
       · have HF2 : Hid (q = 3) := Lib.hid (by rw [HF.out, if_pos rfl, if_neg h0])
         have t : decide ((0 : Int) < (sb.size : Int)) = true := decide_eq_true (by omega)
         clear HF
         go_wp2
         go_ret
         exact ⟨by rw [HF2.out]; rfl, hB3⟩
   · have HF : Hid (q = if he = 0 then (if hz' = sb.size then 0 else 3) else he) := Lib.hid (HY2.out rfl)
     clear HN2 HY2 hS
     go_wp2_with fail
     with_reducible refine (hT w2 (vb.below hB2)).mono ?_
     rintro e w3 ⟨rfl, hb3⟩
     have hB3 := hB2.trans (hb3.mono hB2.size)
     have hx3 := hx2.kept hb3
     clear hT hx2 hb3 hB2 x0 x1 x2 x3 x4 x5 x6 x7 vb hnil
     obtain ⟨x0, x1, x2, x3, x4, x5, x6, x7⟩ := hx3.eight
     by_cases hh : he = 0
     · have HF2 : Hid (q = if hz' = sb.size then 0 else 3) := Lib.hid (by rw [HF.out, if_pos hh])
       subst hh
       clear HF
       obtain ⟨zw, hzw⟩ : ∃ zw, IntKind.i64.wrap hz' = zw := ⟨_, rfl⟩
       rw [hzw] at HZ
       by_cases h0 : hz' = sb.size
       · have HF3 : Hid (q = 0) := Lib.hid (by rw [HF2.out, if_pos h0])
         have t : (zw != (sb.size : Int)) = false := by have := HZ.out.2 h0; simpa using this
         clear HF2 HZ h0
         go_wp2
         go_ret
         exact ⟨by rw [HF3.out]; rfl, hB3⟩
       · have HF3 : Hid (q = 3) := Lib.hid (by rw [HF2.out, if_neg h0])
         have t : (zw != (sb.size : Int)) = true := by have := fun h => h0 (HZ.out.1 h); simpa using this
         clear HF2 HZ h0
         go_wp2
         go_ret
         exact ⟨by rw [HF3.out]; rfl, hB3⟩
     · have HF2 : Hid (q = he) := Lib.hid (by rw [HF.out, if_neg hh])
       have t : (he != 0) = true := by simpa using hh
       clear HF hh
       go_wp2
       go_ret
       exact ⟨by rw [HF2.out]; rfl, hB3⟩
 · have HF : Hid (q = me) := Lib.hid (HB.out h)
   have t : (me != 0) = true := by simpa using h
   clear HN HY HB h hx1
   go_wp2
   go_ret
   exact ⟨by rw [HF.out]; rfl, hB1⟩
end Go.Proofs.YtllgkohgcicbhaaGreatDoor
