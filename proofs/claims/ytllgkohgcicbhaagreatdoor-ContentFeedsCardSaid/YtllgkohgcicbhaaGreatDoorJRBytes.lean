/-
  Several texts joined in one file: each says at its own head, below, what it proves, and its conditions.
-/
import Derived.BigQuiet
import Derived.Deep.QuietTactic
import Derived.Deep.RegionHeld3
import Derived.Test.YtllgkohgcicbhaaGreatDoorJRProp
import Derived.Test.YtllgkohgcicbhaaGreatDoorZF
import Derived.Test.YtllgkohgcicbhaaGreatDoorJCont
import Derived.Test.YtllgkohgcicbhaaGreatDoorZD
/-
  The document's own form of chapter 7 tells whether a head is right, but for its size and values; nothing that was there is changed. Conditions: its flags are a uint64.
-/
namespace Go.Proofs.YtllgkohgcicbhaaGreatDoor
open Go.RowKit

theorem nat_of_beq {a b : Nat} (h : ((a : Int) == (b : Int)) = true) : a = b := by
 rw [beq_iff_eq] at h
 omega

set_option maxRecDepth 100000 in
set_option maxHeartbeats 8000000 in
theorem rform_any (h : He) (A : Option Addr) (cap : Nat) (w : World) (hf0 : 0 ≤ h.f) (hf1 : h.f < 18446744073709551616) :
 Calls Tryz.prog 48 #[encH h A cap] w fun e w' => e = .returned (.bool (decide (shOk h))) ∧ Below w.heap.size w w' := by
 obtain ⟨c, z, f, l⟩ := h
 unfold encH
 dsimp only at *
 obtain ⟨W0, hW0⟩ : ∃ W0, W0 = w.alloc (.cells #[.int .i64 c, .int .u64 z, .int .u64 f, .slice A l.length cap] 27) := ⟨_, rfl⟩
 have hb0 : Below w.heap.size w W0 := by rw [hW0]; exact (Below.refl _ w).alloc (Nat.le_refl _) _
 have hx : Bx W0 w.heap.size 27 [.int .i64 c, .int .u64 z, .int .u64 f, .slice A l.length cap] := by rw [hW0]; exact Bx.new w 27 [.int .i64 c, .int .u64 z, .int .u64 f, .slice A l.length cap]
 have keep : ∀ w', Below W0.heap.size W0 w' → w'.cell? ⟨w.heap.size, 0, none⟩ = some (.int .i64 c) ∧ w'.cell? ⟨w.heap.size, 2, none⟩ = some (.int .u64 f) ∧ w'.cell? ⟨w.heap.size, 3, none⟩ = some (.slice A l.length cap) := fun w' hb => ⟨(hx.kept hb).cell 0 (by simp), (hx.kept hb).cell 2 (by simp), (hx.kept hb).cell 3 (by simp)⟩
 obtain ⟨x0, x2, x3⟩ := keep W0 (Below.refl _ _)
 clear hx
 have HQ : Hid (∀ q : Bool, (q = true ↔ (c = 60 ∧ f < 65536 ∧ f % 4 = 0 ∧ (wh f).length = l.length)) → decide (shOk ⟨c, z, f, l⟩) = q) := Lib.hid (by
  intro q hq
  cases q
  · exact decide_eq_false (fun h => by have := hq.2 h; cases this)
  · exact decide_eq_true (hq.1 rfl))
 generalize decide (shOk ⟨c, z, f, l⟩) = q at HQ
 cases t1 : (c == 60)
 · have HF : Hid (q = false) := Lib.hid (HQ.out false ⟨(fun h => by cases h), fun h => by rw [h.1] at t1; cases t1⟩)
   clear HQ
   go_enter Tryz.func48, Tryz.ntmps48
   go_wp2_with fail
   rw [← hW0]
   go_quiet (fail)
   go_wp2
   go_ret
   exact ⟨by rw [HF.out]; rfl, below_drewN hb0 _⟩
 · cases t2 : decide (f < 65536)
   · have HF : Hid (q = false) := Lib.hid (HQ.out false ⟨(fun h => by cases h), fun h => by rw [decide_eq_false_iff_not] at t2; exact absurd h.2.1 t2⟩)
     clear HQ
     go_enter Tryz.func48, Tryz.ntmps48
     go_wp2_with fail
     rw [← hW0]
     go_quiet (fail)
     go_wp2
     go_ret
     exact ⟨by rw [HF.out]; rfl, below_drewN hb0 _⟩
   · have hm : f.tmod 4 = f % 4 := Int.tmod_eq_emod_of_nonneg hf0
     cases t3 : (f.tmod 4 == 0)
     · have HF : Hid (q = false) := Lib.hid (HQ.out false ⟨(fun h => by cases h), fun h => by rw [hm, h.2.2.1] at t3; cases t3⟩)
       clear HQ hm
       go_enter Tryz.func48, Tryz.ntmps48
       go_wp2_with fail
       rw [← hW0]
       go_quiet (fail)
       go_wp2
       go_ret
       exact ⟨by rw [HF.out]; rfl, below_drewN hb0 _⟩
     · have HF : Hid (q = (((wh f).length : Int) == (l.length : Int))) := Lib.hid (HQ.out _ ⟨fun h => ⟨by simpa using t1, by simpa using t2, by rw [← hm]; simpa using t3, nat_of_beq h⟩, fun h => by simp [h.2.2.2]⟩)
       have hWh := fun W => rwhich_len f W hf0 hf1
       clear HQ hm
       generalize (wh f).length = n at HF hWh
       go_enter Tryz.func48, Tryz.ntmps48
       go_wp2_with fail
       rw [← hW0]
       clear hW0
       go_region_held3 (fun w' => w'.cell? ⟨w.heap.size, 0, none⟩ = some (.int .i64 c) ∧ w'.cell? ⟨w.heap.size, 2, none⟩ = some (.int .u64 f) ∧ w'.cell? ⟨w.heap.size, 3, none⟩ = some (.slice A l.length cap)) (first | go_keep | (exact keep _ ⟨hq.os, hq.tape, hq.output, hq.size, hq.block⟩)) (first | (go_at_call 46; refine (hWh _).mono ?_; rintro e w3 ⟨A2, c2, rfl, -, hq⟩))
       have hf : Below W0.heap.size W0 w3 := ⟨hq.os, hq.tape, hq.output, hq.size, hq.block⟩
       go_wp2
       go_ret
       exact ⟨by rw [HF.out]; rfl, hb0.trans (hf.mono hb0.size)⟩
end Go.Proofs.YtllgkohgcicbhaaGreatDoor

/-
  The document's own Right and Bytes of chapter 7 answer as the plain functions say; nothing that was there is changed. Conditions: the values lie in old memory, each number a uint64, each text shorter than 2^47 bytes.
-/
namespace Go.Proofs.YtllgkohgcicbhaaGreatDoor
open Go.RowKit

set_option maxRecDepth 100000 in
set_option maxHeartbeats 1000000 in
theorem rright7_any (h : He) (A : Option Addr) (cap : Nat) (w : World) (hh : wfH h) (hA : ValsAt w A (rowV h.l)) :
 Calls Tryz.prog 35 #[encH h A cap] w fun e w' => e = .returned (.int .i64 (hE h)) ∧ Below w.heap.size w w' := by
 have hb0 : Below w.heap.size w (w.alloc (.cells #[.int .i64 h.c, .int .u64 h.z, .int .u64 h.f, .slice A h.l.length cap] 27)) := (Below.refl _ w).alloc (Nat.le_refl _) _
 have hx := Bx.new w 27 [.int .i64 h.c, .int .u64 h.z, .int .u64 h.f, .slice A h.l.length cap]
 have hF := rform_any h A cap (w.alloc (.cells #[.int .i64 h.c, .int .u64 h.z, .int .u64 h.f, .slice A h.l.length cap] 27)) hh.2.1.1 hh.2.1.2
 have hV := fun W hl hA => rvalues_any h A cap W hh hl hA
 have HE : Hid (hE h = if shE h = 0 then layEr (hLs h.f) h.l else shE h) := Lib.hid rfl
 have HS : Hid (shE h = if shOk h then (if 65536 < h.z then 4 else 0) else 7) := Lib.hid rfl
 have HO : Hid (shOk h → (wh h.f).length = h.l.length) := Lib.hid (fun h => h.2.2.2)
 unfold encH at hF hV ⊢
 generalize layEr (hLs h.f) h.l = lv at HE hV
 generalize hE h = q at HE ⊢
 generalize hsh : decide (shOk h) = b at hF
 have x0 := hx.cell 0 (by simp)
 have x1 := hx.cell 1 (by simp)
 have x2 := hx.cell 2 (by simp)
 have x3 := hx.cell 3 (by simp)
 dsimp only [List.getElem_cons_zero, List.getElem_cons_succ] at x0 x1 x2 x3
 go_enter Tryz.func35, Tryz.ntmps35
 go_wp2_with fail
 refine hF.mono ?_
 rintro e w1 ⟨rfl, hb1⟩
 have hB1 := hb0.trans (hb1.mono hb0.size)
 have hx1 := hx.kept hb1
 clear hF hx hb1 hb0 x0 x1 x2 x3
 have x0 := hx1.cell 0 (by simp)
 have x1 := hx1.cell 1 (by simp)
 have x2 := hx1.cell 2 (by simp)
 have x3 := hx1.cell 3 (by simp)
 dsimp only [List.getElem_cons_zero, List.getElem_cons_succ] at x0 x1 x2 x3
 cases b
 · have hn : ¬ shOk h := of_decide_eq_false hsh
   have HF : Hid (q = 7) := Lib.hid (by rw [HE.out, HS.out, if_neg hn, if_neg (by decide)])
   clear HE HS hn hV HO hsh
   go_wp2
   go_ret
   exact ⟨by rw [HF.out]; rfl, hB1⟩
 · have hn : shOk h := of_decide_eq_true hsh
   have hlen := HO.out hn
   by_cases hz : 65536 < h.z
   · have HF : Hid (q = 4) := Lib.hid (by rw [HE.out, HS.out, if_pos hn, if_pos hz, if_neg (by decide)])
     clear HE HS hn hV HO hsh hlen
     go_wp2
     go_ret
     exact ⟨by rw [HF.out]; rfl, hB1⟩
   · have HF : Hid (q = lv) := Lib.hid (by rw [HE.out, HS.out, if_pos hn, if_neg hz, if_pos rfl])
     have hV1 := hV w1 hlen (hA.below hB1)
     clear HE HS hn HO hsh hlen hV
     go_wp2_with fail
     refine hV1.mono ?_
     rintro e w2 ⟨rfl, hb2⟩
     go_wp2
     go_ret
     exact ⟨by rw [HF.out]; rfl, hB1.trans (hb2.mono hB1.size)⟩

theorem zip_take_succ {f : Int} {l : List MV} {k : Nat} (hk : k < (wh f).length) (hl : k < l.length) : ((hLs f).zip l).take (k + 1) = ((hLs f).zip l).take k ++ [(pLet (wh f)[k], l[k])] := by
 have h1 : k < ((hLs f).zip l).length := by rw [List.length_zip, hLs_length]; omega
 rw [List.take_succ_eq_append_getElem h1]
 simp [hLs]
theorem layEr_mem {f : Int} {l : List MV} (h : layEr (hLs f) l = 0) {k : Nat} (hk : k < (wh f).length) (hl : k < l.length) : vE (pLet (wh f)[k]) l[k] = 0 := by
 have h1 := layEr_drop k _ _ h
 rw [layEr_at hk hl] at h1
 by_cases hv : vE (pLet (wh f)[k]) l[k] = 0
 · exact hv
 · rw [if_neg hv] at h1; exact absurd h1 hv

set_option maxRecDepth 100000 in
set_option maxHeartbeats 4000000 in
theorem rbytes7_any (h : He) (A : Option Addr) (cap : Nat) (w : World) (hh : wfH h) (hA : ValsAt w A (rowV h.l)) :
 Calls Tryz.prog 28 #[encH h A cap] w fun e w' => e = .returned (.tuple #[.string (hB h), .int .i64 (hE h)]) ∧ Below w.heap.size w w' := by
 have hb0 : Below w.heap.size w (w.alloc (.cells #[.int .i64 h.c, .int .u64 h.z, .int .u64 h.f, .slice A h.l.length cap] 27)) := (Below.refl _ w).alloc (Nat.le_refl _) _
 have hx := Bx.new w 27 [.int .i64 h.c, .int .u64 h.z, .int .u64 h.f, .slice A h.l.length cap]
 have hR := rright7_any h A cap (w.alloc (.cells #[.int .i64 h.c, .int .u64 h.z, .int .u64 h.f, .slice A h.l.length cap] 27)) hh (hA.below hb0)
 have HB : Hid (hB h = if hE h = 0 then begB h ++ catP ((hLs h.f).zip h.l) else ⟨#[]⟩) := Lib.hid rfl
 have HP : Hid (hE h = 0 → shOk h ∧ layEr (hLs h.f) h.l = 0) := Lib.hid (fun he => ⟨(hE_parts he).2.1, (hE_parts he).2.2.2⟩)
 have hWh := fun W => rwhich_len h.f W hh.2.1.1 hh.2.1.2
 have hP8 := fun W => rput_any 8 h.z W hh.1.1 hh.1.2
 have hP2 := fun W => rput_any 2 h.f W hh.2.1.1 hh.2.1.2
 have HBG : Hid (shOk h → begB h = ⟨#[0, 60, 0, 0]⟩ ++ putR 8 h.z ++ putR 2 h.f ∧ (putR 8 h.z).size = 8 ∧ (putR 2 h.f).size = 2) := Lib.hid (fun hk => by
  have s3 := putR_size (put8_ok hh.1)
  have s4 := putR_size (put2_okP ⟨hh.2.1.1, hk.2.1⟩)
  have e : putR 2 60 ++ putR 2 0 = ⟨#[0, 60, 0, 0]⟩ := rfl
  refine ⟨?_, by omega, by omega⟩
  rw [begB, hk.1, e])
 have HW : Hid (∀ v ∈ h.l, wfV v) := Lib.hid hh.2.2
 unfold encH at hR ⊢
 obtain ⟨c, z, f, l⟩ := h
 dsimp only at *
 generalize hB ⟨c, z, f, l⟩ = rb at HB ⊢
 generalize hE ⟨c, z, f, l⟩ = q at HB HP hR ⊢
 generalize begB ⟨c, z, f, l⟩ = bb at HB HBG
 generalize putR 8 z = p8 at hP8 HBG
 generalize putE 8 z = e8 at hP8
 generalize putR 2 f = p2 at hP2 HBG
 generalize putE 2 f = e2 at hP2
 have hn14 := wh_le f
 clear hh
 have x0 := hx.cell 0 (by simp)
 have x1 := hx.cell 1 (by simp)
 have x2 := hx.cell 2 (by simp)
 have x3 := hx.cell 3 (by simp)
 dsimp only [List.getElem_cons_zero, List.getElem_cons_succ] at x0 x1 x2 x3
 go_enter Tryz.func28, Tryz.ntmps28
 go_wp2_with fail
 refine hR.mono ?_
 rintro e w1 ⟨rfl, hb1⟩
 have hB1 := hb0.trans (hb1.mono hb0.size)
 have hx1 := hx.kept hb1
 clear hR hx hb1 hb0 x0 x1 x2 x3
 by_cases hq : q = 0
 · subst hq
   obtain ⟨hok, hlay⟩ := HP.out rfl
   obtain ⟨hbg, s8, s2⟩ := HBG.out hok
   have HL : Hid ((wh f).length = l.length) := Lib.hid hok.2.2.2
   have HLay := Lib.hid hlay
   have HBB := Lib.hid hbg
   have HF : Hid (rb = bb ++ catP ((hLs f).zip l)) := Lib.hid (by rw [HB.out]; simp)
   have z0 : (⟨#[0, 60, 0, 0]⟩ : ByteArray).size + p8.size ≤ 9223372036854775807 := by rw [s8]; decide
   have z1 : ((⟨#[0, 60, 0, 0]⟩ : ByteArray) ++ p8).size + p2.size ≤ 9223372036854775807 := by rw [ByteArray.size_append, s8, s2]; decide
   have HS14 : Hid (((⟨#[0, 60, 0, 0]⟩ : ByteArray) ++ p8 ++ p2).size ≤ 14) := Lib.hid (by rw [ByteArray.size_append, ByteArray.size_append, s8, s2]; decide)
   clear HB HP HBG hok hlay hbg s8 s2
   obtain ⟨n, hn⟩ : ∃ n, (wh f).length = n := ⟨_, rfl⟩
   rw [hn] at hWh hn14
   have HN := Lib.hid hn
   clear hn
   have x1 := hx1.cell 1 (by simp)
   dsimp only [List.getElem_cons_zero, List.getElem_cons_succ] at x1
   go_wp2_with fail
   refine (hP8 w1).mono ?_
   rintro e w2 ⟨rfl, hb2⟩
   have hB2 := hB1.trans (hb2.mono hB1.size)
   have hx2 := hx1.kept hb2
   clear hP8 hx1 hb2 hB1 x1
   have x2 := hx2.cell 2 (by simp)
   dsimp only [List.getElem_cons_zero, List.getElem_cons_succ] at x2
   go_wp2_with fail
   refine (hP2 w2).mono ?_
   rintro e w3 ⟨rfl, hb3⟩
   have hB3 := hB2.trans (hb3.mono hB2.size)
   have hx3 := hx2.kept hb3
   clear hP2 hx2 hb3 hB2 x2
   have x2 := hx3.cell 2 (by simp)
   dsimp only [List.getElem_cons_zero, List.getElem_cons_succ] at x2
   go_wp2_with fail
   refine (hWh w3).mono ?_
   rintro e w4 ⟨A2, c2, rfl, hV2, hb4⟩
   have hB4 := hB3.trans (hb4.mono hB3.size)
   have hx4 := hx3.kept hb4
   have hA4 := hA.below hB4
   clear hWh hx3 hb4 hB3 x2 z0 z1 hA
   generalize hout : ((⟨#[0, 60, 0, 0]⟩ : ByteArray) ++ p8 ++ p2) = out0 at *
   clear hout
   go_wp2_with fail
   go_loopw [9, 11] (fun o v wr => ∃ k : Nat, k ≤ n ∧ v = .int .i64 k ∧ (∃ out, o = .string out ∧ Hid (out = bb ++ catP (((hLs f).zip l).take k)) ∧ Hid (out.size ≤ 14 + k * 4294967400)) ∧ Below w4.heap.size w4 wr) (fun _ v _ => n - (intOf v).toNat)
   case atStart => exact ⟨0, Nat.zero_le _, rfl, ⟨out0, rfl, Lib.hid (by rw [List.take_zero, HBB.out]; exact (ba_append_e _).symm), Lib.hid (by have := HS14.out; omega)⟩, Below.refl _ _⟩
   case round =>
    obtain ⟨k, hk, rfl, ⟨out, rfl, HO, HOz⟩, hb⟩ := hrel
    by_cases hlt : k < n
    · have hkw : k < (wh f).length := by rw [HN.out]; exact hlt
      have hkl : k < l.length := by rw [← HL.out]; exact hkw
      obtain ⟨b1, o1, rfl, hl1, g1⟩ := vals_v hA4 (by omega)
      obtain ⟨b2, o2, rfl, hl2, g2⟩ := vals_i hV2 (by omega)
      obtain ⟨c1, c1'⟩ := g1 k hkl
      have d1 := g2 k hkw
      have hidx := fun W => index_let (wh f)[k] W
      have HNx : Hid (out ++ vB (pLet (wh f)[k]) l[k] = bb ++ catP (((hLs f).zip l).take (k + 1))) := Lib.hid (by rw [HO.out, zip_take_succ hkw hkl, catP_snoc, ByteArray.append_assoc])
      have HVz : Hid ((vB (pLet (wh f)[k]) l[k]).size ≤ 4294967400) := Lib.hid (vB_size (layEr_mem HLay.out hkw hkl))
      have hwf := HW.out l[k] (List.getElem_mem hkl)
      have e1 : IntKind.i64.wrap ((k : Int) + 1) = ((k + 1 : Nat) : Int) := by simp only [IntKind.wrap_i64]; omega
      have hc := pLet_cases (wh f)[k]
      clear g1 g2 hA4 hV2 HO
      generalize pLet (wh f)[k] = lt at hidx HNx HVz hc
      generalize (((wh f)[k]).1 : Int) = ix at hidx d1
      generalize l[k] = u at *
      obtain ⟨un, us⟩ := u
      obtain ⟨v1, v2, v3⟩ := hwf
      dsimp only at *
      have y0 := (hb.cell (p := ⟨b2, o2 + k, none⟩) hl2).trans d1
      have y1 := (hx4.kept hb).cell 3 (by simp)
      have y2 := (hb.cell (p := ⟨b1, o1 + k * 2, none⟩) hl1).trans c1
      have y3 := (hb.cell (p := ⟨b1, o1 + k * 2 + 1, none⟩) hl1).trans c1'
      dsimp only [List.getElem_cons_zero, List.getElem_cons_succ] at y1
      have hv := Bx.new wr 58 [.int .u64 un, .string us]
      have hbv : Below wr.heap.size wr (wr.alloc (.cells #[.int .u64 un, .string us] 58)) := (Below.refl _ wr).alloc (Nat.le_refl _) _
      have q0 := hv.cell 0 (by simp)
      have q1 := hv.cell 1 (by simp)
      dsimp only [List.getElem_cons_zero, List.getElem_cons_succ] at q0 q1
      have hbV := hb.trans (hbv.mono hb.size)
      clear c1 c1' d1 hx4 hbv
      rcases hc with rfl | rfl | rfl | rfl
      · have HV : Hid (vB 83 ⟨un, us⟩ = layR 1 us) := Lib.hid rfl
        have hC := rshort_any us (wr.alloc (.cells #[.int .u64 un, .string us] 58)) (by omega)
        rw [show (((83 : UInt8).toNat : Nat) : Int) = 83 from rfl] at hidx
        generalize layR 1 us = vb at hC HV
        generalize layE 1 us = ve at hC
        have hz : out.size + vb.size ≤ 9223372036854775807 := by have h1 := HOz.out; have h2 := HVz.out; rw [HV.out] at h2; omega
        clear v1 v2 v3 hv
        go_wp2_with fail
        refine hC.mono ?_
        rintro e w6 ⟨rfl, hb6⟩
        have hb7 := hbV.trans (hb6.mono hbV.size)
        clear hC hb6
        go_wp2
        go_roundw
        case rel => exact ⟨k + 1, hlt, rfl, ⟨_, rfl, Lib.hid (by rw [← HNx.out, HV.out]), Lib.hid (by have h1 := HOz.out; have h2 := HVz.out; rw [HV.out] at h2; rw [ByteArray.size_append]; omega)⟩, hb7⟩
        case measure => simp only [intOf]; omega
      · have HV : Hid (vB 84 ⟨un, us⟩ = us) := Lib.hid rfl
        rw [show (((84 : UInt8).toNat : Nat) : Int) = 84 from rfl] at hidx
        have hz : out.size + us.size ≤ 9223372036854775807 := by have h1 := HOz.out; have h2 := HVz.out; rw [HV.out] at h2; omega
        clear v1 v2 v3 hv
        go_wp2
        go_roundw
        case rel => exact ⟨k + 1, hlt, rfl, ⟨_, rfl, Lib.hid (by rw [← HNx.out, HV.out]), Lib.hid (by have h1 := HOz.out; have h2 := HVz.out; rw [HV.out] at h2; rw [ByteArray.size_append]; omega)⟩, hbV⟩
        case measure => simp only [intOf]; omega
      · have HV : Hid (vB 111 ⟨un, us⟩ = putR 1 un) := Lib.hid rfl
        have hC := rput_any 1 un (wr.alloc (.cells #[.int .u64 un, .string us] 58)) v1 v2
        rw [show (((111 : UInt8).toNat : Nat) : Int) = 111 from rfl] at hidx
        generalize putR 1 un = vb at hC HV
        generalize putE 1 un = ve at hC
        have hz : out.size + vb.size ≤ 9223372036854775807 := by have h1 := HOz.out; have h2 := HVz.out; rw [HV.out] at h2; omega
        clear v1 v2 v3 hv
        go_wp2_with fail
        refine hC.mono ?_
        rintro e w6 ⟨rfl, hb6⟩
        have hb7 := hbV.trans (hb6.mono hbV.size)
        clear hC hb6
        go_wp2
        go_roundw
        case rel => exact ⟨k + 1, hlt, rfl, ⟨_, rfl, Lib.hid (by rw [← HNx.out, HV.out]), Lib.hid (by have h1 := HOz.out; have h2 := HVz.out; rw [HV.out] at h2; rw [ByteArray.size_append]; omega)⟩, hb7⟩
        case measure => simp only [intOf]; omega
      · have HV : Hid (vB 113 ⟨un, us⟩ = putR 8 un) := Lib.hid rfl
        have hC := rput_any 8 un (wr.alloc (.cells #[.int .u64 un, .string us] 58)) v1 v2
        rw [show (((113 : UInt8).toNat : Nat) : Int) = 113 from rfl] at hidx
        generalize putR 8 un = vb at hC HV
        generalize putE 8 un = ve at hC
        have hz : out.size + vb.size ≤ 9223372036854775807 := by have h1 := HOz.out; have h2 := HVz.out; rw [HV.out] at h2; omega
        clear v1 v2 v3 hv
        go_wp2_with fail
        refine hC.mono ?_
        rintro e w6 ⟨rfl, hb6⟩
        have hb7 := hbV.trans (hb6.mono hbV.size)
        clear hC hb6
        go_wp2
        go_roundw
        case rel => exact ⟨k + 1, hlt, rfl, ⟨_, rfl, Lib.hid (by rw [← HNx.out, HV.out]), Lib.hid (by have h1 := HOz.out; have h2 := HVz.out; rw [HV.out] at h2; rw [ByteArray.size_append]; omega)⟩, hb7⟩
        case measure => simp only [intOf]; omega
    · obtain rfl : k = n := by omega
      have HR : Hid (rb = out) := Lib.hid (by rw [HF.out, HO.out, List.take_of_length_le (by rw [List.length_zip, hLs_length, HN.out, ← HL.out, HN.out]; omega)])
      clear HO HOz
      go_wp2
      go_ret2
      exact ⟨by rw [HR.out]; rfl, hB4.trans (hb.mono hB4.size)⟩
 · have HF : Hid (rb = ⟨#[]⟩) := Lib.hid (by rw [HB.out, if_neg hq])
   have t : (q != 0) = true := by simpa using hq
   clear HB HP HBG hWh hP8 hP2 hA
   go_wp2
   go_ret2
   exact ⟨by rw [HF.out]; rfl, hB1⟩
end Go.Proofs.YtllgkohgcicbhaaGreatDoor
