/-
  DialRises: where a connection is never goes back; what it says is right, if its tune may be and its name is short enough; where it refuses it is as it was: the law returns true, and changes nothing that was there. Conditions: the table of widths is as its text lays it; the methods' values are numbers and texts of fewer than 2^47 bytes, and lie in old memory; the user has fewer than 2^60 bytes.
-/
import Derived.Deep.RegionHeld3
import Derived.Test.YtkdiccedkjbpeaaGreatDoorRGMs
import Derived.Test.YtkdiccedkjbpeaaGreatDoorRKN
import Derived.Test.YtkdiccedkjbpeaaGreatDoorRRS10Right
import Derived.Test.YtkdiccedkjbpeaaGreatDoorRWBeginD
import Derived.Test.YtkdiccedkjbpeaaGreatDoorRWDial6
import Derived.Test.YtkdiccedkjbpeaaGreatDoorRKK
namespace Go.Proofs.YtkdiccedkjbpeaaGreatDoorR
open Go.RowKit

set_option maxRecDepth 100000 in
set_option maxHeartbeats 6000000 in
theorem dialRises_walk (c f b : Int) (us : ByteArray) (A : Option Addr) (n cap : Nat) (F : Nat → Me) (G : Nat → Option Addr) (K : Nat → Nat) (w : World) (hw : Wid w) (hM : ∀ i, i < n → ∃ b off, A = some ⟨b, off, none⟩ ∧ b < w.heap.size ∧ MsAt w ⟨b, off + i * 3, none⟩ (F i) (G i) (K i)) (hv : ∀ i, i < n → wfM (F i)) (hu : us.size < 1152921504606846976) : Calls Tryz.prog 4 #[.agg #[.int .i64 c, .int .i64 f, .int .i64 b], .string us, .slice A n cap] w fun e w' => e = .returned (.bool true) ∧ Below w.heap.size w w' := by
  have hSh0 := fun W => dshown_any W
  have hTk := fun h i (hi : i < n) (hI : DIn h) W (hb : Below w.heap.size w W) => dTake_any h (F i) (G i) (K i) W (hw.below hb) (hv i hi) ((hM i hi).choose_spec.choose_spec.2.2.2.2.2.below hb) (by have := hI.st; omega) (by have := hI.us; omega) (by have := hI.wo; omega) (fun k => by have h := (argV_wf (hv i hi) k).2.2; omega)
  unfold DnPost encHd encM at hTk
  have HTk := Lib.hid hTk
  clear hTk
  have HM : Hid (∀ i, i < n → ∃ b off, A = some ⟨b, off, none⟩ ∧ b < w.heap.size ∧ MsAt w ⟨b, off + i * 3, none⟩ (F i) (G i) (K i)) := Lib.hid hM
  have HV := Lib.hid hv
  clear hM hv
  obtain ⟨W0, hW0⟩ : ∃ W0, W0 = w.alloc (.cells #[.int .i64 c, .int .i64 f, .int .i64 b] 23) := ⟨_, rfl⟩
  have hb0 : Below w.heap.size w W0 := by rw [hW0]; exact (Below.refl _ w).alloc (Nat.le_refl _) _
  have hx : Bx W0 w.heap.size 23 [.int .i64 c, .int .i64 f, .int .i64 b] := by rw [hW0]; exact Bx.new w _ _
  have hSh := hSh0 W0
  have hBg := fun W => dBegin_any c f b us ⟨#[119]⟩ ⟨#[47]⟩ W (by have e : (⟨#[119]⟩ : ByteArray).size = 1 := rfl; omega)
  obtain ⟨E, hE⟩ : ∃ E, bgE (tRight c f b) us ⟨#[119]⟩ ⟨#[47]⟩ = E := ⟨_, rfl⟩
  rw [hE] at hBg
  have hE01 : (E = 0 ∧ tRight c f b = true) ∨ E = 1 := by
    rw [← hE, bgE]
    split
    · rename_i hq
      exact .inl ⟨rfl, hq.1⟩
    · exact .inr rfl
  clear hSh0 hw hE
  go_enter Tryz.func4, Tryz.ntmps4
  go_wp2_with fail
  rw [← hW0]
  clear hW0
  with_reducible refine hSh.mono ?_
  rintro e w1 ⟨rfl, hb1⟩
  have hB := hb0.trans (hb1.mono hb0.size)
  replace hx := hx.kept hb1
  clear hSh hb0 hb1
  obtain ⟨x0, x1, x2⟩ := hx.three
  have hBg1 := hBg w1
  clear hBg
  rcases hE01 with ⟨rfl, hR⟩ | rfl
  case inr =>
    rw [bgT_no, zTup] at hBg1
    go_wp2_with fail
    with_reducible refine hBg1.mono ?_
    rintro e w2 ⟨rfl, hb2⟩
    have hB2 := hB.trans (hb2.mono hB.size)
    have hB3 := hB2.alloc hB2.size (.cells #[.int .i64 0, .int .i64 0, .int .i64 0, .int .i64 0, .string ⟨#[]⟩, .string ⟨#[]⟩, .string ⟨#[]⟩] 28)
    clear hBg1 hB hb2 x0 x1 x2
    have hB := hB3
    clear hB3
    go_wp2
    all_goals
      go_ret
      exact ⟨rfl, hB⟩
  case inl =>
    rw [bgT_yes] at hBg1
    have HR := Lib.hid hR
    clear hR
    go_wp2_with fail
    with_reducible refine hBg1.mono ?_
    rintro e w2 ⟨rfl, hb2⟩
    have hB2 := hB.trans (hb2.mono hB.size)
    clear hBg1 x0 x1 x2 hx
    obtain ⟨W3, hW3⟩ : ∃ W3, W3 = w2.alloc (.cells #[.int .i64 1, .int .i64 c, .int .i64 f, .int .i64 b, .string us, .string ⟨#[119]⟩, .string ⟨#[47]⟩] 28) := ⟨_, rfl⟩
    have hb3 : Below w2.heap.size w2 W3 := by rw [hW3]; exact (Below.refl _ w2).alloc (Nat.le_refl _) _
    have hh : Bx W3 w2.heap.size 28 [.int .i64 1, .int .i64 c, .int .i64 f, .int .i64 b, .string us, .string ⟨#[119]⟩, .string ⟨#[47]⟩] := by rw [hW3]; exact Bx.new w2 _ _
    have hB3 := hB2.trans (hb3.mono hB2.size)
    have hl3 := hB2.size
    clear hb2 hb3 hB2 hB
    have hB := hB3
    clear hB3
    go_upto_region 3 with fail
    rw [← hW3]
    clear hW3
    by_cases h60 : (60 : Int) < (n : Int)
    · go_wp2
      all_goals
        go_ret
        exact ⟨rfl, hB⟩
    by_cases h1000 : (1000 : Int) < (us.size : Int)
    · go_wp2
      all_goals
        go_ret
        exact ⟨rfl, hB⟩
    · go_wp2_with fail
      have HI : Hid (DIn ⟨1, c, f, b, us, ⟨#[119]⟩, ⟨#[47]⟩⟩) := Lib.hid ⟨(show (1 : Int) ≤ 1 ∧ (1 : Int) ≤ 6 by decide), HR.out, by dsimp only; omega, (show (1 : Nat) ≤ 1000 by decide), by rw [layOk_one]; rfl⟩
      clear HR
      go_loopw [10] (fun v wr => ∃ (i : Nat) (h : Hd), i ≤ n ∧ v = .int .i64 i ∧ Bx wr w2.heap.size 28 (cellsHd h) ∧ Hid (DIn h) ∧ Below w.heap.size w wr) (fun v _ => n - (intOf v).toNat)
      case atStart => exact ⟨0, ⟨1, c, f, b, us, ⟨#[119]⟩, ⟨#[47]⟩⟩, Nat.zero_le _, rfl, hh, HI, hB⟩
      case round =>
        obtain ⟨i, h, hi, rfl, hbx, HRr, hbr⟩ := hrel
        clear hh hB HI
        by_cases hlt : i < n
        · obtain ⟨b1, off, hA, hbl, hMs⟩ := HM.out i hlt
          subst hA
          obtain ⟨g0, g1, g2, -⟩ := hMs
          rw [Addr.add_lit] at g1 g2
          have hT := fun W (hb : Below w.heap.size w W) => HTk.out h i hlt HRr.out W hb
          obtain ⟨hR1, hR2⟩ := dTake_ok h (F i) HRr.out
          have hR3 := (dTake_rises h (F i) HRr.out.tune (HV.out i hlt)).1
          have hR4 := dTake_kept h (F i)
          unfold DnKept at hR4
          generalize dTake h (F i) = r at hT hR1 hR2 hR3 hR4
          generalize K i = kk at hT g2
          generalize G i = gg at hT g2
          generalize F i = mm at hT g0 g1 g2
          obtain ⟨mc, mi, ml⟩ := mm
          obtain ⟨q0, q1, q2, q3, q4, q5, q6⟩ := h
          obtain ⟨⟨p0, p1, p2, p3, p4, p5, p6⟩, ps, pe⟩ := r
          unfold cellsHd at hbx
          dsimp only at hT hR1 hR2 hR3 hR4 hbx g0 g1 g2
          have HR1 := Lib.hid hR1
          have HR2 := Lib.hid hR2
          have HR3 := Lib.hid hR3
          have HR4 := Lib.hid hR4
          clear hR1 hR2 hR3 hR4 HRr
          have hbs := hbr.size
          have hcl := hbx.lt
          have keep : ∀ w', Below wr.heap.size wr w' → w'.cell? ⟨w2.heap.size, 0, none⟩ = some (.int .i64 q0) ∧ w'.cell? ⟨w2.heap.size, 1, none⟩ = some (.int .i64 q1) ∧ w'.cell? ⟨w2.heap.size, 2, none⟩ = some (.int .i64 q2) ∧ w'.cell? ⟨w2.heap.size, 3, none⟩ = some (.int .i64 q3) ∧ w'.cell? ⟨w2.heap.size, 4, none⟩ = some (.string q4) ∧ w'.cell? ⟨w2.heap.size, 5, none⟩ = some (.string q5) ∧ w'.cell? ⟨w2.heap.size, 6, none⟩ = some (.string q6) ∧ w'.cell? ⟨b1, off + i * 3, none⟩ = some (.int .i64 mc) ∧ w'.cell? ⟨b1, off + i * 3 + 1, none⟩ = some (.int .i64 mi) ∧ w'.cell? ⟨b1, off + i * 3 + 2, none⟩ = some (.slice gg ml.length kk) := fun w' h =>
            have hb' := hbr.trans (h.mono hbr.size)
            ⟨(hbx.kept h).seven.1, (hbx.kept h).seven.2.1, (hbx.kept h).seven.2.2.1, (hbx.kept h).seven.2.2.2.1, (hbx.kept h).seven.2.2.2.2.1, (hbx.kept h).seven.2.2.2.2.2.1, (hbx.kept h).seven.2.2.2.2.2.2, (hb'.cell (p := ⟨b1, off + i * 3, none⟩) hbl).trans g0, (hb'.cell (p := ⟨b1, off + i * 3 + 1, none⟩) hbl).trans g1, (hb'.cell (p := ⟨b1, off + i * 3 + 2, none⟩) hbl).trans g2⟩
          have hq1 : Below wr.heap.size wr wr.drew := (Below.refl _ wr).drew
          have hq2 : Below wr.heap.size wr (wr.alloc (.cells #[.int .i64 0, .int .i64 0, .int .i64 0, .int .i64 0, .string ⟨#[]⟩, .string ⟨#[]⟩, .string ⟨#[]⟩] 28)).drew := ((Below.refl _ wr).alloc (Nat.le_refl _) _).drew
          have hz2 : Bx (wr.alloc (.cells #[.int .i64 0, .int .i64 0, .int .i64 0, .int .i64 0, .string ⟨#[]⟩, .string ⟨#[]⟩, .string ⟨#[]⟩] 28)).drew wr.heap.size 28 [.int .i64 0, .int .i64 0, .int .i64 0, .int .i64 0, .string ⟨#[]⟩, .string ⟨#[]⟩, .string ⟨#[]⟩] := Bx.new wr 28 [.int .i64 0, .int .i64 0, .int .i64 0, .int .i64 0, .string ⟨#[]⟩, .string ⟨#[]⟩, .string ⟨#[]⟩]
          have hT1 := hT _ (hbr.trans (hq1.mono hbr.size))
          have hT2 := hT _ (hbr.trans (hq2.mono hbr.size))
          have i0 : (0 : Int) ≤ (i : Int) := by omega
          have i1 : (i : Int) < (n : Int) := by omega
          clear hT g0 g1 g2
          go_upto_region 8 with fail
          go_cut [11, 12, 13] from 35 to 76 (fun p l e wx => (∃ nb A9 k9 c9, p = .pointer (some ⟨nb, 0, none⟩) ∧ l = .slice A9 k9 c9 ∧ wr.heap.size ≤ nb ∧ Bx wx nb 28 [.int .i64 p0, .int .i64 p1, .int .i64 p2, .int .i64 p3, .string p4, .string p5, .string p6] ∧ DSaid 0 wx A9 k9 ps) ∧ e = .int .i64 pe ∧ Below wr.heap.size wr wx)
          case first =>
            go_region_held3 (fun w' => w'.cell? ⟨w2.heap.size, 0, none⟩ = some (.int .i64 q0) ∧ w'.cell? ⟨w2.heap.size, 1, none⟩ = some (.int .i64 q1) ∧ w'.cell? ⟨w2.heap.size, 2, none⟩ = some (.int .i64 q2) ∧ w'.cell? ⟨w2.heap.size, 3, none⟩ = some (.int .i64 q3) ∧ w'.cell? ⟨w2.heap.size, 4, none⟩ = some (.string q4) ∧ w'.cell? ⟨w2.heap.size, 5, none⟩ = some (.string q5) ∧ w'.cell? ⟨w2.heap.size, 6, none⟩ = some (.string q6) ∧ w'.cell? ⟨b1, off + i * 3, none⟩ = some (.int .i64 mc) ∧ w'.cell? ⟨b1, off + i * 3 + 1, none⟩ = some (.int .i64 mi) ∧ w'.cell? ⟨b1, off + i * 3 + 2, none⟩ = some (.slice gg ml.length kk)) (first | (with_reducible exact keep _ hf) | (with_reducible exact keep _ hfS) | (with_reducible exact keep _ (hf.alloc hf.size _)) | (with_reducible exact keep _ hq1) | (with_reducible exact keep _ hq2)) (first | (go_at_call 10; with_reducible refine hT1.mono ?_; rintro e w9 ⟨A9, k9, c9, rfl, hS, hr9⟩; have hf : Below wr.heap.size wr w9 := hq1.trans (hr9.mono hq1.size)) | (go_at_call 10; with_reducible refine hT2.mono ?_; rintro e w9 ⟨A9, k9, c9, rfl, hS, hr9⟩; have hf : Below wr.heap.size wr w9 := hq2.trans (hr9.mono hq2.size); obtain ⟨a0, f0, a1, f1, a2, f2, a3, f3, a4, f4, a5, f5, a6, f6, bS⟩ := (hz2.kept hr9).store7 (.int .i64 p0) (.int .i64 p1) (.int .i64 p2) (.int .i64 p3) (.string p4) (.string p5) (.string p6); have hfS := below_store7 hf (B := wr.heap.size) (Nat.le_refl _) (.int .i64 p0) (.int .i64 p1) (.int .i64 p2) (.int .i64 p3) (.string p4) (.string p5) (.string p6); have hlz := hz2.lt))
            all_goals
              go_wp2_with fail
              go_meet
              case rel => first | (have hfT := hfS; exact ⟨⟨_, _, _, _, rfl, rfl, Nat.le_refl _, bS, hS.store7 (n' := 0) (Nat.zero_le _) (by omega) (.int .i64 p0) (.int .i64 p1) (.int .i64 p2) (.int .i64 p3) (.string p4) (.string p5) (.string p6)⟩, rfl, hfT⟩) | exact ⟨⟨_, _, _, _, rfl, rfl, hf.size, Bx.new w9 _ _, hS.below (Nat.zero_le _) ((Below.refl _ w9).alloc (Nat.le_refl _) _)⟩, rfl, hf.alloc hf.size _⟩
          case rest =>
            obtain ⟨⟨nb, A9, k9, c9, rfl, rfl, hnb, hk, hS⟩, rfl, hc⟩ := hcut
            have hRt := rights_dsaid ps 0 A9 k9 c9 wc HR1.out hS
            have hBc := hbr.trans (hc.mono hbr.size)
            replace hbx := hbx.kept hc
            clear keep hq1 hq2 hz2 hT1 hT2 hc hbr HR1
            go_wp2_with fail
            with_reducible refine hRt.mono ?_
            rintro e w8 ⟨rfl, hb8⟩
            have hB8 := hBc.trans (hb8.mono hBc.size)
            replace hbx := hbx.kept hb8
            replace hk := hk.kept hb8
            have HSx := Lib.hid hS
            clear hRt hb8 hBc hS
            obtain ⟨x0, x1, x2, x3, x4, x5, x6⟩ := hbx.seven
            obtain ⟨y0, y1, y2, y3, y4, y5, y6⟩ := hk.seven
            have s3' : ¬ p0 < q0 := by have := HR3.out; omega
            clear HR3
            by_cases he : pe = 0
            · subst he
              clear HR4 HSx
              go_upto_region 12 with fail
              obtain ⟨a0, f0, a1, f1, a2, f2, a3, f3, a4, f4, a5, f5, a6, f6, bR⟩ := hbx.store7 (.int .i64 p0) (.int .i64 p1) (.int .i64 p2) (.int .i64 p3) (.string p4) (.string p5) (.string p6)
              have hBz := below_store7 hB8 (B := w2.heap.size) hl3 (.int .i64 p0) (.int .i64 p1) (.int .i64 p2) (.int .i64 p3) (.string p4) (.string p5) (.string p6)
              clear hbx hk hB8
              go_wp2
              go_roundw
              case rel => exact ⟨i + 1, ⟨p0, p1, p2, p3, p4, p5, p6⟩, hlt, by rw [show ((i + 1 : Nat) : Int) = (i : Int) + 1 by omega], by unfold cellsHd; with_reducible exact bR, HR2, by with_reducible exact hBz⟩
              case measure => simp only [intOf]; omega
            · obtain ⟨hk0, rfl⟩ := HR4.out he
              cases hk0
              obtain ⟨rfl, rfl⟩ := (show A9 = none ∧ k9 = 0 from HSx.out)
              have e2 : (pe != 0) = true := bne_iff_ne.2 he
              clear HR4 HSx s3'
              go_upto_region 12 with fail
              obtain ⟨z0, z1, z2, z3, z4, z5, z6, hbz⟩ : ∃ z0 z1 z2 z3 z4 z5 z6, Bx w8 w2.heap.size 28 [z0, z1, z2, z3, z4, z5, z6] := ⟨_, _, _, _, _, _, _, hbx⟩
              clear hbx x0 x1 x2 x3 x4 x5 x6
              have hbx := hbz
              clear hbz
              obtain ⟨a0, f0, a1, f1, a2, f2, a3, f3, a4, f4, a5, f5, a6, f6, bR⟩ := hbx.store7 (.int .i64 q0) (.int .i64 q1) (.int .i64 q2) (.int .i64 q3) (.string q4) (.string q5) (.string q6)
              have hBz := below_store7 hB8 (B := w2.heap.size) hl3 (.int .i64 q0) (.int .i64 q1) (.int .i64 q2) (.int .i64 q3) (.string q4) (.string q5) (.string q6)
              clear hbx hk hB8
              go_wp2
              go_roundw
              case rel => exact ⟨i + 1, ⟨q0, q1, q2, q3, q4, q5, q6⟩, hlt, by rw [show ((i + 1 : Nat) : Int) = (i : Int) + 1 by omega], by unfold cellsHd; with_reducible exact bR, HR2, by with_reducible exact hBz⟩
              case measure => simp only [intOf]; omega
        · obtain rfl : i = n := by omega
          have HRl := HRr.out.tune
          obtain ⟨q0, q1, q2, q3, q4, q5, q6⟩ := h
          unfold cellsHd at hbx
          dsimp only at hbx HRl
          have hRg := rRight_ok q1 q2 q3 wr HRl
          obtain ⟨x0, x1, x2, x3, x4, x5, x6⟩ := hbx.seven
          clear HRr HRl
          go_wp2_with fail
          with_reducible refine hRg.mono ?_
          rintro e w8 ⟨rfl, hb8⟩
          have hB8 := hbr.trans (hb8.mono hbr.size)
          go_wp2
          go_ret
          exact ⟨rfl, hB8⟩
end Go.Proofs.YtkdiccedkjbpeaaGreatDoorR
