/-
  DialTalks: a client's connection and a broker's, each taking what the other one says, come to run, and agree on a tune, who it is and where to: the law returns true, and changes nothing that was there. Conditions: the table of widths is as its text lays it; user and word have fewer than 2^60 bytes.
-/
import Derived.Deep.RegionHeld3
import Derived.Test.YtkdiccedkjbpeaaGreatDoorRPTalk
import Derived.Test.YtkdiccedkjbpeaaGreatDoorRWTalk
import Derived.Test.YtkdiccedkjbpeaaGreatDoorRWServeN
import Derived.Test.YtkdiccedkjbpeaaGreatDoorRWDial6
import Derived.Test.YtkdiccedkjbpeaaGreatDoorRKK
namespace Go.Proofs.YtkdiccedkjbpeaaGreatDoorR
open Go.RowKit

theorem set_size (w : World) (p : Addr) (v : Value) : (w.setCell p v).heap.size = w.heap.size := by
  show (w.heap.modify _ _).size = _
  rw [Array.size_modify]
theorem store7_size (w : World) (B : Nat) (b0 b1 b2 b3 b4 b5 b6 : Value) : (((((((w.setCell ⟨B, 0, none⟩ b0).setCell ⟨B, 1, none⟩ b1).setCell ⟨B, 2, none⟩ b2).setCell ⟨B, 3, none⟩ b3).setCell ⟨B, 4, none⟩ b4).setCell ⟨B, 5, none⟩ b5).setCell ⟨B, 6, none⟩ b6).heap.size = w.heap.size := by
  rw [set_size, set_size, set_size, set_size, set_size, set_size, set_size]
theorem talks_begin (ac af ab : Int) : ∃ (k : Hd) (ea : Int), ((ea = 0 ∧ tRight ac af ab = true ∧ k = ⟨0, ac, af, ab, ⟨#[]⟩, ⟨#[]⟩, ⟨#[]⟩⟩) ∨ ea = 1) ∧ ∀ W, Calls Tryz.prog 7 #[.agg #[.int .i64 ac, .int .i64 af, .int .i64 ab]] W fun e w' => e = .returned (.tuple #[encHd k, .int .i64 ea]) ∧ Below W.heap.size W w' := by
  cases hq : tRight ac af ab
  · exact ⟨hd0, 1, .inr rfl, fun W => begin_no ac af ab W hq⟩
  · refine ⟨_, 0, .inl ⟨rfl, rfl, rfl⟩, fun W => ?_⟩
    have h := begin_ok ac af ab W hq
    rw [if_pos hq, hBegin, if_pos hq] at h
    exact h
theorem talks_greet (ac af ab : Int) : hGreet ⟨0, ac, af, ab, ⟨#[]⟩, ⟨#[]⟩, ⟨#[]⟩⟩ = ⟨⟨1, ac, af, ab, ⟨#[]⟩, ⟨#[]⟩, ⟨#[]⟩⟩, some tkM0, 0⟩ := by
  unfold hGreet
  rw [if_pos rfl]
  rfl
theorem talks_serve (h : Hd) (m : Me) (A : Option Addr) (cap : Nat) (w : World) (hw : Wid w) (hv : wfM m) (hA : ValsAt w A (rowV m.l)) {k : Hd} {o : Option Me} {l : List Me} (he : hTake h m = ⟨k, o, 0⟩) (hl : l = o.toList) : Calls Tryz.prog 11 #[encHd h, encM m A cap] w (DnPost ⟨k, l, 0⟩ w) := by
  have hC := sTake_any h m A cap w hw hv hA
  rw [he] at hC
  subst hl
  refine hC.mono ?_
  rintro e w' ⟨A, n, c, h1, h2, h3⟩
  exact ⟨A, n, c, h1, DSaid.of h2, h3⟩
theorem talks_dial (h : Hd) (m : Me) (A : Option Addr) (cap : Nat) (w : World) (hw : Wid w) (hv : wfM m) (hA : ValsAt w A (rowV m.l)) (hI : DIn h) {k : Hd} {l : List Me} (he : dTake h m = ⟨k, l, 0⟩) : Calls Tryz.prog 10 #[encHd h, encM m A cap] w (DnPost ⟨k, l, 0⟩ w) := by
  have hC := dTake_any h m A cap w hw hv hA (by have := hI.st; omega) (by have := hI.us; omega) (by have := hI.wo; omega) (fun k => by have h := (argV_wf hv k).2.2; omega)
  rw [he] at hC
  exact hC
set_option maxRecDepth 100000 in
set_option maxHeartbeats 8000000 in
theorem dialTalks_walk (ac af ab bc bf bb : Int) (us wo ho : ByteArray) (w : World) (hw : Wid w) (hu : us.size < 1152921504606846976) (hwo : wo.size < 1152921504606846976) : Calls Tryz.prog 3 #[.agg #[.int .i64 ac, .int .i64 af, .int .i64 ab, .int .i64 bc, .int .i64 bf, .int .i64 bb, .string us, .string wo, .string ho]] w fun e w' => e = .returned (.bool true) ∧ Below w.heap.size w w' := by
  obtain ⟨Wi, hWi⟩ : ∃ Wi, Wi = w.alloc (.cells #[.int .i64 ac, .int .i64 af, .int .i64 ab, .int .i64 bc, .int .i64 bf, .int .i64 bb, .string us, .string wo, .string ho] 25) := ⟨_, rfl⟩
  have hi0 : Bx Wi w.heap.size 25 [.int .i64 ac, .int .i64 af, .int .i64 ab, .int .i64 bc, .int .i64 bf, .int .i64 bb, .string us, .string wo, .string ho] := by rw [hWi]; exact Bx.new w _ _
  have hbi : Below w.heap.size w Wi := by rw [hWi]; exact (Below.refl _ w).alloc (Nat.le_refl _) _
  have hsi : Wi.heap.size = w.heap.size + 1 := by rw [hWi]; exact World.size_alloc _ _
  obtain ⟨W0, hW0⟩ : ∃ W0, W0 = (Wi.alloc (.cells #[.int .i64 ac, .int .i64 af, .int .i64 ab] 23)).alloc (.cells #[.int .i64 bc, .int .i64 bf, .int .i64 bb] 23) := ⟨_, rfl⟩
  have hb0 : Below w.heap.size w W0 := by rw [hW0]; exact (hbi.alloc hbi.size _).alloc (by have := hbi.size; simp; omega) _
  have hm : Bx W0 (w.heap.size + 1) 23 [.int .i64 ac, .int .i64 af, .int .i64 ab] := by
    have h := (Bx.new Wi 23 [.int .i64 ac, .int .i64 af, .int .i64 ab]).alloc (.cells #[.int .i64 bc, .int .i64 bf, .int .i64 bb] 23)
    rw [hsi] at h
    rw [hW0]; exact h
  have ht : Bx W0 (w.heap.size + 1 + 1) 23 [.int .i64 bc, .int .i64 bf, .int .i64 bb] := by
    have h := Bx.new (Wi.alloc (.cells #[.int .i64 ac, .int .i64 af, .int .i64 ab] 23)) 23 [.int .i64 bc, .int .i64 bf, .int .i64 bb]
    rw [World.size_alloc, hsi] at h
    rw [hW0]; exact h
  rw [hWi] at hW0
  clear hWi hi0 hbi hsi
  have hSh := dshown_any W0
  obtain ⟨k, ea, hea, hBa⟩ := talks_begin ac af ab
  obtain ⟨k0, k1, k2, k3, k4, k5, k6⟩ := k
  unfold encHd at hBa
  dsimp only at hBa
  have hBd := fun W => dBegin_any bc bf bb us wo ho W (by omega)
  obtain ⟨E, hE⟩ : ∃ E, bgE (tRight bc bf bb) us wo ho = E := ⟨_, rfl⟩
  rw [hE] at hBd
  unfold bgT at hBd
  have hE01 : Hid ((E = 0 ∧ tRight bc bf bb = true ∧ ho.size ≤ 255 ∧ zeroX us = false ∧ zeroX wo = false) ∨ E = 1) := Lib.hid (by
    rw [← hE, bgE]
    split
    · rename_i hq
      exact .inl ⟨rfl, hq⟩
    · exact .inr rfl)
  have HEA := Lib.hid hea
  have HW := Lib.hid hw
  clear hE hea hw
  go_enter Tryz.func3, Tryz.ntmps3
  go_wp2_with fail
  rw [← hW0]
  clear hW0
  with_reducible refine hSh.mono ?_
  rintro e w1 ⟨rfl, hb1⟩
  have hB1 := hb0.trans (hb1.mono hb0.size)
  replace hm := hm.kept hb1
  replace ht := ht.kept hb1
  clear hSh hb0 hb1
  obtain ⟨x0, x1, x2⟩ := hm.three
  have hBa1 := hBa w1
  clear hBa
  go_wp2_with fail
  with_reducible refine hBa1.mono ?_
  rintro e w2 ⟨rfl, hb2⟩
  have hB2 := hB1.trans (hb2.mono hB1.size)
  replace ht := ht.kept hb2
  have hcw := hB2.size
  clear hBa1 hb2 hB1 x0 x1 x2 hm
  obtain ⟨W3, hW3⟩ : ∃ W3, W3 = w2.alloc (.cells #[.int .i64 k0, .int .i64 k1, .int .i64 k2, .int .i64 k3, .string k4, .string k5, .string k6] 28) := ⟨_, rfl⟩
  have hb3 : Below w2.heap.size w2 W3 := by rw [hW3]; exact (Below.refl _ w2).alloc (Nat.le_refl _) _
  have hc : Bx W3 w2.heap.size 28 [.int .i64 k0, .int .i64 k1, .int .i64 k2, .int .i64 k3, .string k4, .string k5, .string k6] := by rw [hW3]; exact Bx.new w2 _ _
  have hB3 := hB2.trans (hb3.mono hB2.size)
  replace ht := ht.kept hb3
  clear hb3 hB2
  obtain ⟨x0, x1, x2⟩ := ht.three
  go_upto_region 8 with fail
  rw [← hW3]
  clear hW3
  have hBd1 := hBd W3
  clear hBd
  go_wp2_with fail
  with_reducible refine hBd1.mono ?_
  rintro e w4 ⟨rfl, hb4⟩
  have hB4 := hB3.trans (hb4.mono hB3.size)
  have hcd0 := hc.lt
  have hcd1 := hb4.size
  replace hc := hc.kept hb4
  clear hBd1 hb4 hB3 x0 x1 x2 ht
  obtain ⟨W5, hW5⟩ : ∃ W5, W5 = w4.alloc (.cells #[.int .i64 (dgV E 1), .int .i64 (dgV E bc), .int .i64 (dgV E bf), .int .i64 (dgV E bb), .string (dgS E us), .string (dgS E wo), .string (dgS E ho)] 28) := ⟨_, rfl⟩
  have hb5 : Below w4.heap.size w4 W5 := by rw [hW5]; exact (Below.refl _ w4).alloc (Nat.le_refl _) _
  have hd : Bx W5 w4.heap.size 28 [.int .i64 (dgV E 1), .int .i64 (dgV E bc), .int .i64 (dgV E bf), .int .i64 (dgV E bb), .string (dgS E us), .string (dgS E wo), .string (dgS E ho)] := by rw [hW5]; exact Bx.new w4 _ _
  have hB := hB4.trans (hb5.mono hB4.size)
  replace hc := hc.kept hb5
  have hdn0 := hd.lt
  clear hb5 hB4
  go_upto_region 9 with fail
  rw [← hW5]
  clear hW5
  generalize w2.heap.size = cB at *
  generalize w4.heap.size = dB at *
  have hcd : cB ≠ dB := by omega
  have hdc : dB ≠ cB := by omega
  have hcl0 : w.heap.size ≤ cB := hcw
  have hdl : w.heap.size ≤ dB := by omega
  obtain ⟨n0, hn0⟩ : ∃ x, W5.heap.size = x := ⟨_, rfl⟩
  have hdn : dB < n0 := by omega
  have hcn : cB < n0 := by omega
  clear hcd0 hcd1 hcw hdn0
  rcases HEA.out with ⟨rfl, hRa, hk⟩ | rfl
  case inr =>
    go_wp2
    all_goals
      go_ret
      exact ⟨rfl, hB⟩
  rcases hE01.out with ⟨rfl, hRb, hz1, hz2, hz3⟩ | rfl
  case inr =>
    go_wp2
    all_goals
      go_ret
      exact ⟨rfl, hB⟩
  by_cases h1000 : (1000 : Int) < (us.size : Int) + (wo.size : Int)
  · go_wp2
    all_goals
      go_ret
      exact ⟨rfl, hB⟩
  cases hk
  have HIn : Hid (TkIn ac af ab bc bf bb us wo ho) := Lib.hid ⟨hRa, hRb, by omega, hz2, hz3, by rw [layOk_one]; exact decide_eq_true hz1⟩
  clear hRa hRb hz1 hz2 hz3 HEA hE01
  replace hd : Bx W5 dB 28 [.int .i64 1, .int .i64 bc, .int .i64 bf, .int .i64 bb, .string us, .string wo, .string ho] := hd
  have hGr := greet_any ⟨0, ac, af, ab, ⟨#[]⟩, ⟨#[]⟩, ⟨#[]⟩⟩ W5
  rw [talks_greet] at hGr
  unfold TnPost encHd at hGr
  dsimp only at hGr
  obtain ⟨x0, x1, x2, x3, x4, x5, x6⟩ := hc.seven
  go_wp2_with fail
  with_reducible refine hGr.mono ?_
  rintro e w6 ⟨A6, k6, c6, rfl, hS, hb6⟩
  have hB6 := hB.trans (hb6.mono hB.size)
  replace hc := hc.kept hb6
  replace hd := hd.kept hb6
  have hn6 : n0 ≤ w6.heap.size := by rw [← hn0]; exact hb6.size
  rw [hn0] at hS
  clear hGr hB hb6 hn0 x0 x1 x2 x3 x4 x5 x6
  obtain ⟨a0, f0, a1, f1, a2, f2, a3, f3, a4, f4, a5, f5, a6, f6, bR⟩ := hc.store7 (.int .i64 1) (.int .i64 ac) (.int .i64 af) (.int .i64 ab) (.string ⟨#[]⟩) (.string ⟨#[]⟩) (.string ⟨#[]⟩)
  obtain ⟨W7, hW7⟩ : ∃ W7, W7 = (((((((w6.setCell ⟨cB, 0, none⟩ (.int .i64 1)).setCell ⟨cB, 1, none⟩ (.int .i64 ac)).setCell ⟨cB, 2, none⟩ (.int .i64 af)).setCell ⟨cB, 3, none⟩ (.int .i64 ab)).setCell ⟨cB, 4, none⟩ (.string ⟨#[]⟩)).setCell ⟨cB, 5, none⟩ (.string ⟨#[]⟩)).setCell ⟨cB, 6, none⟩ (.string ⟨#[]⟩)) := ⟨_, rfl⟩
  have hM7 := (mr_said (c := c6) hS).store7 (B := cB) hcn (.int .i64 1) (.int .i64 ac) (.int .i64 af) (.int .i64 ab) (.string ⟨#[]⟩) (.string ⟨#[]⟩) (.string ⟨#[]⟩)
  have hd7 := hd.other7 (B := cB) hcd (.int .i64 1) (.int .i64 ac) (.int .i64 af) (.int .i64 ab) (.string ⟨#[]⟩) (.string ⟨#[]⟩) (.string ⟨#[]⟩)
  have hB7 := below_store7 hB6 (B := cB) hcl0 (.int .i64 1) (.int .i64 ac) (.int .i64 af) (.int .i64 ab) (.string ⟨#[]⟩) (.string ⟨#[]⟩) (.string ⟨#[]⟩)
  have hn7 : n0 ≤ W7.heap.size := by rw [hW7, store7_size]; exact hn6
  rw [← hW7] at bR hM7 hd7 hB7
  go_upto_region 12 with fail
  rw [← hW7]
  clear hW7 a0 f0 a1 f1 a2 f2 a3 f3 a4 f4 a5 f5 a6 f6 hc hS hB6 hd hn6
  go_wp2_with fail
  go_loopw [13, 15] (fun vs vt wr => ∃ t : Nat, t ≤ 6 ∧ vt = .int .i64 t ∧ MR n0 wr vs (tkS ac af ab t) ∧ Bx wr cB 28 (cellsHd (tkC ac af ab bc bf bb us wo ho t)) ∧ Bx wr dB 28 (cellsHd (tkD ac af ab bc bf bb us wo ho t)) ∧ n0 ≤ wr.heap.size ∧ Below w.heap.size w wr) (fun _ vt _ => 6 - (intOf vt).toNat)
  case atStart => exact ⟨0, Nat.zero_le _, rfl, hM7, bR, hd7, hn7, hB7⟩
  case round =>
    clear hM7 bR hd7 hn7 hB7
    obtain ⟨t, ht, rfl, hvs, hc, hd, hnr, hbr⟩ := hrel
    by_cases ht6 : t < 6
    · obtain ⟨Ds, As, Cs, Ss, ans, d0, ea0, d1, ea1, ec0, es0, ec1, es1, hlS, hlA, hDs, hCs⟩ := tk_step HIn.out t
      rw [← d0] at hd
      rw [← ec0] at hc
      obtain ⟨D', hD'⟩ : ∃ x, tkD ac af ab bc bf bb us wo ho (t + 1) = x := ⟨_, rfl⟩
      have HD2 : Hid (D' = tkD ac af ab bc bf bb us wo ho (t + 1)) := Lib.hid hD'.symm
      rw [hD'] at d1
      clear hD' d0 ec0
      generalize tkS ac af ab t = S at hvs d1 ea1 hDs hlS
      have HDs := Lib.hid hDs
      have HCs := Lib.hid hCs
      have HA0 := Lib.hid ea0
      have HA1 := Lib.hid ea1
      have HS0 := Lib.hid es0
      have HS1 := Lib.hid es1
      have HD1 := Lib.hid d1
      have HC1 := Lib.hid ec1
      clear hDs hCs ea0 ea1 es0 es1 d1 ec1
      obtain ⟨Av, cv, hAv, -, -⟩ := id hvs
      subst hAv
      go_wp2_with fail
      rw [show (decide ((t : Int) < 6)) = true from decide_eq_true (by omega)]
      go_loopw [16, 17] (fun vq vi wr => ∃ i : Nat, i ≤ S.length ∧ vi = .int .i64 i ∧ MR n0 wr vq (As i) ∧ MR n0 wr (.slice Av S.length cv) S ∧ Bx wr cB 28 (cellsHd (Cs 0)) ∧ Bx wr dB 28 (cellsHd (Ds i)) ∧ n0 ≤ wr.heap.size ∧ Below w.heap.size w wr) (fun _ vi _ => S.length - (intOf vi).toNat)
      case atStart => exact ⟨0, Nat.zero_le _, rfl, by rw [HA0.out]; exact MR.nil _ _, hvs, hc, hd, hnr, hbr⟩
      case round =>
        clear hvs hc hd hnr hbr
        obtain ⟨i, hi, rfl, hva, hrow, hot, hbx, hnr, hbr⟩ := hrel
        by_cases hlt : i < S.length
        · obtain ⟨A', c', hAc, -, hat⟩ := id hrow
          cases hAc
          obtain ⟨b1, off, gg, kk, hA, hbn, hbl, g0, g1, g2, hvl⟩ := hat i hlt
          subst hA
          have hT : ∀ W, Below wr.heap.size wr W → Calls Tryz.prog 10 #[encHd (Ds i), encM (S[i]) gg kk] W (DnPost ⟨Ds (i + 1), As (i + 1), 0⟩ W) := fun W hb => by
              obtain ⟨h1, h2, -, h3⟩ := HDs.out i hlt
              exact talks_dial _ _ gg kk W (HW.out.below (hbr.trans (hb.mono hbr.size))) h2 (hvl.vals.below hb) h1 h3
          have hY : As i = [] := (HDs.out i hlt).2.2.1
          rw [hY] at hva
          obtain rfl := hva.eq_nil
          clear hva hY hat hvl hbn
          unfold DnPost encHd encM at hT
          generalize S[i] = mm at hT g0 g1 g2
          obtain ⟨hn, hhn⟩ : ∃ x, Ds (i + 1) = x := ⟨_, rfl⟩
          obtain ⟨ps, hps⟩ : ∃ x, As (i + 1) = x := ⟨_, rfl⟩
          rw [hhn, hps] at hT
          have HX1 := Lib.hid hhn
          have HY1 := Lib.hid hps
          generalize Ds i = h at hT hbx
          clear hhn hps
          obtain ⟨mc, mi, ml⟩ := mm
          obtain ⟨q0, q1, q2, q3, q4, q5, q6⟩ := h
          obtain ⟨p0, p1, p2, p3, p4, p5, p6⟩ := hn
          unfold cellsHd at hbx
          dsimp only at hT hbx g0 g1 g2
          have hcl := hbx.lt
          have keep : ∀ w', Below wr.heap.size wr w' → w'.cell? ⟨dB, 0, none⟩ = some (.int .i64 q0) ∧ w'.cell? ⟨dB, 1, none⟩ = some (.int .i64 q1) ∧ w'.cell? ⟨dB, 2, none⟩ = some (.int .i64 q2) ∧ w'.cell? ⟨dB, 3, none⟩ = some (.int .i64 q3) ∧ w'.cell? ⟨dB, 4, none⟩ = some (.string q4) ∧ w'.cell? ⟨dB, 5, none⟩ = some (.string q5) ∧ w'.cell? ⟨dB, 6, none⟩ = some (.string q6) ∧ w'.cell? ⟨b1, off + i * 3, none⟩ = some (.int .i64 mc) ∧ w'.cell? ⟨b1, off + i * 3 + 1, none⟩ = some (.int .i64 mi) ∧ w'.cell? ⟨b1, off + i * 3 + 2, none⟩ = some (.slice gg ml.length kk) := fun w' h =>
            ⟨(hbx.kept h).seven.1, (hbx.kept h).seven.2.1, (hbx.kept h).seven.2.2.1, (hbx.kept h).seven.2.2.2.1, (hbx.kept h).seven.2.2.2.2.1, (hbx.kept h).seven.2.2.2.2.2.1, (hbx.kept h).seven.2.2.2.2.2.2, (h.cell (p := ⟨b1, off + i * 3, none⟩) hbl).trans g0, (h.cell (p := ⟨b1, off + i * 3 + 1, none⟩) hbl).trans g1, (h.cell (p := ⟨b1, off + i * 3 + 2, none⟩) hbl).trans g2⟩
          have hq1 : Below wr.heap.size wr wr.drew := (Below.refl _ wr).drew
          have hq2 : Below wr.heap.size wr (wr.alloc (.cells #[.int .i64 0, .int .i64 0, .int .i64 0, .int .i64 0, .string ⟨#[]⟩, .string ⟨#[]⟩, .string ⟨#[]⟩] 28)).drew := ((Below.refl _ wr).alloc (Nat.le_refl _) _).drew
          have hz2 : Bx (wr.alloc (.cells #[.int .i64 0, .int .i64 0, .int .i64 0, .int .i64 0, .string ⟨#[]⟩, .string ⟨#[]⟩, .string ⟨#[]⟩] 28)).drew wr.heap.size 28 [.int .i64 0, .int .i64 0, .int .i64 0, .int .i64 0, .string ⟨#[]⟩, .string ⟨#[]⟩, .string ⟨#[]⟩] := Bx.new wr 28 [.int .i64 0, .int .i64 0, .int .i64 0, .int .i64 0, .string ⟨#[]⟩, .string ⟨#[]⟩, .string ⟨#[]⟩]
          have hT1 := hT _ hq1
          have hT2 := hT _ hq2
          have i0 : (0 : Int) ≤ (i : Int) := by omega
          have i2 : (i : Int) < 2 := by omega
          have i1 : (i : Int) < (S.length : Int) := by omega
          clear hT g0 g1 g2
          go_upto_region 21 with fail
          go_cut [18, 19, 20] from 76 to 97 (fun p l e wx => (∃ nb A9 k9 c9, p = .pointer (some ⟨nb, 0, none⟩) ∧ l = .slice A9 k9 c9 ∧ wr.heap.size ≤ nb ∧ Bx wx nb 28 [.int .i64 p0, .int .i64 p1, .int .i64 p2, .int .i64 p3, .string p4, .string p5, .string p6] ∧ DSaid n0 wx A9 k9 ps) ∧ e = .int .i64 0 ∧ Below wr.heap.size wr wx)
          case first =>
            go_region_held3 (fun w' => w'.cell? ⟨dB, 0, none⟩ = some (.int .i64 q0) ∧ w'.cell? ⟨dB, 1, none⟩ = some (.int .i64 q1) ∧ w'.cell? ⟨dB, 2, none⟩ = some (.int .i64 q2) ∧ w'.cell? ⟨dB, 3, none⟩ = some (.int .i64 q3) ∧ w'.cell? ⟨dB, 4, none⟩ = some (.string q4) ∧ w'.cell? ⟨dB, 5, none⟩ = some (.string q5) ∧ w'.cell? ⟨dB, 6, none⟩ = some (.string q6) ∧ w'.cell? ⟨b1, off + i * 3, none⟩ = some (.int .i64 mc) ∧ w'.cell? ⟨b1, off + i * 3 + 1, none⟩ = some (.int .i64 mi) ∧ w'.cell? ⟨b1, off + i * 3 + 2, none⟩ = some (.slice gg ml.length kk)) (first | (with_reducible exact keep _ hf) | (with_reducible exact keep _ hfS) | (with_reducible exact keep _ (hf.alloc hf.size _)) | (with_reducible exact keep _ hq1) | (with_reducible exact keep _ hq2)) (first | (go_at_call 10; with_reducible refine hT1.mono ?_; rintro e w9 ⟨A9, k9, c9, rfl, hS, hr9⟩; have hf : Below wr.heap.size wr w9 := hq1.trans (hr9.mono hq1.size)) | (go_at_call 10; with_reducible refine hT2.mono ?_; rintro e w9 ⟨A9, k9, c9, rfl, hS, hr9⟩; have hf : Below wr.heap.size wr w9 := hq2.trans (hr9.mono hq2.size); obtain ⟨a0, f0, a1, f1, a2, f2, a3, f3, a4, f4, a5, f5, a6, f6, bS⟩ := (hz2.kept hr9).store7 (.int .i64 p0) (.int .i64 p1) (.int .i64 p2) (.int .i64 p3) (.string p4) (.string p5) (.string p6); have hfS := below_store7 hf (B := wr.heap.size) (Nat.le_refl _) (.int .i64 p0) (.int .i64 p1) (.int .i64 p2) (.int .i64 p3) (.string p4) (.string p5) (.string p6); have hlz := hz2.lt))
            all_goals
              go_wp2_with fail
              go_meet
              case rel => first | (have hfT := hfS; exact ⟨⟨_, _, _, _, rfl, rfl, Nat.le_refl _, bS, hS.store7 (n' := n0) (by omega) (by omega) (.int .i64 p0) (.int .i64 p1) (.int .i64 p2) (.int .i64 p3) (.string p4) (.string p5) (.string p6)⟩, rfl, hfT⟩) | exact ⟨⟨_, _, _, _, rfl, rfl, hf.size, Bx.new w9 _ _, hS.below (Nat.le_trans hnr hq1.size) ((Below.refl _ w9).alloc (Nat.le_refl _) _)⟩, rfl, hf.alloc hf.size _⟩
          case rest =>
            obtain ⟨⟨nb, A9, k9, c9, rfl, rfl, hnb, hk, hS⟩, rfl, hcc⟩ := hcut
            have hBc := hbr.trans (hcc.mono hbr.size)
            have hnc : n0 ≤ wc.heap.size := Nat.le_trans hnr hcc.size
            replace hbx := hbx.kept hcc
            replace hrow := hrow.kept hcc
            replace hot := hot.kept hcc
            clear keep hq1 hq2 hz2 hT1 hT2 hcc hbr hnr
            obtain ⟨y0, y1, y2, y3, y4, y5, y6⟩ := hk.seven
            go_upto_region 24 with fail
            obtain ⟨a0, f0, a1, f1, a2, f2, a3, f3, a4, f4, a5, f5, a6, f6, bR⟩ := hbx.store7 (.int .i64 p0) (.int .i64 p1) (.int .i64 p2) (.int .i64 p3) (.string p4) (.string p5) (.string p6)
            have hBz := below_store7 hBc (B := dB) hdl (.int .i64 p0) (.int .i64 p1) (.int .i64 p2) (.int .i64 p3) (.string p4) (.string p5) (.string p6)
            have HSz := Lib.hid (hS.store7 (n' := n0) (Nat.le_refl _) (B := dB) hdn (.int .i64 p0) (.int .i64 p1) (.int .i64 p2) (.int .i64 p3) (.string p4) (.string p5) (.string p6))
            have Hrow := Lib.hid (hrow.store7 (B := dB) hdn (.int .i64 p0) (.int .i64 p1) (.int .i64 p2) (.int .i64 p3) (.string p4) (.string p5) (.string p6))
            have Hot := Lib.hid (hot.other7 (B := dB) hdc (.int .i64 p0) (.int .i64 p1) (.int .i64 p2) (.int .i64 p3) (.string p4) (.string p5) (.string p6))
            have HbR := Lib.hid bR
            have HBz := Lib.hid hBz
            have Hnz : Hid (n0 ≤ wc.heap.size) := Lib.hid hnc
            clear hbx hk hBc hS hrow hot bR hBz hnc hnb
            go_wp2_with (at_builtin; refine wpList_append_said rfl _ _ rfl n0 ?hn rfl A9 k9 c9 ps rfl ?hS ?cont)
            case hn => rw [store7_size]; exact Hnz.out
            case hS => with_reducible exact HSz.out
            case cont =>
              intro v9 w9 hM9 hb0
              have hb9 := hb0.mono (Nat.le_of_eq (store7_size wc dB (.int .i64 p0) (.int .i64 p1) (.int .i64 p2) (.int .i64 p3) (.string p4) (.string p5) (.string p6)))
              have hB9 := HBz.out.trans (hb9.mono HBz.out.size)
              have hn9 : n0 ≤ w9.heap.size := Nat.le_trans (Nat.le_trans Hnz.out (Nat.le_of_eq (store7_size wc dB (.int .i64 p0) (.int .i64 p1) (.int .i64 p2) (.int .i64 p3) (.string p4) (.string p5) (.string p6)).symm)) hb9.size
              have HbR9 := Lib.hid (HbR.out.kept hb9)
              have Hrow9 := Lib.hid (Hrow.out.kept hb9)
              have Hot9 := Lib.hid (Hot.out.kept hb9)
              clear hb0
              clear HBz Hnz HbR Hrow Hot hb9 HSz
              go_wp2
              go_roundw
              case rel => exact ⟨i + 1, hlt, by rw [show ((i + 1 : Nat) : Int) = (i : Int) + 1 by omega], by rw [HY1.out]; exact hM9, Hrow9.out, Hot9.out, by rw [HX1.out]; unfold cellsHd; with_reducible exact HbR9.out, hn9, hB9⟩
              case measure => simp only [intOf]; omega
        · have hie : i = S.length := by omega
          subst hie
          clear hlt hi
          rw [HA1.out] at hva
          rw [HD1.out] at hbx
          obtain ⟨Ar, cr, hAr, -, -⟩ := id hva
          subst hAr
          go_wp2_with fail
          go_loopw [13, 21] (fun vq vi wr => ∃ i : Nat, i ≤ ans.length ∧ vi = .int .i64 i ∧ MR n0 wr vq (Ss i) ∧ MR n0 wr (.slice Ar ans.length cr) ans ∧ Bx wr dB 28 (cellsHd D') ∧ Bx wr cB 28 (cellsHd (Cs i)) ∧ n0 ≤ wr.heap.size ∧ Below w.heap.size w wr) (fun _ vi _ => ans.length - (intOf vi).toNat)
          case atStart => exact ⟨0, Nat.zero_le _, rfl, by rw [HS0.out]; exact MR.nil _ _, hva, hbx, hot, hnr, hbr⟩
          case round =>
            clear hva hrow hot hbx hnr hbr
            obtain ⟨i, hi, rfl, hva, hrow, hot, hbx, hnr, hbr⟩ := hrel
            by_cases hlt : i < ans.length
            · obtain ⟨A', c', hAc, -, hat⟩ := id hrow
              cases hAc
              obtain ⟨b1, off, gg, kk, hA, hbn, hbl, g0, g1, g2, hvl⟩ := hat i hlt
              subst hA
              have hT : ∀ W, Below wr.heap.size wr W → Calls Tryz.prog 11 #[encHd (Cs i), encM (ans[i]) gg kk] W (DnPost ⟨Cs (i + 1), Ss (i + 1), 0⟩ W) := fun W hb => by
                  obtain ⟨h1, -, o, h2, h3⟩ := HCs.out i hlt
                  exact talks_serve _ _ gg kk W (HW.out.below (hbr.trans (hb.mono hbr.size))) h1 (hvl.vals.below hb) h2 h3
              have hY : Ss i = [] := (HCs.out i hlt).2.1
              rw [hY] at hva
              obtain rfl := hva.eq_nil
              clear hva hY hat hvl hbn
              unfold DnPost encHd encM at hT
              generalize ans[i] = mm at hT g0 g1 g2
              obtain ⟨hn, hhn⟩ : ∃ x, Cs (i + 1) = x := ⟨_, rfl⟩
              obtain ⟨ps, hps⟩ : ∃ x, Ss (i + 1) = x := ⟨_, rfl⟩
              rw [hhn, hps] at hT
              have HX1 := Lib.hid hhn
              have HY1 := Lib.hid hps
              generalize Cs i = h at hT hbx
              clear hhn hps
              obtain ⟨mc, mi, ml⟩ := mm
              obtain ⟨q0, q1, q2, q3, q4, q5, q6⟩ := h
              obtain ⟨p0, p1, p2, p3, p4, p5, p6⟩ := hn
              unfold cellsHd at hbx
              dsimp only at hT hbx g0 g1 g2
              have hcl := hbx.lt
              have keep : ∀ w', Below wr.heap.size wr w' → w'.cell? ⟨cB, 0, none⟩ = some (.int .i64 q0) ∧ w'.cell? ⟨cB, 1, none⟩ = some (.int .i64 q1) ∧ w'.cell? ⟨cB, 2, none⟩ = some (.int .i64 q2) ∧ w'.cell? ⟨cB, 3, none⟩ = some (.int .i64 q3) ∧ w'.cell? ⟨cB, 4, none⟩ = some (.string q4) ∧ w'.cell? ⟨cB, 5, none⟩ = some (.string q5) ∧ w'.cell? ⟨cB, 6, none⟩ = some (.string q6) ∧ w'.cell? ⟨b1, off + i * 3, none⟩ = some (.int .i64 mc) ∧ w'.cell? ⟨b1, off + i * 3 + 1, none⟩ = some (.int .i64 mi) ∧ w'.cell? ⟨b1, off + i * 3 + 2, none⟩ = some (.slice gg ml.length kk) := fun w' h =>
                ⟨(hbx.kept h).seven.1, (hbx.kept h).seven.2.1, (hbx.kept h).seven.2.2.1, (hbx.kept h).seven.2.2.2.1, (hbx.kept h).seven.2.2.2.2.1, (hbx.kept h).seven.2.2.2.2.2.1, (hbx.kept h).seven.2.2.2.2.2.2, (h.cell (p := ⟨b1, off + i * 3, none⟩) hbl).trans g0, (h.cell (p := ⟨b1, off + i * 3 + 1, none⟩) hbl).trans g1, (h.cell (p := ⟨b1, off + i * 3 + 2, none⟩) hbl).trans g2⟩
              have hq1 : Below wr.heap.size wr wr.drew := (Below.refl _ wr).drew
              have hq2 : Below wr.heap.size wr (wr.alloc (.cells #[.int .i64 0, .int .i64 0, .int .i64 0, .int .i64 0, .string ⟨#[]⟩, .string ⟨#[]⟩, .string ⟨#[]⟩] 28)).drew := ((Below.refl _ wr).alloc (Nat.le_refl _) _).drew
              have hz2 : Bx (wr.alloc (.cells #[.int .i64 0, .int .i64 0, .int .i64 0, .int .i64 0, .string ⟨#[]⟩, .string ⟨#[]⟩, .string ⟨#[]⟩] 28)).drew wr.heap.size 28 [.int .i64 0, .int .i64 0, .int .i64 0, .int .i64 0, .string ⟨#[]⟩, .string ⟨#[]⟩, .string ⟨#[]⟩] := Bx.new wr 28 [.int .i64 0, .int .i64 0, .int .i64 0, .int .i64 0, .string ⟨#[]⟩, .string ⟨#[]⟩, .string ⟨#[]⟩]
              have hT1 := hT _ hq1
              have hT2 := hT _ hq2
              have i0 : (0 : Int) ≤ (i : Int) := by omega
              have i2 : (i : Int) < 2 := by omega
              have i1 : (i : Int) < (ans.length : Int) := by omega
              clear hT g0 g1 g2
              go_upto_region 30 with fail
              go_cut [22, 23, 24] from 98 to 119 (fun p l e wx => (∃ nb A9 k9 c9, p = .pointer (some ⟨nb, 0, none⟩) ∧ l = .slice A9 k9 c9 ∧ wr.heap.size ≤ nb ∧ Bx wx nb 28 [.int .i64 p0, .int .i64 p1, .int .i64 p2, .int .i64 p3, .string p4, .string p5, .string p6] ∧ DSaid n0 wx A9 k9 ps) ∧ e = .int .i64 0 ∧ Below wr.heap.size wr wx)
              case first =>
                go_region_held3 (fun w' => w'.cell? ⟨cB, 0, none⟩ = some (.int .i64 q0) ∧ w'.cell? ⟨cB, 1, none⟩ = some (.int .i64 q1) ∧ w'.cell? ⟨cB, 2, none⟩ = some (.int .i64 q2) ∧ w'.cell? ⟨cB, 3, none⟩ = some (.int .i64 q3) ∧ w'.cell? ⟨cB, 4, none⟩ = some (.string q4) ∧ w'.cell? ⟨cB, 5, none⟩ = some (.string q5) ∧ w'.cell? ⟨cB, 6, none⟩ = some (.string q6) ∧ w'.cell? ⟨b1, off + i * 3, none⟩ = some (.int .i64 mc) ∧ w'.cell? ⟨b1, off + i * 3 + 1, none⟩ = some (.int .i64 mi) ∧ w'.cell? ⟨b1, off + i * 3 + 2, none⟩ = some (.slice gg ml.length kk)) (first | (with_reducible exact keep _ hf) | (with_reducible exact keep _ hfS) | (with_reducible exact keep _ (hf.alloc hf.size _)) | (with_reducible exact keep _ hq1) | (with_reducible exact keep _ hq2)) (first | (go_at_call 11; with_reducible refine hT1.mono ?_; rintro e w9 ⟨A9, k9, c9, rfl, hS, hr9⟩; have hf : Below wr.heap.size wr w9 := hq1.trans (hr9.mono hq1.size)) | (go_at_call 11; with_reducible refine hT2.mono ?_; rintro e w9 ⟨A9, k9, c9, rfl, hS, hr9⟩; have hf : Below wr.heap.size wr w9 := hq2.trans (hr9.mono hq2.size); obtain ⟨a0, f0, a1, f1, a2, f2, a3, f3, a4, f4, a5, f5, a6, f6, bS⟩ := (hz2.kept hr9).store7 (.int .i64 p0) (.int .i64 p1) (.int .i64 p2) (.int .i64 p3) (.string p4) (.string p5) (.string p6); have hfS := below_store7 hf (B := wr.heap.size) (Nat.le_refl _) (.int .i64 p0) (.int .i64 p1) (.int .i64 p2) (.int .i64 p3) (.string p4) (.string p5) (.string p6); have hlz := hz2.lt))
                all_goals
                  go_wp2_with fail
                  go_meet
                  case rel => first | (have hfT := hfS; exact ⟨⟨_, _, _, _, rfl, rfl, Nat.le_refl _, bS, hS.store7 (n' := n0) (by omega) (by omega) (.int .i64 p0) (.int .i64 p1) (.int .i64 p2) (.int .i64 p3) (.string p4) (.string p5) (.string p6)⟩, rfl, hfT⟩) | exact ⟨⟨_, _, _, _, rfl, rfl, hf.size, Bx.new w9 _ _, hS.below (Nat.le_trans hnr hq1.size) ((Below.refl _ w9).alloc (Nat.le_refl _) _)⟩, rfl, hf.alloc hf.size _⟩
              case rest =>
                obtain ⟨⟨nb, A9, k9, c9, rfl, rfl, hnb, hk, hS⟩, rfl, hcc⟩ := hcut
                have hBc := hbr.trans (hcc.mono hbr.size)
                have hnc : n0 ≤ wc.heap.size := Nat.le_trans hnr hcc.size
                replace hbx := hbx.kept hcc
                replace hrow := hrow.kept hcc
                replace hot := hot.kept hcc
                clear keep hq1 hq2 hz2 hT1 hT2 hcc hbr hnr
                obtain ⟨y0, y1, y2, y3, y4, y5, y6⟩ := hk.seven
                go_upto_region 33 with fail
                obtain ⟨a0, f0, a1, f1, a2, f2, a3, f3, a4, f4, a5, f5, a6, f6, bR⟩ := hbx.store7 (.int .i64 p0) (.int .i64 p1) (.int .i64 p2) (.int .i64 p3) (.string p4) (.string p5) (.string p6)
                have hBz := below_store7 hBc (B := cB) hcl0 (.int .i64 p0) (.int .i64 p1) (.int .i64 p2) (.int .i64 p3) (.string p4) (.string p5) (.string p6)
                have HSz := Lib.hid (hS.store7 (n' := n0) (Nat.le_refl _) (B := cB) hcn (.int .i64 p0) (.int .i64 p1) (.int .i64 p2) (.int .i64 p3) (.string p4) (.string p5) (.string p6))
                have Hrow := Lib.hid (hrow.store7 (B := cB) hcn (.int .i64 p0) (.int .i64 p1) (.int .i64 p2) (.int .i64 p3) (.string p4) (.string p5) (.string p6))
                have Hot := Lib.hid (hot.other7 (B := cB) hcd (.int .i64 p0) (.int .i64 p1) (.int .i64 p2) (.int .i64 p3) (.string p4) (.string p5) (.string p6))
                have HbR := Lib.hid bR
                have HBz := Lib.hid hBz
                have Hnz : Hid (n0 ≤ wc.heap.size) := Lib.hid hnc
                clear hbx hk hBc hS hrow hot bR hBz hnc hnb
                go_wp2_with (at_builtin; refine wpList_append_said rfl _ _ rfl n0 ?hn rfl A9 k9 c9 ps rfl ?hS ?cont)
                case hn => rw [store7_size]; exact Hnz.out
                case hS => with_reducible exact HSz.out
                case cont =>
                  intro v9 w9 hM9 hb0
                  have hb9 := hb0.mono (Nat.le_of_eq (store7_size wc cB (.int .i64 p0) (.int .i64 p1) (.int .i64 p2) (.int .i64 p3) (.string p4) (.string p5) (.string p6)))
                  have hB9 := HBz.out.trans (hb9.mono HBz.out.size)
                  have hn9 : n0 ≤ w9.heap.size := Nat.le_trans (Nat.le_trans Hnz.out (Nat.le_of_eq (store7_size wc cB (.int .i64 p0) (.int .i64 p1) (.int .i64 p2) (.int .i64 p3) (.string p4) (.string p5) (.string p6)).symm)) hb9.size
                  have HbR9 := Lib.hid (HbR.out.kept hb9)
                  have Hrow9 := Lib.hid (Hrow.out.kept hb9)
                  have Hot9 := Lib.hid (Hot.out.kept hb9)
                  clear hb0
                  clear HBz Hnz HbR Hrow Hot hb9 HSz
                  go_wp2
                  go_roundw
                  case rel => exact ⟨i + 1, hlt, by rw [show ((i + 1 : Nat) : Int) = (i : Int) + 1 by omega], by rw [HY1.out]; exact hM9, Hrow9.out, Hot9.out, by rw [HX1.out]; unfold cellsHd; with_reducible exact HbR9.out, hn9, hB9⟩
                  case measure => simp only [intOf]; omega
            · have hie : i = ans.length := by omega
              subst hie
              clear hlt hi
              rw [HC1.out] at hbx
              rw [HS1.out] at hva
              go_wp2_with fail
              go_roundw
              case rel => exact ⟨t + 1, ht6, by rw [show ((t + 1 : Nat) : Int) = (t : Int) + 1 by omega], hva, hbx, by rw [HD2.out] at hot; exact hot, hnr, hbr⟩
              case measure => simp only [intOf]; omega
    · obtain rfl : t = 6 := by omega
      replace hc : Bx wr cB 28 [.int .i64 4, .int .i64 (lessN bc ac), .int .i64 (lessN bf af), .int .i64 (min bb ab), .string us, .string wo, .string ho] := hc
      replace hd : Bx wr dB 28 [.int .i64 4, .int .i64 (lessN bc ac), .int .i64 (lessN bf af), .int .i64 (min bb ab), .string us, .string wo, .string ho] := hd
      generalize lessN bc ac = tc at hc hd
      generalize lessN bf af = tf at hc hd
      generalize min bb ab = tb at hc hd
      obtain ⟨x0, x1, x2, x3, x4, x5, x6⟩ := hc.seven
      obtain ⟨y0, y1, y2, y3, y4, y5, y6⟩ := hd.seven
      clear hc hd hvs
      go_wp2
      go_ret
      exact ⟨rfl, hbr⟩
end Go.Proofs.YtkdiccedkjbpeaaGreatDoorR
