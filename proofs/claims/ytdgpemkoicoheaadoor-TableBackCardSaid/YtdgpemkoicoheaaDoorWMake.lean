/-
  table.Make answers as PMake's plain functions say; nothing that was there is changed. Conditions: the package num's table of widths holds 1, 2, 4, 8; all keys and values together have fewer than 2^46 bytes.
-/
import Derived.Deep.RegionHeld3
import Derived.Test.YtdgpemkoicoheaaDoorMStr
import Derived.Test.YtdgpemkoicoheaaDoorPMake
import Derived.Test.YtdgpemkoicoheaaDoorWBuild
namespace Go.Proofs.YtdgpemkoicoheaaDoor
open Go.RowKit

theorem totSz_get {z : Pairs} {k : Nat} (h : k < z.length) : totSz (z.take k) + z[k].1.size + z[k].2.size + 8 ≤ totSz z := by
  have h1 := totSz_take z (k + 1)
  rw [take_succ_pairs z k h, totSz_append] at h1
  simp only [totSz] at h1
  omega
theorem bytes_step (z : Pairs) (k : Nat) (h : k < z.length) : Lib.byteCells (pairsBody (z.take (k + 1))).data.toList = Lib.byteCells (pairsBody (z.take k)).data.toList ++ Lib.strCells (layR 1 z[k].1) ++ Lib.strCells z[k].2 := by
  rw [take_succ_pairs z k h, pairsBody_append]
  simp only [pairsBody, ba_append_empty]
  rw [ba_append, ba_append, Lib.byteCells_append, Lib.byteCells_append, Lib.strCells_eq, Lib.strCells_eq, List.append_assoc]

set_option maxRecDepth 100000 in
set_option maxHeartbeats 4000000 in
theorem make_same (A1 A2 : Option Addr) (c1 c2 n : Nat) (ks vs : List ByteArray) (w : World) (hw : Wid w) (hkl : ks.length = n) (hvl : vs.length = n) (hn : n < 1125899906842624) (h1 : ValsAt w A1 (ks.map Value.string)) (h2 : ValsAt w A2 (vs.map Value.string)) (htot : totSz (ks.zip vs) ≤ 70368744177664) :
    Calls Tryd.prog 22 #[.slice A1 n c1, .slice A2 n c2] w fun e w' => e = .returned (.tuple #[.string (makeR ks vs), .int .i64 (makeE ks vs)]) ∧ Below w.heap.size w w' := by
  have hzl : (ks.zip vs).length = n := by rw [List.length_zip]; omega
  have HM := Lib.hid (And.intro (show makeE ks vs = if ks.length = vs.length then (if pairsErr (ks.zip vs) = 0 then (if layOk 4 (pairsBody (ks.zip vs)) = true then (if 32 < pairsDeep (ks.zip vs) + 1 then 5 else 0) else layE 4 (pairsBody (ks.zip vs))) else pairsErr (ks.zip vs)) else 1 from rfl) (show makeR ks vs = if makeE ks vs = 0 then layR 4 (pairsBody (ks.zip vs)) else ⟨#[]⟩ from rfl))
  rw [if_pos (by omega)] at HM
  have HZ := Lib.hid (show ∀ k (h : k < (ks.zip vs).length) (h1 : k < ks.length) (h2 : k < vs.length), (ks.zip vs)[k] = (ks[k], vs[k]) from fun k h _ _ => List.getElem_zip)
  generalize ks.zip vs = z at htot hzl HM HZ
  go_enter Tryd.func22, Tryd.ntmps22
  go_wp2_with fail
  refine (takers_any w hw).mono ?_
  rintro e w1 ⟨M, B, rfl, tk, hb⟩
  have hbs := hb.size
  have k1 := h1.below hb
  have k2 := h2.below hb
  clear h1 h2
  have hfresh := Lib.fresh_isBuilder 67 5 w1
  have hB0 : Below w1.heap.size w1 (w1.alloc (.cells #[.pointer none, .slice none 0 0] 67)) := (Below.refl _ _).alloc (Nat.le_refl _) _
  go_wp2
  go_loopw [9, 27] (fun d i wr => ∃ k : Nat, k ≤ n ∧ i = .int .i64 k ∧ (∃ m, d = .int .i64 m ∧ 0 ≤ m ∧ m ≤ 32 ∧ Hid (m = pairsDeep (z.take k) ∧ pairsErr (z.take k) = 0)) ∧ Lib.IsBuilder 67 5 w1.heap.size w1.heap.size (Lib.byteCells (pairsBody (z.take k)).data.toList) wr ∧ Below w1.heap.size w1 wr) (fun _ i _ => n - (intOf i).toNat)
  case atStart => exact ⟨0, Nat.zero_le _, rfl, ⟨0, rfl, by omega, by omega, Lib.hid ⟨rfl, rfl⟩⟩, hfresh, hB0⟩
  case round =>
    obtain ⟨k, hk, rfl, ⟨m, rfl, m0, m32, HP⟩, hbu, hbr⟩ := hrel
    have hbrs := hbr.size
    by_cases hlt : k < n
    · have hkz : k < z.length := by omega
      obtain ⟨b1, o1, rfl, l1, g1⟩ := k1 (by simp; omega)
      obtain ⟨b2, o2, rfl, l2, g2⟩ := k2 (by simp; omega)
      have p1 := (hbr.cell (p := ⟨b1, o1 + k, none⟩) l1).trans (g1 k (by simp; omega))
      have p2 := (hbr.cell (p := ⟨b2, o2 + k, none⟩) l2).trans (g2 k (by simp; omega))
      rw [List.getElem_map] at p1 p2
      clear g1 g2
      have hz := HZ.out k hkz (by omega) (by omega)
      have hts := totSz_get (z := z) (k := k) hkz
      have hbz := pairsBody_size (z.take k)
      have hbs1 := bytes_step z k hkz
      have htk := take_succ_pairs z k hkz
      have hpe : pairE z[k].1 z[k].2 ≠ 0 → pairsErr z = pairE z[k].1 z[k].2 := fun h => pairsErr_at hkz HP.out.2 h
      rw [hz] at hts hbs1 htk hpe
      clear hz
      generalize ks[k] = kk at p1 hts hbs1 htk hpe
      generalize vs[k] = vv at p2 hts hbs1 htk hpe
      dsimp only at hts hbs1 htk hpe
      have HB := Lib.hid hbs1
      have HT := Lib.hid htk
      have HE := Lib.hid hpe
      clear hbs1 htk hpe
      have tkr := tk.below hbr
      go_wp2
      go_region_held3 (fun w' => w'.cell? ⟨b1, o1 + k, none⟩ = some (.string kk) ∧ w'.cell? ⟨b2, o2 + k, none⟩ = some (.string vv)) (first | go_keep | (exact ⟨(hq.cell (p := ⟨b1, o1 + k, none⟩) (by simp; omega)).trans p1, (hq.cell (p := ⟨b2, o2 + k, none⟩) (by simp; omega)).trans p2⟩)) (first | (go_at_call 29; refine (pair_any kk vv _ M B (by omega) (by omega) (tkr.below ((Below.refl _ wr).drew))).mono ?_; rintro e w2 ⟨rfl, hq⟩))
      have hq' : Below wr.heap.size wr w2 := ⟨hq.os, hq.tape, hq.output, hq.size, hq.block⟩
      have hbr2 : Below w1.heap.size w1 w2 := hbr.trans (hq'.mono hbrs)
      have bu2 := isBuilder_below hbu hq'
      have q2 := (hbr2.cell (p := ⟨b2, o2 + k, none⟩) l2).trans ((hbr.cell (p := ⟨b2, o2 + k, none⟩) l2).symm.trans p2)
      rename_i hHeld
      clear hHeld hq hq' hbu hbr tkr p1 p2
      by_cases he : pairE kk vv = 0
      · have hK : pairK kk vv = layR 1 kk := by rw [pairK, if_pos he]
        have hD : pairD kk vv = aloneD (val vv 32) := by rw [pairD, if_pos he]
        obtain ⟨d0, d1⟩ := aloneD_le vv
        rw [hK, hD, he]
        have HX : Hid (max m (aloneD (val vv 32)) = pairsDeep (z.take (k + 1)) ∧ pairsErr (z.take (k + 1)) = 0) := Lib.hid (by
          rw [HT.out, pairsDeep_append, pairsErr_append, if_pos HP.out.2, ← HP.out.1]
          simp only [pairsDeep, pairsErr, if_pos he]
          exact ⟨by omega, trivial⟩)
        have hl1 := layR_le 1 kk
        have hl0 : (Lib.byteCells (pairsBody (z.take k)).data.toList).length = (pairsBody (z.take k)).size := by rw [Lib.byteCells_length, ba_len]
        clear HE hK hD he HP
        generalize aloneD (val vv 32) = dd at d0 d1 HX ⊢
        generalize layR 1 kk = kb at hl1 HB ⊢
        generalize Lib.byteCells (pairsBody (z.take k)).data.toList = cs at hl0 bu2 HB
        have hw2 := hbr2.size
        go_wp2_with fail
        refine (writeString_any w1.heap.size w1.heap.size cs kb w2 bu2 (by omega) hw2).mono ?_
        rintro e w3 ⟨rfl, bu3, hb3⟩
        have hbr3 := hbr2.trans hb3
        have hw3 := hbr3.size
        have q3 := (hb3.cell (p := ⟨b2, o2 + k, none⟩) l2).trans q2
        have hl3 : (cs ++ Lib.strCells kb).length = cs.length + kb.size := by rw [List.length_append, Lib.strCells_length]
        clear bu2 q2 hbr2 hb3
        go_wp2_with fail
        refine (writeString_any w1.heap.size w1.heap.size _ vv w3 bu3 (by omega) hw3).mono ?_
        rintro e w4 ⟨rfl, bu4, hb4⟩
        have hbr4 := hbr3.trans hb4
        rw [← HB.out] at bu4
        have HBU := Lib.hid bu4
        clear bu3 bu4 q3 hbr3 hb4 hl3 hl0 HB HT
        by_cases hm : dd ≤ m
        · have em : max m dd = m := by omega
          rw [em] at HX
          go_wp2
          go_roundw
          case rel => exact ⟨k + 1, by omega, by go_num, ⟨_, rfl, by omega, by omega, HX⟩, HBU.out, hbr4⟩
          case measure => simp [intOf]; omega
        · have em : max m dd = dd := by omega
          rw [em] at HX
          go_wp2
          go_roundw
          case rel => exact ⟨k + 1, by omega, by go_num, ⟨_, rfl, by omega, by omega, HX⟩, HBU.out, hbr4⟩
          case measure => simp [intOf]; omega
      · have H : Hid (makeE ks vs = pairE kk vv ∧ makeR ks vs = ⟨#[]⟩) := Lib.hid (by
          have e1 := HE.out he
          have e2 : makeE ks vs = pairE kk vv := by rw [HM.out.1, if_neg (by rw [e1]; exact he), e1]
          exact ⟨e2, by rw [HM.out.2, e2, if_neg he]⟩)
        have t1 : (pairE kk vv != 0) = true := by simpa using he
        clear HE HM he HP HB HT bu2 q2
        generalize pairK kk vv = pk
        generalize pairD kk vv = pd
        generalize pairE kk vv = x at t1 H ⊢
        go_wp2
        go_ret2
        refine ⟨?_, hb.trans (hbr2.mono hbs)⟩
        rw [H.out.1, H.out.2]
        rfl
    · obtain rfl : k = n := by omega
      have hzt : z.take k = z := List.take_of_length_le (by omega)
      rw [hzt] at HP hbu
      have hbz := pairsBody_size z
      go_wp2_with fail
      refine (bString_any w1.heap.size w1.heap.size _ wr hbu hbrs).mono ?_
      rintro e w2 ⟨rfl, hb2⟩
      have e0 : (⟨(pairsBody z).data.toList.toArray⟩ : ByteArray) = pairsBody z := by apply ba_ext; simp
      rw [e0]
      have hbr2 := hbr.trans hb2
      have hw2 : Wid w2 := tk.wid.below hbr2
      have HD : Hid (m = pairsDeep z) := Lib.hid HP.out.1
      have HM2 := HM
      rw [if_pos HP.out.2, ← HD.out] at HM2
      clear hbu e0 hb2 HP HM hzt HD
      generalize pairsBody z = body at hbz HM2 ⊢
      go_wp2_with fail
      refine (long_any body w2 hw2 (by omega)).mono ?_
      rintro e w3 ⟨rfl, hb3⟩
      have hbr3 := hb.trans ((hbr2.trans (hb3.mono hbr2.size)).mono hbs)
      rcases Bool.eq_false_or_eq_true (layOk 4 body) with h | h
      · rw [layE_of h]
        by_cases hm : 32 < m + 1
        · have H : Hid (makeE ks vs = 5 ∧ makeR ks vs = ⟨#[]⟩) := Lib.hid (by
            have e1 : makeE ks vs = 5 := by rw [HM2.out.1, if_pos h, if_pos hm]
            exact ⟨e1, by rw [HM2.out.2, e1]; rfl⟩)
          clear HM2 h
          generalize layR 4 body = r
          go_wp2
          go_ret2
          refine ⟨?_, hbr3⟩
          rw [H.out.1, H.out.2]
          rfl
        · have H : Hid (makeE ks vs = 0 ∧ makeR ks vs = layR 4 body) := Lib.hid (by
            have e1 : makeE ks vs = 0 := by rw [HM2.out.1, if_pos h, if_neg hm]
            exact ⟨e1, by rw [HM2.out.2, e1, if_pos rfl]⟩)
          clear HM2 h
          generalize layR 4 body = r at H ⊢
          go_wp2
          go_ret2
          refine ⟨?_, hbr3⟩
          rw [H.out.1, H.out.2]
          rfl
      · obtain ⟨t1, -⟩ := layE_not h
        have H : Hid (makeE ks vs = layE 4 body ∧ makeR ks vs = ⟨#[]⟩) := Lib.hid (by
          have e1 : makeE ks vs = layE 4 body := by rw [HM2.out.1, if_neg (by simp [h])]
          exact ⟨e1, by rw [HM2.out.2, e1, if_neg (by simpa using t1)]⟩)
        clear HM2 h
        generalize layR 4 body = r
        generalize layE 4 body = x at t1 H ⊢
        go_wp2
        go_ret2
        refine ⟨?_, hbr3⟩
        rw [H.out.1, H.out.2]
        rfl
theorem make_parts (A1 A2 : Option Addr) (c1 c2 n m : Nat) (ks vs : List ByteArray) (w : World) (hkl : ks.length = n) (hvl : vs.length = m) (hne : n ≠ m) :
    Calls Tryd.prog 22 #[.slice A1 n c1, .slice A2 m c2] w fun e w' => e = .returned (.tuple #[.string (makeR ks vs), .int .i64 (makeE ks vs)]) ∧ Below w.heap.size w w' := by
  have H : Hid (makeE ks vs = 1 ∧ makeR ks vs = ⟨#[]⟩) := Lib.hid (by
    have e1 : makeE ks vs = 1 := by rw [makeE, if_neg (by omega)]
    exact ⟨e1, by rw [makeR, e1]; rfl⟩)
  have t1 : ((n : Int) == (m : Int)) = false := by rw [beq_eq_false_iff_ne]; omega
  have t2 : ((n : Int) != (m : Int)) = true := by simp [bne, t1]
  clear hkl hvl
  go_enter Tryd.func22, Tryd.ntmps22
  go_wp2
  go_ret2
  refine ⟨?_, Below.refl _ _⟩
  rw [H.out.1, H.out.2]
  rfl
theorem make_any (A1 A2 : Option Addr) (c1 c2 n m : Nat) (ks vs : List ByteArray) (w : World) (hw : Wid w) (hkl : ks.length = n) (hvl : vs.length = m) (hn : n < 1125899906842624) (h1 : ValsAt w A1 (ks.map Value.string)) (h2 : ValsAt w A2 (vs.map Value.string)) (htot : totSz (ks.zip vs) ≤ 70368744177664) :
    Calls Tryd.prog 22 #[.slice A1 n c1, .slice A2 m c2] w fun e w' => e = .returned (.tuple #[.string (makeR ks vs), .int .i64 (makeE ks vs)]) ∧ Below w.heap.size w w' := by
  by_cases hne : n = m
  · subst hne
    exact make_same A1 A2 c1 c2 n ks vs w hw hkl hvl hn h1 h2 htot
  · exact make_parts A1 A2 c1 c2 n m ks vs w hkl hvl hne
end Go.Proofs.YtdgpemkoicoheaaDoor
