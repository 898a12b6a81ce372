/-
  Several texts joined in one file: each says at its own head, below, what it proves, and its conditions.
-/
import Derived.Deep.RegionHeld3
import Derived.Test.YtllgkohgcicbhaaGreatDoorRMRight
import Derived.Test.YtllgkohgcicbhaaGreatDoorZD
/-
  The document's own Bytes of chapter 6 answers a method's bytes, or why it isn't right; nothing that was there is changed. Conditions: the values lie in old memory, each number a uint64, each text shorter than 2^47 bytes.
-/
namespace Go.Proofs.YtllgkohgcicbhaaGreatDoor
open Go.RowKit

/-- between rounds: the row of bits that wait, the bytes so far -/
structure RbI (w : World) (N : Nat) (ls : List UInt8) (l : List MV) (pre : ByteArray) (k : Nat) (wr : World) (acc : ByteArray) (bs : List Bool) (vb : Value) : Prop where
 row : wr.ownsRow N 4 1 vb bs.length (boolVals bs)
 bel : Below N w wr
 eB : pre ++ layBy ls l [] = acc ++ layBy (ls.drop k) (l.drop k) bs
 bl : bs.length ≤ k
 al : acc.size ≤ 4 + k * 4294967500
 nx : bs = [] ∨ ls[k]? = some 98
theorem RbI.kept {w : World} {N : Nat} {ls : List UInt8} {l : List MV} {pre : ByteArray} {k : Nat} {wr w1 : World} {acc : ByteArray} {bs : List Bool} {vb : Value} (h : RbI w N ls l pre k wr acc bs vb) (hb : Below wr.heap.size wr w1) (hN : N ≤ w.heap.size) : RbI w N ls l pre k w1 acc bs vb :=
 ⟨rowKept h.row hb, h.bel.trans (hb.mono (Nat.le_trans hN h.bel.size)), h.eB, h.bl, h.al, h.nx⟩
theorem layBy_flush {ls : List UInt8} {l : List MV} {bs : List Bool} (hl : ls.length = l.length) (h : ∀ h : 0 < ls.length, ¬ ls[0] = 98) : layBy ls l bs = bitsS bs ++ layBy ls l [] := by
 match ls, l, hl with
 | [], [], _ => rw [layBy_nil, layBy_nil, bitsS_nil, ba_append_e]
 | c :: ls, v :: l, _ =>
  have hc : ¬ c = 98 := h (by simp)
  rw [layBy, layBy, if_neg hc, if_neg hc, bitsS_nil, ba_e_append]
theorem layBy_one {ls : List UInt8} {l : List MV} {k : Nat} (hk : k < ls.length) (hl : k < l.length) (h : ¬ ls[k] = 98) : layBy (ls.drop k) (l.drop k) [] = vB ls[k] l[k] ++ layBy (ls.drop (k + 1)) (l.drop (k + 1)) [] := by
 rw [List.drop_eq_getElem_cons hk, List.drop_eq_getElem_cons hl, layBy, if_neg h, bitsS_nil, ba_e_append]
theorem layBy_bit {ls : List UInt8} {l : List MV} {k : Nat} {bs : List Bool} (hk : k < ls.length) (hl : k < l.length) (h : ls[k] = 98) : layBy (ls.drop k) (l.drop k) bs = layBy (ls.drop (k + 1)) (l.drop (k + 1)) (bs ++ [l[k].n == 1]) := by
 rw [List.drop_eq_getElem_cons hk, List.drop_eq_getElem_cons hl, layBy, if_pos h]
theorem layEr_each {ls : List UInt8} {l : List MV} (h : layEr ls l = 0) {k : Nat} (hk : k < ls.length) (hl : k < l.length) : vE ls[k] l[k] = 0 := by
 have h1 := layEr_drop k ls l h
 rw [List.drop_eq_getElem_cons hk, List.drop_eq_getElem_cons hl] at h1
 exact (layEr_cons h1).1
end Go.Proofs.YtllgkohgcicbhaaGreatDoor

/-
  The document's own Bytes of chapter 6 answers a method's bytes, or why it isn't right; nothing that was there is changed. Conditions: the values lie in old memory, each number a uint64, each text shorter than 2^47 bytes.
-/
namespace Go.Proofs.YtllgkohgcicbhaaGreatDoor
open Go.RowKit

set_option maxRecDepth 100000 in
set_option maxHeartbeats 8000000 in
theorem rbytes6_any (m : Me) (A : Option Addr) (cap : Nat) (w : World) (hm : wfM m) (hA : ValsAt w A (rowV m.l)) :
 Calls Tryz.prog 27 #[encM m A cap] w fun e w' => e = .returned (.tuple #[.string (mB m), .int .i64 (mE m)]) ∧ Below w.heap.size w w' := by
 obtain ⟨i0, hi, hz0, hz1, hz2⟩ := info_parts (show (Tryz.prog.info? 4).map (fun i => (i.zero, i.size, i.bytes)) = some (some (.bool false), 1, 1) by kernel_rfl)
 have HMB : Hid (mB m = if mE m = 0 then putR 2 m.c ++ putR 2 m.i ++ layBy (mLs m) m.l [] else ⟨#[]⟩) := Lib.hid rfl
 have HEP : Hid (mE m = 0 → sIs m.c m.i = true ∧ (sOf m.c m.i).size = m.l.length ∧ layEr (mLs m) m.l = 0) := Lib.hid mE_parts
 have HW : Hid (∀ v ∈ m.l, wfV v) := Lib.hid hm
 obtain ⟨W0, hW0⟩ : ∃ W0, W0 = w.alloc (.cells #[.int .i64 m.c, .int .i64 m.i, .slice A m.l.length cap] 24) := ⟨_, rfl⟩
 have hb0 : Below w.heap.size w W0 := by rw [hW0]; exact (Below.refl _ w).alloc (Nat.le_refl _) _
 have hx0 : Bx W0 w.heap.size 24 [.int .i64 m.c, .int .i64 m.i, .slice A m.l.length cap] := by rw [hW0]; exact Bx.new w 24 _
 have hRt := rright6_any m A cap W0 hm (hA.below hb0)
 have hA0 := hA.below hb0
 unfold encM at *
 have x0 := hx0.cell 0 (by simp)
 have x1 := hx0.cell 1 (by simp)
 have x2 := hx0.cell 2 (by simp)
 dsimp only [List.getElem_cons_zero, List.getElem_cons_succ] at x0 x1 x2
 clear hm hA
 generalize mB m = r at HMB ⊢
 generalize mE m = q at HMB HEP hRt ⊢
 go_enter Tryz.func27, Tryz.ntmps27
 go_wp2_with fail
 rw [← hW0]
 clear hW0
 go_wp2_with fail
 with_reducible refine hRt.mono ?_
 rintro e w1 ⟨rfl, hb1⟩
 have hB1 := hb0.trans (hb1.mono hb0.size)
 have hx1 := hx0.kept hb1
 have hA1 := hA0.below hb1
 clear hRt hb0 hb1 hx0 hA0 x0 x1 x2
 by_cases hq : q = 0
 · subst hq
   obtain ⟨his, hlen, hlay⟩ := HEP.out rfl
   obtain ⟨hls, h16, hc, hi'⟩ := met_facts his
   have HR : Hid (r = putR 2 m.c ++ putR 2 m.i ++ layBy (sOf m.c m.i).data.toList m.l []) := Lib.hid (by rw [HMB.out, if_pos rfl]; rfl)
   have HLAY : Hid (layEr (sOf m.c m.i).data.toList m.l = 0) := Lib.hid hlay
   have HLS := Lib.hid hls
   have hOf := rof_any m.c m.i
   rw [his] at hOf
   obtain ⟨c, i, l⟩ := m
   dsimp only at *
   have e1 : IntKind.u64.wrap c = c := by simp only [IntKind.wrap_u64]; omega
   have e2 : IntKind.u64.wrap i = i := by simp only [IntKind.wrap_u64]; omega
   have p1 := putR_size (put2_ok hc)
   have p2 := putR_size (put2_ok hi')
   have hP1 := fun W => rput_any 2 c W hc.1 (by omega)
   have hP2 := fun W => rput_any 2 i W hi'.1 (by omega)
   rw [putE_of (put2_ok hc)] at hP1
   rw [putE_of (put2_ok hi')] at hP2
   have HLN := Lib.hid hlen
   clear HMB HEP his hlay hls hlen hc hi'
   generalize sOf c i = L at *
   generalize putR 2 c = pa at *
   generalize putR 2 i = pb at *
   have x0 := hx1.cell 0 (by simp)
   have x1 := hx1.cell 1 (by simp)
   dsimp only [List.getElem_cons_zero, List.getElem_cons_succ] at x0 x1
   go_wp2_with fail
   with_reducible refine (hOf _).mono ?_
   rintro e w2 ⟨rfl, hb2⟩
   have hB2 := hB1.trans (hb2.mono hB1.size)
   have hx2 := hx1.kept hb2
   have hA2 := hA1.below hb2
   clear hOf hb2 hx1 hA1 hB1 x0 x1
   have x0 := hx2.cell 0 (by simp)
   dsimp only [List.getElem_cons_zero, List.getElem_cons_succ] at x0
   go_wp2_with fail
   with_reducible refine (hP1 _).mono ?_
   rintro e w3 ⟨rfl, hb3⟩
   have hB3 := hB2.trans (hb3.mono hB2.size)
   have hx3 := hx2.kept hb3
   have hA3 := hA2.below hb3
   clear hP1 hb3 hx2 hA2 hB2 x0 e1
   have x1 := hx3.cell 1 (by simp)
   dsimp only [List.getElem_cons_zero, List.getElem_cons_succ] at x1
   go_wp2_with fail
   with_reducible refine (hP2 _).mono ?_
   rintro e w4 ⟨rfl, hb4⟩
   have hB4 := hB3.trans (hb4.mono hB3.size)
   have hx4 := hx3.kept hb4
   have hA4 := hA3.below hb4
   clear hP2 hb4 hx3 hA3 hB3 x1 e2
   have hsz : pa.size + pb.size ≤ 9223372036854775807 := by omega
   obtain ⟨N, hN⟩ : ∃ N, N = w4.heap.size := ⟨_, rfl⟩
   have HN4 : Hid (N ≤ w4.heap.size) := Lib.hid (by omega)
   have HI0 : RbI w4 N L.data.toList l (pa ++ pb) 0 w4 (pa ++ pb) [] (.slice none 0 0) := ⟨World.ownsRow_nil _ _ _ _, by rw [hN]; exact Below.refl _ _, rfl, Nat.le_refl _, by rw [ByteArray.size_append]; omega, .inl rfl⟩
   have HX4 := Lib.hid hN
   clear hN
   obtain ⟨n, hn⟩ : ∃ n, L.size = n := ⟨_, rfl⟩
   have HN := Lib.hid hn
   have hn16 : n ≤ 16 := by omega
   have HLL := Lib.hid (ba_len L)
   clear hn h16
   go_wp2_with fail
   go_loopw [11, 12, 13] (fun ov bv kv wr => ∃ k : Nat, k ≤ n ∧ kv = .int .i64 k ∧ ∃ (acc : ByteArray) (bs : List Bool) (vb : Value), ov = .string acc ∧ bv = vb ∧ RbI w4 N L.data.toList l (pa ++ pb) k wr acc bs vb) (fun _ _ kv _ => n - (intOf kv).toNat)
   case atStart => exact ⟨0, Nat.zero_le _, rfl, _, [], _, rfl, rfl, HI0⟩
   case round =>
    obtain ⟨k, hk, rfl, acc, bs, bv, rfl, hvb, HI⟩ := hrel
    have hvb := hvb.symm
    subst hvb
    clear HI0
    by_cases hlt : k < n
    · have hkL : k < L.size := by rw [HN.out]; exact hlt
      have hkl2 : k < L.data.toList.length := by rw [ba_len]; exact hkL
      have hkl : k < l.length := by rw [← HLN.out]; exact hkL
      have hBw : Below w4.heap.size w4 wr := by have := HI.bel; rw [HX4.out] at this; exact this
      have hxr := hx4.kept hBw
      obtain ⟨b1, o1, rfl, hl1, g1⟩ := vals_v hA4 (by omega)
      obtain ⟨c1, c1'⟩ := g1 k hkl
      have c1 := (hBw.cell (p := ⟨b1, o1 + k * 2, none⟩) hl1).trans c1
      have c1' := (hBw.cell (p := ⟨b1, o1 + k * 2 + 1, none⟩) hl1).trans c1'
      have hidx := fun W => index_str L k hkL W
      have e3 : IntKind.i64.wrap ((k : Int) + 1) = ((k + 1 : Nat) : Int) := by simp only [IntKind.wrap_i64]; omega
      have hlet := HLS.out _ (List.getElem_mem hkl2)
      have HVE := Lib.hid (layEr_each HLAY.out hkl2 hkl)
      have hwv := HW.out l[k] (List.getElem_mem hkl)
      have Hone := Lib.hid (fun h => layBy_one hkl2 hkl h)
      have Hbit := Lib.hid (fun (bs : List Bool) h => layBy_bit (bs := bs) hkl2 hkl h)
      have Hnx : Hid (L.data.toList[k] = 98 ∨ bs = []) := Lib.hid (by
       rcases HI.nx with h | h
       · exact .inr h
       · rw [List.getElem?_eq_getElem hkl2] at h
         exact .inl (by simpa using h))
      have x2 := hxr.cell 2 (by simp)
      dsimp only [List.getElem_cons_zero, List.getElem_cons_succ] at x2
      clear g1 hA4
      have eL : L[k]'hkL = L.data.toList[k] := rfl
      rw [eL] at hidx
      generalize L.data.toList[k] = cc at *
      generalize l[k] = u at *
      obtain ⟨un, us⟩ := u
      dsimp only at *
      rcases let_cases hlet with rfl | rfl | rfl | rfl | rfl | rfl | rfl | rfl
      · have hidx98 : ∀ W, (Instr.index 9 (.string L) (.int .i64 (k : Int))).run Tryz.prog W = .ok (.int .u8 98) W := hidx
        have hcI : ((L[k]'hkL).toNat : Int) = 98 := by rw [eL]; rfl
        have hvx := Bx.new wr 58 [.int .u64 un, .string us]
        have v0 := hvx.cell 0 (by simp)
        dsimp only [List.getElem_cons_zero, List.getElem_cons_succ] at v0
        have hrow1 : (wr.alloc (.cells #[.int .u64 un, .string us] 58)).ownsRow N 4 1 bv bs.length (boolVals bs) := HI.row.alloc _
        have hbel1 := HI.bel.alloc (Nat.le_trans HN4.out HI.bel.size) (.cells #[.int .u64 un, .string us] 58)
        have hbl0 := HI.bl
        have hnew : ∀ j u, [Value.bool (un == 1)][j]? = some u → ((wr.alloc (.cells #[.int .u64 un, .string us] 58)).alloc (.cells #[.bool (un == 1)] 4)).cell? ((⟨wr.heap.size + 1, 0, none⟩ : Addr).add j) = some u := by
         have h := cell_one_new (wr.alloc (.cells #[.int .u64 un, .string us] 58)) (.bool (un == 1)) 4
         rw [World.size_alloc] at h
         exact h
        have hsz' : N ≤ ((wr.alloc (.cells #[.int .u64 un, .string us] 58)).alloc (.cells #[.bool (un == 1)] 4)).heap.size := by rw [World.size_alloc, World.size_alloc]; have := HI.bel.size; have := HN4.out; omega
        have Heb0 := Lib.hid (by have h := HI.eB; rw [Hbit.out bs rfl] at h; exact h : pa ++ pb ++ layBy L.data.toList l [] = acc ++ layBy (L.data.toList.drop (k + 1)) (l.drop (k + 1)) (bs ++ [un == 1]))
        have Heb : Hid (pa ++ pb ++ layBy L.data.toList l [] = acc ++ layBy (L.data.toList.drop (k + 1)) (l.drop (k + 1)) (bs ++ [un == 1])) := Lib.hid Heb0.out
        clear hidx hxr hvx Hone Hbit Hnx HVE hBw Heb0 hlet
        go_wp2_with (first
         | (at_builtin; refine wpList_append_own _ rfl _ _ 91 rfl N 4 i0 (.bool false) 1 1 Tryz.underlying91 hi hz0 hz1 hz2 rfl (by decide) _ _ _ rfl (hrow1.alloc _) ⟨wr.heap.size + 1, 0, none⟩ 1 1 [.bool (un == 1)] rfl rfl hnew (by simp [Value.oneCell']) (by unfold maxLen; omega) (by omega) hsz' ?_))
        intro o' w8 hown' hgrow _
        have hb8 : Below N w4 w8 := rowBelow HN4.out hrow1 hbel1 hgrow
        have hrow8 : w8.ownsRow N 4 1 o' (bs ++ [un == 1]).length (boolVals (bs ++ [un == 1])) := by
         rw [List.length_append, boolVals, List.map_append]; exact hown'
        clear hown' hgrow hnew hsz' hrow1 hbel1 v0 c1 c1' x2
        by_cases hend : k + 1 = n
        · have HEND := Lib.hid hend
          have t5 : (((k + 1 : Nat) : Int) == (L.size : Int)) = true := by have := HN.out; simp; omega
          have t6 : ((k : Int) + 1 == (L.size : Int)) = true := by have := HN.out; simp; omega
          have t8 : (k + 1 == L.size) = true := by have := HN.out; simp; omega
          have HFl : Hid (layBy (L.data.toList.drop (k + 1)) (l.drop (k + 1)) (bs ++ [un == 1]) = bitsS (bs ++ [un == 1]) ++ layBy (L.data.toList.drop (k + 1)) (l.drop (k + 1)) []) := Lib.hid (layBy_flush (by rw [List.length_drop, List.length_drop, HLL.out, HLN.out]) (fun h => absurd h (by rw [List.length_drop, HLL.out]; have := HN.out; omega)))
          obtain ⟨Ab, cb, rfl, hbo⟩ := bools_of_row hrow8
          have hbl : (bs ++ [un == 1]).length ≤ 17 := by rw [List.length_append]; have := HI.bl; simp only [List.length_cons, List.length_nil]; omega
          have hbz : (bitsS (bs ++ [un == 1])).size ≤ 3 := by rw [bitsS_len]; omega
          have hBi := rbits_any Ab cb (bs ++ [un == 1]) w8 (by omega) hbo
          rw [show (bs ++ [un == 1]).length = bs.length + 1 by simp] at hBi
          have hal := HI.al
          have HIf : ∀ w9, Below w8.heap.size w8 w9 → RbI w4 N L.data.toList l (pa ++ pb) (k + 1) w9 (acc ++ bitsS (bs ++ [un == 1])) [] (.slice none 0 0) := fun w9 h9 => ⟨World.ownsRow_nil _ _ _ _, hb8.trans (h9.mono (Nat.le_trans HN4.out hb8.size)), by rw [Heb.out, HFl.out, ByteArray.append_assoc], Nat.zero_le _, by rw [ByteArray.size_append]; omega, .inl rfl⟩
          have HIF := Lib.hid HIf
          have hss : acc.size + (bitsS (bs ++ [un == 1])).size ≤ 9223372036854775807 := by omega
          clear HIf hrow8 hb8 hbo HI Heb HFl hbl hend
          generalize hbb : bitsS (bs ++ [un == 1]) = bz at *
          clear hbb
          go_wp2_with fail
          with_reducible refine hBi.mono ?_
          rintro e w9 ⟨rfl, hb9⟩
          have HI9 := Lib.hid (HIF.out w9 hb9)
          clear hBi HIF hb9 hbz hal
          go_wp2
          go_roundw
          case rel => exact ⟨k + 1, hlt, (by first | rfl | (have h1 := HN.out; have h2 := HEND.out; simp only [Value.int.injEq, true_and]; omega)), _, [], _, rfl, rfl, HI9.out⟩
          case measure => simp only [intOf]; omega
        · have hk1 : k + 1 < L.size := by have := HN.out; omega
          have hk1l : k + 1 < L.data.toList.length := by rw [ba_len]; exact hk1
          have t5 : (((k + 1 : Nat) : Int) == (L.size : Int)) = false := by simp; omega
          have t6 : ((k : Int) + 1 == (L.size : Int)) = false := by simp; omega
          have t8 : (k + 1 == L.size) = false := by simp; omega
          have hj1 := fun W => index_str L (k + 1) hk1 W
          have hj2 : ∀ W, (Instr.index 9 (.string L) (.int .i64 ((k : Int) + 1))).run Tryz.prog W = .ok (.int .u8 ((L[k + 1]'hk1).toNat : Int)) W := fun W => by
           have h := hj1 W
           rw [show ((k + 1 : Nat) : Int) = (k : Int) + 1 by omega] at h
           exact h
          by_cases h2 : L.data.toList[k + 1] = 98
          · have e2 : ((L[k + 1]'hk1).toNat : Int) = 98 := by have e : L[k + 1]'hk1 = 98 := h2; rw [e]; rfl
            rw [e2] at hj1 hj2
            have HI9 : Hid (RbI w4 N L.data.toList l (pa ++ pb) (k + 1) w8 acc (bs ++ [un == 1]) o') := Lib.hid ⟨hrow8, hb8, Heb.out, by rw [List.length_append]; have := HI.bl; simp only [List.length_cons, List.length_nil]; omega, Nat.le_trans HI.al (Nat.add_le_add_left (Nat.mul_le_mul_right _ (Nat.le_succ k)) 4), .inr (by rw [List.getElem?_eq_getElem hk1l, h2])⟩
            clear hrow8 hb8 HI Heb h2
            go_wp2
            go_roundw
            case rel => exact ⟨k + 1, hlt, rfl, _, _, _, rfl, rfl, HI9.out⟩
            case measure => simp only [intOf]; omega
          · have H2 := Lib.hid h2
            have t7 : (((L[k + 1]'hk1).toNat : Int) != 98) = true := by
             rw [bne_iff_ne]
             intro e
             exact h2 (UInt8.toNat_inj.1 (by rw [show (98 : UInt8).toNat = 98 from rfl]; have e2 : (L.data.toList[k + 1]'hk1l) = L[k + 1]'hk1 := rfl; rw [e2]; omega))
            clear h2
            obtain ⟨cq, hcq⟩ : ∃ cq, ((L[k + 1]'hk1).toNat : Int) = cq := ⟨_, rfl⟩
            rw [hcq] at hj1 hj2 t7
            have HFl : Hid (layBy (L.data.toList.drop (k + 1)) (l.drop (k + 1)) (bs ++ [un == 1]) = bitsS (bs ++ [un == 1]) ++ layBy (L.data.toList.drop (k + 1)) (l.drop (k + 1)) []) := Lib.hid (layBy_flush (by rw [List.length_drop, List.length_drop, HLL.out, HLN.out]) (fun h => by rw [List.getElem_drop]; exact H2.out))
            obtain ⟨Ab, cb, rfl, hbo⟩ := bools_of_row hrow8
            have hbl : (bs ++ [un == 1]).length ≤ 17 := by rw [List.length_append]; have := HI.bl; simp only [List.length_cons, List.length_nil]; omega
            have hbz : (bitsS (bs ++ [un == 1])).size ≤ 3 := by rw [bitsS_len]; omega
            have hBi := rbits_any Ab cb (bs ++ [un == 1]) w8 (by omega) hbo
            rw [show (bs ++ [un == 1]).length = bs.length + 1 by simp] at hBi
            have hal := HI.al
            have HIf : ∀ w9, Below w8.heap.size w8 w9 → RbI w4 N L.data.toList l (pa ++ pb) (k + 1) w9 (acc ++ bitsS (bs ++ [un == 1])) [] (.slice none 0 0) := fun w9 h9 => ⟨World.ownsRow_nil _ _ _ _, hb8.trans (h9.mono (Nat.le_trans HN4.out hb8.size)), by rw [Heb.out, HFl.out, ByteArray.append_assoc], Nat.zero_le _, by rw [ByteArray.size_append]; omega, .inl rfl⟩
            have HIF := Lib.hid HIf
            have hss : acc.size + (bitsS (bs ++ [un == 1])).size ≤ 9223372036854775807 := by omega
            clear HIf hrow8 hb8 hbo HI Heb HFl hbl hend
            generalize hbb : bitsS (bs ++ [un == 1]) = bz at *
            clear hbb
            go_wp2_with fail
            with_reducible refine hBi.mono ?_
            rintro e w9 ⟨rfl, hb9⟩
            have HI9 := Lib.hid (HIF.out w9 hb9)
            clear hBi HIF hb9 hbz hal
            go_wp2
            go_roundw
            case rel => exact ⟨k + 1, hlt, rfl, _, [], _, rfl, rfl, HI9.out⟩
            case measure => simp only [intOf]; omega
      · obtain rfl : bs = [] := by
         rcases Hnx.out with h | h
         · exact absurd h (by decide)
         · exact h
        have hidxc : ∀ W, (Instr.index 9 (.string L) (.int .i64 (k : Int))).run Tryz.prog W = .ok (.int .u8 76) W := hidx
        have hcI : ((L[k]'hkL).toNat : Int) = 76 := by rw [eL]; rfl
        have hX := vB_size HVE.out
        have hXe : vB 76 ⟨un, us⟩ = layR 4 us := by rw [vB, if_neg (by decide), if_neg (by decide), if_pos rfl]
        rw [hXe] at hX
        have HXE := Lib.hid hXe
        clear hXe
        have hus := hwv.2.2
        dsimp only at hus
        have hal := HI.al
        have HI2 := HI.kept ((Below.refl _ wr).alloc (Nat.le_refl _) (.cells #[.int .u64 un, .string us] 58)) HN4.out
        have hvx := Bx.new wr 58 [.int .u64 un, .string us]
        have HIf : ∀ w9, Below (wr.alloc (.cells #[.int .u64 un, .string us] 58)).heap.size (wr.alloc (.cells #[.int .u64 un, .string us] 58)) w9 → RbI w4 N L.data.toList l (pa ++ pb) (k + 1) w9 (acc ++ layR 4 us) [] bv := fun w9 h9 => by
         have h := HI2.kept h9 HN4.out
         refine ⟨h.row, h.bel, ?_, Nat.zero_le _, by rw [ByteArray.size_append]; omega, .inl rfl⟩
         rw [HI.eB, Hone.out (by decide), ← ByteArray.append_assoc, HXE.out]
        have HIF := Lib.hid HIf
        have hss : acc.size + (layR 4 us).size ≤ 9223372036854775807 := by omega
        have v1 := hvx.cell 1 (by simp)
        dsimp only [List.getElem_cons_zero, List.getElem_cons_succ] at v1
        have hC := rlong_any us (wr.alloc (.cells #[.int .u64 un, .string us] 58)) (by omega)
        clear HIf HI2 HI hvx hidx hxr Hone Hbit Hnx HVE hBw hlet hwv
        generalize layR 4 us = bz at *
        go_wp2_with fail
        with_reducible refine hC.mono ?_
        rintro e w10 ⟨rfl, hb10⟩
        have HI9 := Lib.hid (HIF.out w10 hb10)
        clear hC HIF hb10 v1
        go_wp2
        go_roundw
        case rel => exact ⟨k + 1, hlt, rfl, _, [], _, rfl, rfl, HI9.out⟩
        case measure => simp only [intOf]; omega
      · obtain rfl : bs = [] := by
         rcases Hnx.out with h | h
         · exact absurd h (by decide)
         · exact h
        have hidxc : ∀ W, (Instr.index 9 (.string L) (.int .i64 (k : Int))).run Tryz.prog W = .ok (.int .u8 83) W := hidx
        have hcI : ((L[k]'hkL).toNat : Int) = 83 := by rw [eL]; rfl
        have hX := vB_size HVE.out
        have hXe : vB 83 ⟨un, us⟩ = layR 1 us := by rfl
        rw [hXe] at hX
        have HXE := Lib.hid hXe
        clear hXe
        have hus := hwv.2.2
        dsimp only at hus
        have hal := HI.al
        have HI2 := HI.kept ((Below.refl _ wr).alloc (Nat.le_refl _) (.cells #[.int .u64 un, .string us] 58)) HN4.out
        have hvx := Bx.new wr 58 [.int .u64 un, .string us]
        have HIf : ∀ w9, Below (wr.alloc (.cells #[.int .u64 un, .string us] 58)).heap.size (wr.alloc (.cells #[.int .u64 un, .string us] 58)) w9 → RbI w4 N L.data.toList l (pa ++ pb) (k + 1) w9 (acc ++ layR 1 us) [] bv := fun w9 h9 => by
         have h := HI2.kept h9 HN4.out
         refine ⟨h.row, h.bel, ?_, Nat.zero_le _, by rw [ByteArray.size_append]; omega, .inl rfl⟩
         rw [HI.eB, Hone.out (by decide), ← ByteArray.append_assoc, HXE.out]
        have HIF := Lib.hid HIf
        have hss : acc.size + (layR 1 us).size ≤ 9223372036854775807 := by omega
        have v1 := hvx.cell 1 (by simp)
        dsimp only [List.getElem_cons_zero, List.getElem_cons_succ] at v1
        have hC := rshort_any us (wr.alloc (.cells #[.int .u64 un, .string us] 58)) (by omega)
        clear HIf HI2 HI hvx hidx hxr Hone Hbit Hnx HVE hBw hlet hwv
        generalize layR 1 us = bz at *
        go_wp2_with fail
        with_reducible refine hC.mono ?_
        rintro e w10 ⟨rfl, hb10⟩
        have HI9 := Lib.hid (HIF.out w10 hb10)
        clear hC HIF hb10 v1
        go_wp2
        go_roundw
        case rel => exact ⟨k + 1, hlt, rfl, _, [], _, rfl, rfl, HI9.out⟩
        case measure => simp only [intOf]; omega
      · obtain rfl : bs = [] := by
         rcases Hnx.out with h | h
         · exact absurd h (by decide)
         · exact h
        have hidxc : ∀ W, (Instr.index 9 (.string L) (.int .i64 (k : Int))).run Tryz.prog W = .ok (.int .u8 84) W := hidx
        have hcI : ((L[k]'hkL).toNat : Int) = 84 := by rw [eL]; rfl
        have hX := vB_size HVE.out
        have hXe : vB 84 ⟨un, us⟩ = us := by rfl
        rw [hXe] at hX
        have HXE := Lib.hid hXe
        clear hXe
        have hus := hwv.2.2
        dsimp only at hus
        have hal := HI.al
        have HI2 := HI.kept ((Below.refl _ wr).alloc (Nat.le_refl _) (.cells #[.int .u64 un, .string us] 58)) HN4.out
        have hvx := Bx.new wr 58 [.int .u64 un, .string us]
        have HIf : ∀ w9, Below (wr.alloc (.cells #[.int .u64 un, .string us] 58)).heap.size (wr.alloc (.cells #[.int .u64 un, .string us] 58)) w9 → RbI w4 N L.data.toList l (pa ++ pb) (k + 1) w9 (acc ++ us) [] bv := fun w9 h9 => by
         have h := HI2.kept h9 HN4.out
         refine ⟨h.row, h.bel, ?_, Nat.zero_le _, by rw [ByteArray.size_append]; omega, .inl rfl⟩
         rw [HI.eB, Hone.out (by decide), ← ByteArray.append_assoc, HXE.out]
        have HIF := Lib.hid HIf
        have hss : acc.size + (us).size ≤ 9223372036854775807 := by omega
        have v1 := hvx.cell 1 (by simp)
        dsimp only [List.getElem_cons_zero, List.getElem_cons_succ] at v1
        have HI9 := Lib.hid (HIF.out _ (Below.refl _ _))
        clear HIf HI2 HI hvx hidx hxr Hone Hbit Hnx HVE hBw hlet hwv HIF
        go_wp2
        go_roundw
        case rel => exact ⟨k + 1, hlt, rfl, _, [], _, rfl, rfl, HI9.out⟩
        case measure => simp only [intOf]; omega
      · obtain rfl : bs = [] := by
         rcases Hnx.out with h | h
         · exact absurd h (by decide)
         · exact h
        have hidxc : ∀ W, (Instr.index 9 (.string L) (.int .i64 (k : Int))).run Tryz.prog W = .ok (.int .u8 108) W := hidx
        have hcI : ((L[k]'hkL).toNat : Int) = 108 := by rw [eL]; rfl
        have hX := vB_size HVE.out
        have hXe : vB 108 ⟨un, us⟩ = putR 4 un := by rfl
        rw [hXe] at hX
        have HXE := Lib.hid hXe
        clear hXe
        have hus := hwv.2.2
        dsimp only at hus
        have hal := HI.al
        have HI2 := HI.kept ((Below.refl _ wr).alloc (Nat.le_refl _) (.cells #[.int .u64 un, .string us] 58)) HN4.out
        have hvx := Bx.new wr 58 [.int .u64 un, .string us]
        have HIf : ∀ w9, Below (wr.alloc (.cells #[.int .u64 un, .string us] 58)).heap.size (wr.alloc (.cells #[.int .u64 un, .string us] 58)) w9 → RbI w4 N L.data.toList l (pa ++ pb) (k + 1) w9 (acc ++ putR 4 un) [] bv := fun w9 h9 => by
         have h := HI2.kept h9 HN4.out
         refine ⟨h.row, h.bel, ?_, Nat.zero_le _, by rw [ByteArray.size_append]; omega, .inl rfl⟩
         rw [HI.eB, Hone.out (by decide), ← ByteArray.append_assoc, HXE.out]
        have HIF := Lib.hid HIf
        have hss : acc.size + (putR 4 un).size ≤ 9223372036854775807 := by omega
        have hWd : ∀ W, Calls Tryz.prog 59 #[.int .u8 108] W fun e w' => e = .returned (.int .i64 4) ∧ w' = W := fun W => rwidth_any 108 W rfl
        have hP := fun W => rput_any 4 un W hwv.1 hwv.2.1
        have keep : ∀ w', Below (wr.alloc (.cells #[.int .u64 un, .string us] 58)).heap.size (wr.alloc (.cells #[.int .u64 un, .string us] 58)) w' → w'.cell? ⟨wr.heap.size, 0, none⟩ = some (.int .u64 un) := fun w' h => (hvx.kept h).cell 0 (by simp)
        have y0 := keep _ (Below.refl _ _)
        have hlI : (k : Int) < (L.size : Int) := by omega
        clear HIf HI2 HI hvx hidx hxr Hone Hbit Hnx HVE hBw hlet hwv
        generalize putR 4 un = bz at *
        generalize putE 4 un = be at *
        go_wp2
        generalize wr.alloc (.cells #[.int .u64 un, .string us] 58) = w9 at HIF keep y0 ⊢
        go_region_held3 (fun w' => w'.cell? ⟨wr.heap.size, 0, none⟩ = some (.int .u64 un)) (first | go_keep | (exact keep _ ⟨hq.os, hq.tape, hq.output, hq.size, hq.block⟩)) (first | (go_at_call 59; refine (hWd _).mono ?_; rintro e w' ⟨rfl, rfl⟩) | (go_at_call 55; refine (hP _).mono ?_; rintro e w10 ⟨rfl, hq⟩))
        have HI9 := Lib.hid (HIF.out w10 ⟨hq.os, hq.tape, hq.output, hq.size, hq.block⟩)
        clear HIF keep y0 hWd hP hq
        go_wp2
        go_roundw
        case rel => exact ⟨k + 1, hlt, rfl, _, [], _, rfl, rfl, HI9.out⟩
        case measure => simp only [intOf]; omega
      · obtain rfl : bs = [] := by
         rcases Hnx.out with h | h
         · exact absurd h (by decide)
         · exact h
        have hidxc : ∀ W, (Instr.index 9 (.string L) (.int .i64 (k : Int))).run Tryz.prog W = .ok (.int .u8 111) W := hidx
        have hcI : ((L[k]'hkL).toNat : Int) = 111 := by rw [eL]; rfl
        have hX := vB_size HVE.out
        have hXe : vB 111 ⟨un, us⟩ = putR 1 un := by rfl
        rw [hXe] at hX
        have HXE := Lib.hid hXe
        clear hXe
        have hus := hwv.2.2
        dsimp only at hus
        have hal := HI.al
        have HI2 := HI.kept ((Below.refl _ wr).alloc (Nat.le_refl _) (.cells #[.int .u64 un, .string us] 58)) HN4.out
        have hvx := Bx.new wr 58 [.int .u64 un, .string us]
        have HIf : ∀ w9, Below (wr.alloc (.cells #[.int .u64 un, .string us] 58)).heap.size (wr.alloc (.cells #[.int .u64 un, .string us] 58)) w9 → RbI w4 N L.data.toList l (pa ++ pb) (k + 1) w9 (acc ++ putR 1 un) [] bv := fun w9 h9 => by
         have h := HI2.kept h9 HN4.out
         refine ⟨h.row, h.bel, ?_, Nat.zero_le _, by rw [ByteArray.size_append]; omega, .inl rfl⟩
         rw [HI.eB, Hone.out (by decide), ← ByteArray.append_assoc, HXE.out]
        have HIF := Lib.hid HIf
        have hss : acc.size + (putR 1 un).size ≤ 9223372036854775807 := by omega
        have hWd : ∀ W, Calls Tryz.prog 59 #[.int .u8 111] W fun e w' => e = .returned (.int .i64 1) ∧ w' = W := fun W => rwidth_any 111 W rfl
        have hP := fun W => rput_any 1 un W hwv.1 hwv.2.1
        have keep : ∀ w', Below (wr.alloc (.cells #[.int .u64 un, .string us] 58)).heap.size (wr.alloc (.cells #[.int .u64 un, .string us] 58)) w' → w'.cell? ⟨wr.heap.size, 0, none⟩ = some (.int .u64 un) := fun w' h => (hvx.kept h).cell 0 (by simp)
        have y0 := keep _ (Below.refl _ _)
        have hlI : (k : Int) < (L.size : Int) := by omega
        clear HIf HI2 HI hvx hidx hxr Hone Hbit Hnx HVE hBw hlet hwv
        generalize putR 1 un = bz at *
        generalize putE 1 un = be at *
        go_wp2
        generalize wr.alloc (.cells #[.int .u64 un, .string us] 58) = w9 at HIF keep y0 ⊢
        go_region_held3 (fun w' => w'.cell? ⟨wr.heap.size, 0, none⟩ = some (.int .u64 un)) (first | go_keep | (exact keep _ ⟨hq.os, hq.tape, hq.output, hq.size, hq.block⟩)) (first | (go_at_call 59; refine (hWd _).mono ?_; rintro e w' ⟨rfl, rfl⟩) | (go_at_call 55; refine (hP _).mono ?_; rintro e w10 ⟨rfl, hq⟩))
        have HI9 := Lib.hid (HIF.out w10 ⟨hq.os, hq.tape, hq.output, hq.size, hq.block⟩)
        clear HIF keep y0 hWd hP hq
        go_wp2
        go_roundw
        case rel => exact ⟨k + 1, hlt, rfl, _, [], _, rfl, rfl, HI9.out⟩
        case measure => simp only [intOf]; omega
      · obtain rfl : bs = [] := by
         rcases Hnx.out with h | h
         · exact absurd h (by decide)
         · exact h
        have hidxc : ∀ W, (Instr.index 9 (.string L) (.int .i64 (k : Int))).run Tryz.prog W = .ok (.int .u8 113) W := hidx
        have hcI : ((L[k]'hkL).toNat : Int) = 113 := by rw [eL]; rfl
        have hX := vB_size HVE.out
        have hXe : vB 113 ⟨un, us⟩ = putR 8 un := by rfl
        rw [hXe] at hX
        have HXE := Lib.hid hXe
        clear hXe
        have hus := hwv.2.2
        dsimp only at hus
        have hal := HI.al
        have HI2 := HI.kept ((Below.refl _ wr).alloc (Nat.le_refl _) (.cells #[.int .u64 un, .string us] 58)) HN4.out
        have hvx := Bx.new wr 58 [.int .u64 un, .string us]
        have HIf : ∀ w9, Below (wr.alloc (.cells #[.int .u64 un, .string us] 58)).heap.size (wr.alloc (.cells #[.int .u64 un, .string us] 58)) w9 → RbI w4 N L.data.toList l (pa ++ pb) (k + 1) w9 (acc ++ putR 8 un) [] bv := fun w9 h9 => by
         have h := HI2.kept h9 HN4.out
         refine ⟨h.row, h.bel, ?_, Nat.zero_le _, by rw [ByteArray.size_append]; omega, .inl rfl⟩
         rw [HI.eB, Hone.out (by decide), ← ByteArray.append_assoc, HXE.out]
        have HIF := Lib.hid HIf
        have hss : acc.size + (putR 8 un).size ≤ 9223372036854775807 := by omega
        have hWd : ∀ W, Calls Tryz.prog 59 #[.int .u8 113] W fun e w' => e = .returned (.int .i64 8) ∧ w' = W := fun W => rwidth_any 113 W rfl
        have hP := fun W => rput_any 8 un W hwv.1 hwv.2.1
        have keep : ∀ w', Below (wr.alloc (.cells #[.int .u64 un, .string us] 58)).heap.size (wr.alloc (.cells #[.int .u64 un, .string us] 58)) w' → w'.cell? ⟨wr.heap.size, 0, none⟩ = some (.int .u64 un) := fun w' h => (hvx.kept h).cell 0 (by simp)
        have y0 := keep _ (Below.refl _ _)
        have hlI : (k : Int) < (L.size : Int) := by omega
        clear HIf HI2 HI hvx hidx hxr Hone Hbit Hnx HVE hBw hlet hwv
        generalize putR 8 un = bz at *
        generalize putE 8 un = be at *
        go_wp2
        generalize wr.alloc (.cells #[.int .u64 un, .string us] 58) = w9 at HIF keep y0 ⊢
        go_region_held3 (fun w' => w'.cell? ⟨wr.heap.size, 0, none⟩ = some (.int .u64 un)) (first | go_keep | (exact keep _ ⟨hq.os, hq.tape, hq.output, hq.size, hq.block⟩)) (first | (go_at_call 59; refine (hWd _).mono ?_; rintro e w' ⟨rfl, rfl⟩) | (go_at_call 55; refine (hP _).mono ?_; rintro e w10 ⟨rfl, hq⟩))
        have HI9 := Lib.hid (HIF.out w10 ⟨hq.os, hq.tape, hq.output, hq.size, hq.block⟩)
        clear HIF keep y0 hWd hP hq
        go_wp2
        go_roundw
        case rel => exact ⟨k + 1, hlt, rfl, _, [], _, rfl, rfl, HI9.out⟩
        case measure => simp only [intOf]; omega
      · obtain rfl : bs = [] := by
         rcases Hnx.out with h | h
         · exact absurd h (by decide)
         · exact h
        have hidxc : ∀ W, (Instr.index 9 (.string L) (.int .i64 (k : Int))).run Tryz.prog W = .ok (.int .u8 115) W := hidx
        have hcI : ((L[k]'hkL).toNat : Int) = 115 := by rw [eL]; rfl
        have hX := vB_size HVE.out
        have hXe : vB 115 ⟨un, us⟩ = putR 2 un := by rfl
        rw [hXe] at hX
        have HXE := Lib.hid hXe
        clear hXe
        have hus := hwv.2.2
        dsimp only at hus
        have hal := HI.al
        have HI2 := HI.kept ((Below.refl _ wr).alloc (Nat.le_refl _) (.cells #[.int .u64 un, .string us] 58)) HN4.out
        have hvx := Bx.new wr 58 [.int .u64 un, .string us]
        have HIf : ∀ w9, Below (wr.alloc (.cells #[.int .u64 un, .string us] 58)).heap.size (wr.alloc (.cells #[.int .u64 un, .string us] 58)) w9 → RbI w4 N L.data.toList l (pa ++ pb) (k + 1) w9 (acc ++ putR 2 un) [] bv := fun w9 h9 => by
         have h := HI2.kept h9 HN4.out
         refine ⟨h.row, h.bel, ?_, Nat.zero_le _, by rw [ByteArray.size_append]; omega, .inl rfl⟩
         rw [HI.eB, Hone.out (by decide), ← ByteArray.append_assoc, HXE.out]
        have HIF := Lib.hid HIf
        have hss : acc.size + (putR 2 un).size ≤ 9223372036854775807 := by omega
        have hWd : ∀ W, Calls Tryz.prog 59 #[.int .u8 115] W fun e w' => e = .returned (.int .i64 2) ∧ w' = W := fun W => rwidth_any 115 W rfl
        have hP := fun W => rput_any 2 un W hwv.1 hwv.2.1
        have keep : ∀ w', Below (wr.alloc (.cells #[.int .u64 un, .string us] 58)).heap.size (wr.alloc (.cells #[.int .u64 un, .string us] 58)) w' → w'.cell? ⟨wr.heap.size, 0, none⟩ = some (.int .u64 un) := fun w' h => (hvx.kept h).cell 0 (by simp)
        have y0 := keep _ (Below.refl _ _)
        have hlI : (k : Int) < (L.size : Int) := by omega
        clear HIf HI2 HI hvx hidx hxr Hone Hbit Hnx HVE hBw hlet hwv
        generalize putR 2 un = bz at *
        generalize putE 2 un = be at *
        go_wp2
        generalize wr.alloc (.cells #[.int .u64 un, .string us] 58) = w9 at HIF keep y0 ⊢
        go_region_held3 (fun w' => w'.cell? ⟨wr.heap.size, 0, none⟩ = some (.int .u64 un)) (first | go_keep | (exact keep _ ⟨hq.os, hq.tape, hq.output, hq.size, hq.block⟩)) (first | (go_at_call 59; refine (hWd _).mono ?_; rintro e w' ⟨rfl, rfl⟩) | (go_at_call 55; refine (hP _).mono ?_; rintro e w10 ⟨rfl, hq⟩))
        have HI9 := Lib.hid (HIF.out w10 ⟨hq.os, hq.tape, hq.output, hq.size, hq.block⟩)
        clear HIF keep y0 hWd hP hq
        go_wp2
        go_roundw
        case rel => exact ⟨k + 1, hlt, rfl, _, [], _, rfl, rfl, HI9.out⟩
        case measure => simp only [intOf]; omega
    · obtain rfl : k = n := by omega
      have hLn : L.data.toList.length = k := by rw [HLL.out, HN.out]
      have HF : Hid (r = acc) := Lib.hid (by
       have h1 := HI.eB
       rw [List.drop_of_length_le (by omega), List.drop_of_length_le (by have := HLN.out; have := HN.out; omega), layBy_nil] at h1
       have h2 : bs = [] := by
        rcases HI.nx with h | h
        · exact h
        · rw [List.getElem?_eq_none (by omega)] at h; cases h
       rw [h2, bitsS_nil, ba_append_e] at h1
       rw [HR.out, h1])
      have tN : ((k : Int) < (L.size : Int)) = False := by rw [HN.out]; simp
      have hBw : Below w4.heap.size w4 wr := by have := HI.bel; rw [HX4.out] at this; exact this
      clear hLn HI hA4 hx4
      go_wp2
      go_ret2
      exact ⟨by rw [HF.out]; rfl, hB4.trans (hBw.mono hB4.size)⟩
 · have HF : Hid (r = ⟨#[]⟩) := Lib.hid (by rw [HMB.out, if_neg hq])
   have t : (q != 0) = true := by simpa using hq
   clear HMB HEP hq
   go_wp2
   go_ret2
   exact ⟨by rw [HF.out]; rfl, hB1⟩
end Go.Proofs.YtllgkohgcicbhaaGreatDoor
