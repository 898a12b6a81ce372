/-
  Several texts joined in one file: each says at its own head, below, what it proves, and its conditions.
-/
import Derived.RangeFuncNested
import Derived.RangeFuncBound
import Derived.RangeFuncCalls
import Derived.RangeFuncLeaves
import Derived.Test.YtkdiccedkjbpeaaGreatDoorRWVal
import Derived.Test.YtkdiccedkjbpeaaGreatDoorRWWays
import Derived.WalkMore
import Derived.Deep.RegionHeld3
import Derived.Test.YtkdiccedkjbpeaaGreatDoorRWBuildK
import Derived.Test.YtkdiccedkjbpeaaGreatDoorRKI
import Derived.Test.YtkdiccedkjbpeaaGreatDoorRJMV
/-
  The method that the map has at a letter lays such a value. Conditions: the package num's table of widths holds 1, 2, 4, 8; the value's number is a uint64, its text is shorter than 2^47 bytes.
-/
namespace Go.Proofs.YtkdiccedkjbpeaaGreatDoorR
open Go.RowKit

theorem way_any (c : UInt8) (hc : isLet c = true) : (∀ args w, (callFunc (wayF c) args).run Tryz.prog w = .ok (.enter (wayF c) args) w) ∧ ∀ (v : MV) (w : World), Wid w → wfV v →
    Calls Tryz.prog (wayF c) #[encV v] w fun e w' => e = .returned (.tuple #[.string (vRes c v), .int .i64 (vE c v)]) ∧ Below w.heap.size w w' := by
  rcases let_cases hc with rfl | rfl | rfl | rfl | rfl | rfl | rfl | rfl
  · exact ⟨enters_of Tryz.func96 (by kernel_rfl) rfl, fun v w hw hv => bit_any v w hv⟩
  · exact ⟨enters_of Tryz.func98 (by kernel_rfl) rfl, fun v w hw hv => vlong_any v w hw hv⟩
  · exact ⟨enters_of Tryz.func97 (by kernel_rfl) rfl, fun v w hw hv => vshort_any v w hw hv⟩
  · exact ⟨enters_of Tryz.func99 (by kernel_rfl) rfl, fun v w hw hv => vtable_any v w hw hv⟩
  · exact ⟨enters_of Tryz.func94 (by kernel_rfl) rfl, fun v w hw hv => one_any 108 _ (.inr (.inr (.inl ⟨rfl, rfl⟩))) v w hw hv⟩
  · exact ⟨enters_of Tryz.func92 (by kernel_rfl) rfl, fun v w hw hv => one_any 111 _ (.inl ⟨rfl, rfl⟩) v w hw hv⟩
  · exact ⟨enters_of Tryz.func95 (by kernel_rfl) rfl, fun v w hw hv => one_any 113 _ (.inr (.inr (.inr ⟨rfl, rfl⟩))) v w hw hv⟩
  · exact ⟨enters_of Tryz.func93 (by kernel_rfl) rfl, fun v w hw hv => one_any 115 _ (.inr (.inl ⟨rfl, rfl⟩)) v w hw hv⟩
end Go.Proofs.YtkdiccedkjbpeaaGreatDoorR

/-
  method.lay answers the bytes of values by their letters, or the first error; nothing that was there is changed. Conditions: the package num's table of widths holds 1, 2, 4, 8; as many letters as values, 16 at most; each number is a uint64, each text shorter than 2^47 bytes.
-/
namespace Go.Proofs.YtkdiccedkjbpeaaGreatDoorR
open Go.RowKit

def layS (ls : List UInt8) (l : List MV) : ByteArray := if layEr ls l = 0 then layBy ls l [] else ⟨#[]⟩
theorem bools_of_row {w : World} {B : Nat} {vb : Value} {bs : List Bool} (h : w.ownsRow B 4 1 vb bs.length (boolVals bs)) : ∃ A c, vb = .slice A bs.length c ∧ BoolsAt w A bs := by
  obtain ⟨A, c, rfl, hv⟩ := vals_of_row h
  refine ⟨A, c, rfl, fun h0 => ?_⟩
  obtain ⟨b, off, hA, hlt, hc⟩ := hv (by simp [boolVals]; exact h0)
  exact ⟨b, off, hA, hlt, fun i hi => by rw [hc i (by simpa [boolVals] using hi)]; simp [boolVals]⟩
structure LayI (w : World) (ls : List UInt8) (l : List MV) (M b bb k : Nat) (wr : World) (acc : ByteArray) (bs : List Bool) (vb : Value) : Prop where
  ways : Ways wr M
  bu : Lib.IsBuilder 113 5 w.heap.size b (Lib.strCells acc) wr
  bx : Boxed wr bb 114 vb
  row : wr.ownsRow w.heap.size 4 1 vb bs.length (boolVals bs)
  bel : Below w.heap.size w wr
  bl : bs.length ≤ k
  al : acc.size ≤ k * 4294967500
  eB : layBy ls l [] = acc ++ layBy (ls.drop k) (l.drop k) bs
  eE : layEr ls l = layEr (ls.drop k) (l.drop k)
theorem LayI.keeps {w : World} {ls : List UInt8} {l : List MV} {M b bb k : Nat} {wr : World} {acc : ByteArray} {bs : List Bool} {vb : Value} (h : LayI w ls l M b bb k wr acc bs vb) {w' : World} (hb : Below wr.heap.size wr w') : LayI w ls l M b bb k w' acc bs vb :=
  ⟨h.ways.below hb h.ways.lt, isBuilder_below h.bu hb, boxed_below h.bx hb h.bx.lt, rowKept h.row hb, h.bel.trans (hb.mono h.bel.size), h.bl, h.al, h.eB, h.eE⟩
theorem strCells_append (a b : ByteArray) : Lib.strCells a ++ Lib.strCells b = Lib.strCells (a ++ b) := by
  rw [Lib.strCells_eq, Lib.strCells_eq, Lib.strCells_eq, ba_append, Lib.byteCells_append]

set_option maxRecDepth 100000 in
set_option maxHeartbeats 4000000 in
theorem lay_m (L : ByteArray) (A : Option Addr) (cap : Nat) (l : List MV) (w : World) (hw : Wid w) (hlen : L.size = l.length) (h16 : l.length ≤ 16) (hls : ∀ c ∈ L.data.toList, isLet c = true) (hv : ∀ v ∈ l, wfV v) (hA : ValsAt w A (rowV l)) :
    Calls Tryz.prog 48 #[.string L, .slice A l.length cap] w fun e w' => e = .returned (.tuple #[.string (layS L.data.toList l), .int .i64 (layEr L.data.toList l)]) ∧ Below w.heap.size w w' := by
  have hmf : ∀ (p : Value) (w : World), (Instr.makeFunc (.func 76) #[] #[p]).run Tryz.prog w = .ok (.func (.func 76) #[] #[p]) w := fun _ _ => by kernel_rfl
  have HS : Hid (layS L.data.toList l = if layEr L.data.toList l = 0 then layBy L.data.toList l [] else ⟨#[]⟩) := Lib.hid rfl
  have HLen := Lib.hid hlen
  have hLl : L.data.toList.length = l.length := by rw [ba_len, hlen]
  obtain ⟨n, hn⟩ : ∃ n, l.length = n := ⟨_, rfl⟩
  have hnL : L.size = n := hlen.trans hn
  rw [hn] at h16 ⊢
  have HN := Lib.hid hn
  have HLl := Lib.hid hLl
  clear hlen hLl hn
  go_enter Tryz.func48, Tryz.ntmps48
  go_wp2_with fail
  go_step3
  go_wp2_with fail
  refine (ways_any w).mono ?_
  rintro e w1 ⟨rfl, hW1, hb1⟩
  have hs1 := hb1.size
  have hI : LayI w L.data.toList l w.heap.size w1.heap.size (w1.heap.size + 1) 0 ((w1.alloc (.cells #[.pointer none, .slice none 0 0] 113)).alloc (.cells #[.slice none 0 0] 114)) ⟨#[]⟩ [] (.slice none 0 0) := by
    have hbb : Below w1.heap.size w1 ((w1.alloc (.cells #[.pointer none, .slice none 0 0] 113)).alloc (.cells #[.slice none 0 0] 114)) := ((Below.refl _ w1).alloc (Nat.le_refl _) _).alloc (by simp) _
    refine ⟨hW1.below hbb hW1.lt, ?_, ?_, ?_, hb1.trans (hbb.mono hs1), Nat.le_refl _, Nat.zero_le _, ?_, rfl⟩
    · have hx := (Bx.new w1 113 [.pointer none, .slice none 0 0]).alloc (.cells #[.slice none 0 0] 114)
      exact .inl ⟨hs1, .slice none 0 0, hx, World.ownsRow_nil _ _ _ _, by simp [Value.ownBlock]⟩
    · have h := Boxed.new (w1.alloc (.cells #[.pointer none, .slice none 0 0] 113)) 114 (.slice none 0 0)
      rw [World.size_alloc] at h
      exact h
    · exact World.ownsRow_nil _ _ _ _
    · rw [ba_e_append]; rfl
  clear hW1 hb1
  go_wp2
  go_step3
  go_wp2
  obtain ⟨W0, hW0⟩ : ∃ W0, W0 = (w1.alloc (.cells #[.pointer none, .slice none 0 0] 113)).alloc (.cells #[.slice none 0 0] 114) := ⟨_, rfl⟩
  rw [← hW0] at hI ⊢
  clear hW0
  obtain ⟨bb, hbb⟩ : ∃ bb, w1.heap.size + 1 = bb := ⟨_, rfl⟩
  rw [hbb] at hI ⊢
  have hbM : w.heap.size ≤ bb := by omega
  clear hbb
  generalize w1.heap.size = b at hI hs1 ⊢
  obtain ⟨M, hM⟩ : ∃ M, M = w.heap.size := ⟨_, rfl⟩
  rw [← hM]
  have hI' : LayI w L.data.toList l M b bb 0 W0 ⟨#[]⟩ [] (.slice none 0 0) := by rw [hM]; exact hI
  clear hI hM
  go_loopw [18] (fun x wr => ∃ k : Nat, k ≤ n ∧ x = .int .i64 k ∧ ∃ acc bs vb, LayI w L.data.toList l M b bb k wr acc bs vb) (fun x _ => n - (intOf x).toNat)
  case atStart => exact ⟨0, Nat.zero_le _, rfl, _, _, _, hI'⟩
  case round =>
    obtain ⟨k, hk, rfl, acc, bs, vb, HI⟩ := hrel
    clear hI'
    by_cases hlt : k < n
    · have hkl : k < l.length := by rw [HN.out]; exact hlt
      have hkL : k < L.size := by omega
      have hkl2 : k < L.data.toList.length := by rw [ba_len]; exact hkL
      obtain ⟨b0, off, hAe, hb0, hc⟩ := vals_v hA (by omega)
      subst hAe
      obtain ⟨x0, x1⟩ := hc k hkl
      have x0 := (HI.bel.cell (p := ⟨b0, off + k * 2, none⟩) hb0).trans x0
      have x1 := (HI.bel.cell (p := ⟨b0, off + k * 2 + 1, none⟩) hb0).trans x1
      have hvk := hv l[k] (List.getElem_mem hkl)
      have hlet := hls L.data.toList[k] (List.getElem_mem hkl2)
      have eC : L.data.toList[k] = L[k] := rfl
      have HD : Hid (L.data.toList.drop k = L.data.toList[k] :: L.data.toList.drop (k + 1) ∧ l.drop k = l[k] :: l.drop (k + 1)) := Lib.hid ⟨List.drop_eq_getElem_cons hkl2, List.drop_eq_getElem_cons hkl⟩
      obtain ⟨c, hcc⟩ : ∃ c, L.data.toList[k] = c := ⟨_, rfl⟩
      have hcI : ((L[k]'hkL).toNat : Int) = (c.toNat : Int) := by rw [← hcc]; rfl
      rw [hcc] at hlet HD
      clear hcc eC hc
      obtain ⟨hEnt, hCall⟩ := way_any c hlet
      have hLook := fun W hW => Ways.look (w := W) (M := M) hW c hlet
      generalize l[k] = v at x0 x1 hvk HD
      have hCall := fun W hW => hCall v W hW hvk
      have HR : Hid (vRes c v = if vE c v = 0 then vB c v else ⟨#[]⟩) := Lib.hid rfl
      have H98 : Hid ((c.toNat : Int) = 98 ↔ c = 98) := Lib.hid (by
        constructor
        · intro h
          exact UInt8.toNat_inj.1 (by rw [show (98 : UInt8).toNat = 98 from rfl]; omega)
        · intro h; rw [h]; rfl)
      generalize hcz : (c.toNat : Int) = cz at hcI hLook H98
      generalize wayF c = f at hEnt hCall hLook
      have hVE : Hid (vE c v = vE c v) := Lib.hid rfl
      generalize vRes c v = vr at hCall HR
      generalize hve : vE c v = ve at hCall HR
      clear hVE hcz
      obtain ⟨nn, ss⟩ := v
      unfold encV at hCall
      dsimp only at x0 x1 hCall
      have hbw : Below wr.heap.size wr (wr.alloc (.cells #[.int .u64 nn, .string ss] 51)) := (Below.refl _ wr).alloc (Nat.le_refl _) _
      have HI2 := HI.keeps hbw
      have hbx := Bx.new wr 51 [.int .u64 nn, .string ss]
      have HVE := Lib.hid hve
      clear HI hve hv hls hA
      go_wp2
      generalize wr.alloc (.cells #[.int .u64 nn, .string ss] 51) = w9 at HI2 hbx
      have hL9 := hLook w9 HI2.ways
      have hwid := hw.below HI2.bel
      have keep : ∀ w', Below w9.heap.size w9 w' → w'.cell? ⟨wr.heap.size, 0, none⟩ = some (.int .u64 nn) ∧ w'.cell? ⟨wr.heap.size, 1, none⟩ = some (.string ss) ∧ (Instr.lookup 108 (.map (some M)) (.int .u8 cz) false).run Tryz.prog w' = .ok (.func (.func f) #[] #[]) w' := fun w' h => ⟨(hbx.kept h).cell 0 (by simp), (hbx.kept h).cell 1 (by simp), hLook w' (HI2.ways.below h HI2.ways.lt)⟩
      obtain ⟨y0, y1, y2⟩ := keep w9 (Below.refl _ _)
      go_region_held3 (fun w' => w'.cell? ⟨wr.heap.size, 0, none⟩ = some (.int .u64 nn) ∧ w'.cell? ⟨wr.heap.size, 1, none⟩ = some (.string ss) ∧ (Instr.lookup 108 (.map (some M)) (.int .u8 cz) false).run Tryz.prog w' = .ok (.func (.func f) #[] #[]) w') (first | (exact keep _ (Below.refl _ w9).drew) | (exact keep _ ⟨hq.os, hq.tape, hq.output, hq.size, hq.block⟩)) (first | (refine (hCall _ (by exact hwid.below (Below.refl _ w9).drew)).mono ?_; rintro e w10 ⟨rfl, hq⟩))
      have hf : Below w9.heap.size w9 w10 := ⟨hq.os, hq.tape, hq.output, hq.size, hq.block⟩
      have HI3 := HI2.keeps hf
      have z0 := (hbx.kept hf).cell 0 (by simp)
      dsimp only [List.getElem_cons_zero, List.getElem_cons_succ] at z0
      have e1 : IntKind.i64.wrap ((k : Int) + 1) = ((k + 1 : Nat) : Int) := by simp only [IntKind.wrap_i64]; omega
      clear HI2 hbx hq hf hL9 hwid keep y0 y1 y2 hCall hEnt hLook hbw x0 x1
      by_cases hve : ve = 0
      · subst hve
        have HE : Hid (layEr L.data.toList l = layEr (L.data.toList.drop (k + 1)) (l.drop (k + 1))) := Lib.hid (by
          rw [HI3.eE, HD.out.1, HD.out.2, layEr, if_pos HVE.out])
        by_cases hcb : c = 98
        · have hz := H98.out.2 hcb
          subst hz
          have HB : Hid (layBy L.data.toList l [] = acc ++ layBy (L.data.toList.drop (k + 1)) (l.drop (k + 1)) (bs ++ [nn == 1])) := Lib.hid (by
            rw [HI3.eB, HD.out.1, HD.out.2, layBy, if_pos hcb])
          have hG := gather_any w.heap.size bb nn vb bs w10 hbM HI3.bel.size HI3.bx HI3.row (by have := HI3.bl; omega)
          clear HD HR H98 HVE hcb
          go_wp2_with fail
          refine hG.mono ?_
          rintro e w11 ⟨rfl, ⟨vb', g1, g2⟩, g3, g4⟩
          have HI4 : LayI w L.data.toList l M b bb (k + 1) w11 acc (bs ++ [nn == 1]) vb' := ⟨HI3.ways.keeps g4, isBuilder_keeps HI3.bu g4 (by decide) (by decide), g1, g2, HI3.bel.trans g3, by have := HI3.bl; simp; omega, Nat.le_trans HI3.al (Nat.mul_le_mul_right _ (Nat.le_succ k)), HB.out, HE.out⟩
          clear hG HI3 g1 g2 g3 g4 HB HE z0
          generalize (bs ++ [nn == 1]) = bs' at HI4
          go_wp2
          go_roundw
          case rel => exact ⟨k + 1, hlt, rfl, _, _, _, HI4⟩
          case measure => simp only [intOf]; omega
        · have tz : (cz == 98) = false := by
            have : ¬ cz = 98 := fun h => hcb (H98.out.1 h)
            simpa using this
          have hvr : vr = vB c ⟨nn, ss⟩ := by rw [HR.out, if_pos rfl]
          have hvs : vr.size ≤ 4294967400 := by rw [hvr]; exact vB_size HVE.out
          have HB : Hid (layBy L.data.toList l [] = (acc ++ bitsS bs ++ vr) ++ layBy (L.data.toList.drop (k + 1)) (l.drop (k + 1)) []) := Lib.hid (by
            rw [HI3.eB, HD.out.1, HD.out.2, layBy, if_neg hcb, hvr, ByteArray.append_assoc, ByteArray.append_assoc])
          have HVS := Lib.hid hvs
          obtain ⟨Ab, cb, rfl, hbo⟩ := bools_of_row HI3.row
          have hbl := HI3.bl
          have hal := HI3.al
          have hBits := bits_any Ab cb bs w10 (by omega) hbo
          have hbsz := bitsS_len bs
          have cbx := HI3.bx.cell
          clear HD HR H98 HVE hcb hvr hvs hbo
          go_wp2_with fail
          refine hBits.mono ?_
          rintro e w11 ⟨rfl, hb11⟩
          have HI4 := HI3.keeps hb11
          have hW1 := writeString_keeps w.heap.size b (Lib.strCells acc) (bitsS bs) w11 HI4.bu (by rw [Lib.strCells_length]; omega) HI4.bel.size
          clear hBits HI3 hb11 cbx
          generalize hbS : bitsS bs = bS at hbsz HB hW1
          clear hbS
          go_wp2_with fail
          refine hW1.mono ?_
          rintro e w12 ⟨rfl, u1, u2, u3⟩
          rw [strCells_append] at u1
          have v1 := HI4.ways.keeps u3
          have v2 := u3.boxed HI4.bx (by decide)
          have v3 := HI4.bel.trans u2
          have hsz2 : (acc ++ bS).size = acc.size + bS.size := ByteArray.size_append
          have hW2 := writeString_keeps w.heap.size b (Lib.strCells (acc ++ bS)) vr w12 u1 (by rw [Lib.strCells_length, hsz2]; have := HVS.out; omega) v3.size
          clear HI4 hW1 u2 u3 u1
          go_wp2_with fail
          refine hW2.mono ?_
          rintro e w13 ⟨rfl, u1, u2, u3⟩
          rw [strCells_append] at u1
          have v1 := v1.keeps u3
          have v2 := u3.boxed v2 (by decide)
          have v3 := v3.trans u2
          clear hW2 u2 u3
          have cb := v2.cell
          have fb := v2.frozen
          have kS : Keeps (fun t => t != 114) w13 (w13.setCell ⟨bb, 0, none⟩ (.slice none 0 0)) := Keeps.setCell (show w13.heap[bb]? = _ from v2) (by decide) 0 _
          have HI5 : LayI w L.data.toList l M b bb (k + 1) (w13.setCell ⟨bb, 0, none⟩ (.slice none 0 0)) (acc ++ bS ++ vr) [] (.slice none 0 0) := ⟨v1.keeps kS, isBuilder_keeps u1 kS (by decide) (by decide), v2.set _, World.ownsRow_nil _ _ _ _, v3.setCell (p := ⟨bb, 0, none⟩) hbM _, Nat.zero_le _, by rw [ByteArray.size_append, hsz2]; have := HVS.out; omega, HB.out, HE.out⟩
          clear HVS HB HE u1 v1 kS v3 v2 hsz2
          generalize (acc ++ bS ++ vr) = acc' at HI5
          go_wp2
          go_roundw
          case rel => exact ⟨k + 1, hlt, rfl, _, _, _, HI5⟩
          case measure => simp only [intOf]; omega
      · have tve : (ve != 0) = true := by simpa using hve
        have HF : Hid (layS L.data.toList l = ⟨#[]⟩ ∧ layEr L.data.toList l = ve) := Lib.hid (by
          have e : layEr L.data.toList l = ve := by rw [HI3.eE, HD.out.1, HD.out.2, layEr, HVE.out, if_neg hve]
          exact ⟨by rw [HS.out, e, if_neg hve], e⟩)
        have hB := HI3.bel
        clear HI3 HD HR HVE HS H98 hve z0
        go_wp2
        rw [Exit.noGoto_ret]
        go_ret2
        exact ⟨by rw [HF.out.1, HF.out.2]; rfl, hB⟩
    · obtain rfl : k = n := by omega
      obtain ⟨Ab, cb, rfl, hbo⟩ := bools_of_row HI.row
      have hbl := HI.bl
      have hal := HI.al
      have hBits := bits_any Ab cb bs wr (by omega) hbo
      have hbsz := bitsS_len bs
      have cbx := HI.bx.cell
      have HB : Hid (layS L.data.toList l = acc ++ bitsS bs ∧ layEr L.data.toList l = 0) := Lib.hid (by
        have d1 : L.data.toList.drop k = [] := List.drop_of_length_le (by rw [HLl.out, HN.out]; exact Nat.le_refl _)
        have d2 : l.drop k = [] := List.drop_of_length_le (by rw [HN.out]; exact Nat.le_refl _)
        have e : layEr L.data.toList l = 0 := by rw [HI.eE, d1, d2]; rfl
        exact ⟨by rw [HS.out, if_pos e, HI.eB, d1, d2]; rfl, e⟩)
      clear hbo HS
      go_wp2_with fail
      refine hBits.mono ?_
      rintro e w11 ⟨rfl, hb11⟩
      have HI4 := HI.keeps hb11
      have hW1 := writeString_keeps w.heap.size b (Lib.strCells acc) (bitsS bs) w11 HI4.bu (by rw [Lib.strCells_length]; omega) HI4.bel.size
      clear hBits HI hb11 cbx
      generalize hbS : bitsS bs = bS at hbsz HB hW1
      clear hbS
      go_wp2_with fail
      refine hW1.mono ?_
      rintro e w12 ⟨rfl, u1, u2, u3⟩
      rw [strCells_append, Lib.strCells_eq] at u1
      have v3 := HI4.bel.trans u2
      have hStr := bString_any w.heap.size b _ w12 u1 v3.size
      have ea : (⟨(acc ++ bS).data.toList.toArray⟩ : ByteArray) = acc ++ bS := rfl
      rw [ea] at hStr
      clear HI4 hW1 u2 u3 u1 ea
      generalize acc ++ bS = r at HB hStr
      go_wp2_with fail
      refine hStr.mono ?_
      rintro e w13 ⟨rfl, hb13⟩
      clear hStr
      go_wp2
      rw [Exit.noGoto_ret]
      go_ret2
      exact ⟨by rw [HB.out.1, HB.out.2]; rfl, v3.trans hb13⟩
end Go.Proofs.YtkdiccedkjbpeaaGreatDoorR
