/-
  The document's own Take of chapter 6 answers the method that bytes are, in memory of its own, or that there is none; nothing that was there is changed. Conditions: texts of fewer than 2^62 bytes.
-/
import Derived.Deep.DeepCutAuto
import Derived.Test.YtllgkohgcicbhaaGreatDoorRMRight
import Derived.Test.YtllgkohgcicbhaaGreatDoorJRMTk1
import Derived.Test.YtllgkohgcicbhaaGreatDoorZD
import Derived.Test.YtllgkohgcicbhaaGreatDoorZI
namespace Go.Proofs.YtllgkohgcicbhaaGreatDoor
open Go.RowKit

theorem roR_le {c : UInt8} {R : ByteArray} (hc : ¬ c = 98) (h : roE c R = 0) : (roR c R).size ≤ R.size := by
 unfold roR roE at *
 by_cases h76 : c = 76
 · rw [if_pos h76]; exact ttR_le 4 R
 · rw [if_neg h76] at h ⊢; exact oR_le hc h
theorem roV_wf {c : UInt8} {R : ByteArray} (hl : isLet c = true) (hc : ¬ c = 98) (h : roE c R = 0) : wfV (roV c R) := by
 unfold roV roE at *
 by_cases h76 : c = 76
 · rw [if_pos h76] at h ⊢
   have h1 := (lay_tt (ttOk_of h)).1
   have h2 := putOk_lt h1
   refine ⟨Int.le_refl _, (show (0 : Int) < 18446744073709551616 by decide), ?_⟩
   have h3 : ((ttA 4 R).size : Int) < 4294967296 := h2
   dsimp only
   omega
 · rw [if_neg h76] at h ⊢
   obtain ⟨g1, -, g3⟩ := one_forth hc h
   exact wfV_right hl g3 g1
theorem bitV_wf (b : Bool) : wfV (bitV b) := by cases b <;> exact ⟨by decide, by decide, by decide⟩
theorem mr_wr (n : Int) (h : -9223372036854775808 ≤ n ∧ n ≤ 9223372036854775807) : wrap64 n = n := by unfold wrap64; omega
theorem mr_wrap_two (a b : Nat) (ha : a < 256) (hb : b < 256) : wrap64 (wrap64 ((256 : Int) * wrap64 (a : Int)) + wrap64 (b : Int)) = (256 : Int) * (a : Int) + (b : Int) := by
 rw [mr_wr (a : Int) ⟨by omega, by omega⟩, mr_wr (b : Int) ⟨by omega, by omega⟩, mr_wr ((256 : Int) * (a : Int)) ⟨by omega, by omega⟩, mr_wr _ ⟨by omega, by omega⟩]
theorem mr_row {W W' : World} {N B : Nat} {t e : TypeId} {sz : Nat} {xs ys : List Value} {vv : Value} {k : Nat} (h : Bx W B t xs) (hB : B < N) (hrow : W.ownsRow N e sz vv k ys) (hg : W.grownBy W' vv.ownBlock) : Bx W' B t xs :=
 (hg.block B h.lt (fun e => by have := (hrow.lt B e.symm).1; omega)).trans h
/-- between rounds: the result's box, the method's own, its row of values -/
structure RmI (w : World) (N B1 : Nat) (c i : Int) (l : List MV) (wr : World) (vv : Value) : Prop where
 res : Bx wr w.heap.size 24 [.int .i64 0, .int .i64 0, .slice none 0 0]
 box : Bx wr B1 24 [.int .i64 c, .int .i64 i, vv]
 row : wr.ownsRow N 58 2 vv l.length (rowV l)
 bel : Below w.heap.size w wr
 sz : N ≤ wr.heap.size
 nn : w.heap.size < B1 ∧ B1 < N
theorem RmI.kept {w : World} {N B1 : Nat} {c i : Int} {l : List MV} {wr w1 : World} {vv : Value} (h : RmI w N B1 c i l wr vv) (hb : Below wr.heap.size wr w1) : RmI w N B1 c i l w1 vv :=
 ⟨h.res.kept hb, h.box.kept hb, rowKept h.row hb, h.bel.trans (hb.mono h.bel.size), Nat.le_trans h.sz hb.size, h.nn⟩
/-- behind an append to the row, and the store of it; bits of another row stay -/
theorem RmI.step {w : World} {N B1 : Nat} {c i : Int} {l : List MV} {wr : World} {vv : Value} (h : RmI w N B1 c i l wr vv) (u : MV) {tmp : Obj} {w4 : World} {o' : Value}
 (hown : w4.ownsRow N 58 2 o' (l.length + 1) (rowV l ++ [.int .u64 u.n, .string u.s])) (hg : (wr.alloc tmp).grownBy w4 vv.ownBlock) :
 Bx w4 B1 24 [.int .i64 c, .int .i64 i, vv] ∧ RmI w N B1 c i (l ++ [u]) (w4.setCell ⟨B1, 2, none⟩ o') o' ∧
 ∀ (Nb : Nat) (bv : Value) (n : Nat) (xs : List Value), wr.ownsRow Nb 4 1 bv n xs → (w4.setCell ⟨B1, 2, none⟩ o').ownsRow Nb 4 1 bv n xs := by
 obtain ⟨n1, n2⟩ := h.nn
 have hrow := h.row.alloc tmp
 have ho := mr_row (h.box.alloc tmp) n2 hrow hg
 refine ⟨ho, ⟨?_, ?_, ?_, ?_, ?_, ⟨n1, n2⟩⟩, fun Nb bv n xs hb => ?_⟩
 · exact (mr_row (h.res.alloc tmp) (by omega) hrow hg).other (by omega) 2 o'
 · exact ho.set 2 o'
 · rw [rowV_snoc, List.length_append]
   exact Keeps.row (p := fun t => t == 58) (Keeps.setCell (show w4.heap[B1]? = _ from ho) (by decide) 2 o') hown (by decide)
 · exact (((h.bel.alloc h.bel.size tmp).grown hg (by have := h.bel.size; simp; omega) (fun q hq => by have := (h.row.lt q hq).1; omega))).setCell (p := ⟨B1, 2, none⟩) (by simp; omega) o'
 · have h1 := h.sz
   have h2 := hg.size
   rw [World.size_alloc] at h2
   simp only [World.size_setCell]
   omega
 · exact Keeps.row (p := fun t => t == 4) ((Keeps.grown hrow hg (by decide)).trans (Keeps.setCell (show w4.heap[B1]? = _ from ho) (by decide) 2 o')) (hb.alloc tmp) (by decide)
theorem bits_at {W : World} {N0 n : Nat} {bv : Value} {bs : List Bool} (h : W.ownsRow N0 4 1 bv n (bs.map Value.bool)) (hn : bs.length = n) {k : Nat} (hk : k < bs.length) : ∃ b o cp, bv = .slice (some ⟨b, o, none⟩) n cp ∧ W.cell? ⟨b, o + k, none⟩ = some (.bool bs[k]) := by
 obtain ⟨A, cp, rfl, hV⟩ := vals_of_row h
 obtain ⟨b, o, rfl, -, g⟩ := hV (by rw [List.length_map]; omega)
 refine ⟨b, o, cp, rfl, ?_⟩
 have := g k (by rw [List.length_map]; exact hk)
 simpa using this

set_option maxRecDepth 100000 in
set_option maxHeartbeats 8000000 in
theorem rTake6_any (s : ByteArray) (w : World) (hs : s.size < 4611686018427387904) : Calls Tryz.prog 22 #[.string s] w (TmPost s w) := by
 obtain ⟨i0, hi, hz0, hz1, hz2⟩ := info_partsV infoVal
 have hb0 : Below w.heap.size w (w.alloc (.cells #[.int .i64 0, .int .i64 0, .slice none 0 0] 24)) := (Below.refl _ w).alloc (Nat.le_refl _) _
 have hx := Bx.new w 24 [.int .i64 0, .int .i64 0, .slice none 0 0]
 by_cases h4 : 4 ≤ s.size
 · have h0 : 0 < s.size := by omega
   have h1 : 1 < s.size := by omega
   have h2 : 2 < s.size := by omega
   have h3 : 3 < s.size := by omega
   have HTM := Lib.hid (tm_whole h4)
   have tl : ((s.size : Int) < 4) = False := by simp; omega
   have tl2 : (s.size < 4) = False := by simp; omega
   have hr4 : (s.extract 4 s.size).size ≤ s.size := by rw [ByteArray.size_extract]; omega
   have i1 : (1 : Int) < (s.size : Int) := by omega
   have i2 : (2 : Int) < (s.size : Int) := by omega
   have i3 : (3 : Int) < (s.size : Int) := by omega
   have hwr1 := mr_wrap_two s[0].toNat s[1].toNat s[0].toNat_lt s[1].toNat_lt
   have hwr2 := mr_wrap_two s[2].toNat s[3].toNat s[2].toNat_lt s[3].toNat_lt
   unfold TmPost
   go_enter Tryz.func22, Tryz.ntmps22
   go_upto_region 3 with fail
   go_cut [4] from 22 to 38 (fun p wx => p = .pointer (some ⟨w.heap.size + 1, 0, none⟩) ∧ wx = ((w.alloc (.cells #[.int .i64 0, .int .i64 0, .slice none 0 0] 24)).alloc (.cells #[.int .i64 ((256 : Int) * ((s[0].toNat : Nat) : Int) + ((s[1].toNat : Nat) : Int)), .int .i64 ((256 : Int) * ((s[2].toNat : Nat) : Int) + ((s[3].toNat : Nat) : Int)), .slice none 0 0] 24)).drew)
   case first =>
    go_region
    rw [hwr1, hwr2]
    go_wp2_with fail
    go_meet
    case rel => exact ⟨rfl, rfl⟩
   obtain ⟨rfl, rfl⟩ := hcut
   generalize (256 : Int) * ((s[0].toNat : Nat) : Int) + ((s[1].toNat : Nat) : Int) = c at HTM ⊢
   generalize (256 : Int) * ((s[2].toNat : Nat) : Int) + ((s[3].toNat : Nat) : Int) = i at HTM ⊢
   obtain ⟨W3, hW3⟩ : ∃ W3, W3 = ((w.alloc (.cells #[.int .i64 0, .int .i64 0, .slice none 0 0] 24)).alloc (.cells #[.int .i64 c, .int .i64 i, .slice none 0 0] 24)).drew := ⟨_, rfl⟩
   have bx3 : Bx W3 (w.heap.size + 1) 24 [.int .i64 c, .int .i64 i, .slice none 0 0] := by
    have q := Bx.new (w.alloc (.cells #[.int .i64 0, .int .i64 0, .slice none 0 0] 24)) 24 [.int .i64 c, .int .i64 i, .slice none 0 0]
    rw [World.size_alloc] at q
    rw [hW3]
    exact q
   have rs3 : Bx W3 w.heap.size 24 [.int .i64 0, .int .i64 0, .slice none 0 0] := by rw [hW3]; exact hx.alloc _
   have hB3 : Below w.heap.size w W3 := by rw [hW3]; exact (hb0.alloc hb0.size _).drew
   have hs3 : W3.heap.size = w.heap.size + 1 + 1 := by rw [hW3]; simp [World.drew]
   have HI0 : RmI w W3.heap.size (w.heap.size + 1) c i [] W3 (.slice none 0 0) := ⟨rs3, bx3, World.ownsRow_nil _ _ _ _, hB3, Nat.le_refl _, by omega, by omega⟩
   rw [← hW3]
   clear hW3 hwr1 hwr2 hx hb0 rs3 bx3 hB3 hs3 i1 i2 i3 h0 h1 h2 h3
   have hOf := rof_any c i W3
   have HFc : Hid (sIs c i = true → (∀ x ∈ (sOf c i).data.toList, isLet x = true) ∧ (sOf c i).size ≤ 16) := Lib.hid (fun h => ⟨(met_facts h).1, (met_facts h).2.1⟩)
   have HU : Hid (tmOf c i (s.extract 4 s.size) = if sIs c i = true then (match tk (sOf c i).data.toList (s.extract 4 s.size) with | some (l, r) => if r.size = 0 then some ⟨c, i, l⟩ else none | none => none) else none) := Lib.hid rfl
   have HME : Hid (∀ l, mE ⟨c, i, l⟩ = if sIs c i = true then (if (sOf c i).size = l.length then layEr (sOf c i).data.toList l else 7) else 7) := Lib.hid (fun l => rfl)
   generalize sOf c i = L at hOf HFc HU HME
   generalize sIs c i = b at hOf HFc HU HME
   generalize W3.heap.size = N at HI0
   generalize w.heap.size + 1 = B1 at HI0 ⊢
   have x0 := HI0.box.cell 0 (by simp)
   have x1 := HI0.box.cell 1 (by simp)
   dsimp only [List.getElem_cons_zero, List.getElem_cons_succ] at x0 x1
   go_wp2_with fail
   with_reducible refine hOf.mono ?_
   rintro e w1 ⟨rfl, hb1⟩
   have HI1 := HI0.kept hb1
   clear hOf HI0 hb1 x0 x1
   cases b
   · have HN : Hid (tm s = none) := Lib.hid (by rw [HTM.out, HU.out]; rfl)
     obtain ⟨a0, f0, a1, f1, a2, f2, bR⟩ := HI1.res.store3 (.int .i64 0) (.int .i64 0) (.slice none 0 0)
     have hB8 := below_store3 HI1.bel (B := w.heap.size) (Nat.le_refl _) (.int .i64 0) (.int .i64 0) (.slice none 0 0)
     have y0 := bR.cell 0 (by simp)
     have y1 := bR.cell 1 (by simp)
     have y2 := bR.cell 2 (by simp)
     dsimp only [List.getElem_cons_zero, List.getElem_cons_succ] at y0 y1 y2
     clear bR HI1
     go_wp2
     refine bodyPost_ret (v := .tuple #[noneM, .int .i64 7]) ?_ rfl (.inr ⟨HN.out, rfl, hB8⟩)
     rw [results_cell_tmp rfl]
     simp [asAddr, Result.andThen, go_sem, y0, y1, y2, noneM]
   · obtain ⟨hls, h16⟩ := HFc.out rfl
     have HLS := Lib.hid hls
     generalize hR4 : s.extract 4 s.size = r4 at *
     have hs4 : s.extract 4 s.size = r4 := hR4
     clear hR4
     have HT0 : Hid (tk L.data.toList r4 = none → tm s = none) := Lib.hid (fun h => by rw [HTM.out, HU.out, if_pos rfl, h])
     have HT1 : Hid (∀ l r, tk L.data.toList r4 = some (l, r) → tm s = if r.size = 0 then some ⟨c, i, l⟩ else none) := Lib.hid (fun l r h => by rw [HTM.out, HU.out, if_pos rfl, h])
     have HME2 : Hid (∀ l : List MV, l.length = L.data.toList.length → mE ⟨c, i, l⟩ = layEr L.data.toList l) := Lib.hid (fun l hl => by rw [HME.out, if_pos rfl, if_pos (by rw [hl, ba_len])])
     have HLL := Lib.hid (ba_len L)
     have HI2 : RmI w N B1 c i [] w1 (.slice none 0 0) := HI1
     clear HTM HU HME HFc hls HI1
     obtain ⟨n, hn⟩ : ∃ n, L.size = n := ⟨_, rfl⟩
     have HN := Lib.hid hn
     have hn16 : n ≤ 16 := by omega
     clear hn h16
     go_wp2_with fail
     go_loopw [7, 8] (fun rv kv wr => ∃ k : Nat, k ≤ n ∧ kv = .int .i64 k ∧ ∃ (R : ByteArray) (acc : List MV) (vv : Value), rv = .string R ∧ Hid (StT L.data.toList r4 (k + inRun L.data.toList k) acc R ∧ ∀ v ∈ acc, wfV v) ∧ R.size ≤ s.size ∧ RmI w N B1 c i acc wr vv) (fun _ kv _ => n - (intOf kv).toNat)
     case atStart => exact ⟨0, Nat.zero_le _, rfl, r4, [], _, rfl, Lib.hid ⟨StT.zero _ _, fun v hv => by cases hv⟩, hr4, HI2⟩
     case round =>
      obtain ⟨k, hk, rfl, R, acc, vv, rfl, HS, hRs, HI⟩ := hrel
      clear HI2
      by_cases hlt : k < n
      · have hkL : k < L.size := by rw [HN.out]; exact hlt
        have hkl : k < L.data.toList.length := by rw [ba_len]; exact hkL
        have hal : acc.length ≤ 16 := by have := HS.out.1.1; have := HS.out.1.2.1; have := HLL.out; have := HN.out; omega
        have hidx := fun W => index_str L k hkL W
        have e1 : IntKind.i64.wrap ((k : Int) + 1) = ((k + 1 : Nat) : Int) := by simp only [IntKind.wrap_i64]; omega
        by_cases h98 : L.data.toList[k] = 98
        · have hcz : ((L[k]'hkL).toNat : Int) = 98 := by
           have e : L[k]'hkL = 98 := h98
           rw [e]; rfl
          rw [hcz] at hidx
          have tz : ((98 : Int) != 98) = false := rfl
          by_cases hrun : 0 < k ∧ ∃ h : k - 1 < L.data.toList.length, L.data.toList[k - 1] = 98
          · obtain ⟨hk0, hk1, hp⟩ := hrun
            have hidx2 : ∀ W, (Instr.index 9 (.string L) (.int .i64 ((k : Int) - 1))).run Tryz.prog W = .ok (.int .u8 98) W := fun W => by
             have q := index_str L (k - 1) (by omega) W
             rw [show ((k - 1 : Nat) : Int) = (k : Int) - 1 by omega] at q
             have e : L[k - 1]'(by omega) = 98 := hp
             rw [e] at q
             exact q
            have HF : Hid (StT L.data.toList r4 (k + 1 + inRun L.data.toList (k + 1)) acc R ∧ ∀ v ∈ acc, wfV v) := Lib.hid (by
             obtain ⟨m, rfl⟩ : ∃ m, k = m + 1 := ⟨k - 1, by omega⟩
             have e := inRun_in (ls := L.data.toList) (k := m) hkl h98 (by simpa using hp)
             rw [e]
             exact HS.out)
            have t0 : decide ((0 : Int) < (k : Int)) = true := decide_eq_true (by omega)
            have t1 : decide (0 < k) = true := decide_eq_true hk0
            clear HS hp h98
            go_wp2
            go_roundw
            case rel => exact ⟨k + 1, hlt, rfl, R, acc, vv, rfl, HF, hRs, HI⟩
            case measure => simp only [intOf]; omega
          · have hin0 : inRun L.data.toList k = 0 := inRun_first (fun h => by
             by_cases hk0 : k = 0
             · exact .inl hk0
             · exact .inr (fun e => hrun ⟨by omega, h, e⟩)) (by omega)
            have HS2 : Hid (StT L.data.toList r4 k acc R) := Lib.hid (by have := HS.out.1; rw [hin0] at this; exact this)
            have HWF := Lib.hid HS.out.2
            have Hnew := Lib.hid (inRun_new hkl h98)
            have Hnb := Lib.hid (fun h => StT.noBits HS2.out hkl h98 h)
            have Hyb := Lib.hid (fun h => StT.bits HS2.out hkl h98 h)
            have Hin := Lib.hid (fun m (hm : m < nb (L.data.toList.drop k)) => nb_in hm)
            have Hout := Lib.hid (fun h => nb_out (ls := L.data.toList) (k := k) h)
            have hnbL : k + nb (L.data.toList.drop k) ≤ n := by have h1 := nb_le (L.data.toList.drop k); rw [List.length_drop, ba_len, HN.out] at h1; omega
            have hnb64 : nb (L.data.toList.drop k) ≤ 16 := by omega
            have hnb1 : 1 ≤ nb (L.data.toList.drop k) := by rw [List.drop_eq_getElem_cons hkl, nb, if_pos h98]; omega
            have H98 := Lib.hid h98
            clear HS hin0 h98
            generalize nb (L.data.toList.drop k) = d at *
            have hcutd : (0 < k ∧ ∃ cp : Int, (cp == 98) = false ∧ ∀ W, (Instr.index 9 (.string L) (.int .i64 ((k : Int) - 1))).run Tryz.prog W = .ok (.int .u8 cp) W) ∨ k = 0 := by
             by_cases hk0 : k = 0
             · exact .inr hk0
             · refine .inl ⟨by omega, ((L[k - 1]'(by omega)).toNat : Int), ?_, fun W => ?_⟩
               · rw [beq_eq_false_iff_ne]
                 intro e
                 refine hrun ⟨by omega, by omega, ?_⟩
                 exact UInt8.toNat_inj.1 (by rw [show (98 : UInt8).toNat = 98 from rfl]; have e2 : (L.data.toList[k - 1]'(by omega)) = L[k - 1]'(by omega) := rfl; rw [e2]; omega)
               · have q := index_str L (k - 1) (by omega) W
                 rw [show ((k - 1 : Nat) : Int) = (k : Int) - 1 by omega] at q
                 exact q
            clear hrun
            go_upto_region 17 with fail
            go_cut [89] from 52 to 133 (fun bq wx => bq = .bool false ∧ wx = wr)
            case first =>
             rcases hcutd with ⟨hk0, cp, tcp, hidx2⟩ | hk0
             · have t0 : decide ((0 : Int) < (k : Int)) = true := decide_eq_true (by omega)
               have t1 : decide (0 < k) = true := decide_eq_true hk0
               clear hk0
               go_wp2
               go_meet
               case rel => exact ⟨rfl, rfl⟩
             · have t0 : decide ((0 : Int) < (k : Int)) = false := decide_eq_false (by omega)
               have t1 : decide (0 < k) = false := decide_eq_false (by omega)
               clear hk0
               go_wp2
               go_meet
               case rel => exact ⟨rfl, rfl⟩
            obtain ⟨rfl, hwx⟩ := hcut
            have hwx := hwx.symm
            subst hwx
            clear hcutd
            go_wp2_with fail
            go_loop [12] (fun mv => ∃ m : Nat, m ≤ d ∧ mv = .int .i64 m) (fun mv => d - (intOf mv).toNat)
            case atStart => exact ⟨0, Nat.zero_le _, rfl⟩
            case round =>
             obtain ⟨m, hm, rfl⟩ := hrel
             have e3 : IntKind.i64.wrap ((m : Int) + 1) = ((m + 1 : Nat) : Int) := by simp only [IntKind.wrap_i64]; omega
             by_cases hmd : m < d
             · obtain ⟨j1, j2⟩ := Hin.out m hmd
               have hidx3 : ∀ W, (Instr.index 9 (.string L) (.int .i64 ((k : Int) + (m : Int)))).run Tryz.prog W = .ok (.int .u8 98) W := fun W => by
                have q := index_str L (k + m) (by rw [← ba_len]; exact j1) W
                rw [show ((k + m : Nat) : Int) = (k : Int) + (m : Int) by omega] at q
                have e : L[k + m]'(by rw [← ba_len]; exact j1) = 98 := j2
                rw [e] at q
                exact q
               have t3 : decide ((k : Int) + (m : Int) < (L.size : Int)) = true := decide_eq_true (by rw [ba_len] at j1; omega)
               clear j1 j2 hidx
               go_wp2
               go_round
               case rel => exact ⟨m + 1, hmd, rfl⟩
               case measure => simp only [intOf]; omega
             · obtain rfl : m = d := by omega
               have hfin : (decide ((k : Int) + (m : Int) < (L.size : Int)) = false) ∨ (decide ((k : Int) + (m : Int) < (L.size : Int)) = true ∧ ∃ cq : Int, (cq == 98) = false ∧ ∀ W, (Instr.index 9 (.string L) (.int .i64 ((k : Int) + (m : Int)))).run Tryz.prog W = .ok (.int .u8 cq) W) := by
                by_cases hkm : k + m < L.data.toList.length
                · have hkm2 : k + m < L.size := by rw [← ba_len]; exact hkm
                  refine .inr ⟨decide_eq_true (by omega), ((L[k + m]'hkm2).toNat : Int), ?_, fun W => ?_⟩
                  · rw [beq_eq_false_iff_ne]
                    intro e
                    exact Hout.out hkm (UInt8.toNat_inj.1 (by rw [show (98 : UInt8).toNat = 98 from rfl]; have e2 : (L.data.toList[k + m]'hkm) = L[k + m]'hkm2 := rfl; rw [e2]; omega))
                  · have q := index_str L (k + m) hkm2 W
                    rw [show ((k + m : Nat) : Int) = (k : Int) + (m : Int) by omega] at q
                    exact q
                · exact .inl (decide_eq_false (by rw [ba_len] at hkm; omega))
               have hTB := rtakeBits_own R (m : Int) wr
               have HTBL : Hid (tbE R (m : Int) = 0 → tbL R (m : Int) = bitsOf R m) := Lib.hid (fun h => by rw [tbL, if_pos h, Int.toNat_natCast])
               have hRb : (tbR R (m : Int)).size ≤ s.size := by have := tbR_le R (m : Int); omega
               clear Hin Hout hidx
               go_upto_region 19 with fail
               go_cut [103] from 90 to 105 (fun bq wx => bq = .bool false ∧ wx = wr)
               case first =>
                rcases hfin with t3 | ⟨t3, cq, tcq, hidx3⟩
                all_goals
                 go_wp2
                 go_meet
                 case rel => exact ⟨rfl, rfl⟩
               obtain ⟨rfl, hwx⟩ := hcut
               have hwx := hwx.symm
               subst hwx
               clear hfin
               all_goals
                go_wp2_with fail
                with_reducible refine hTB.mono ?_
                rintro e w6 ⟨bv, rfl, hbrow, hb6⟩
                have HI6 := HI.kept hb6
                clear hTB HI hb6
                by_cases hE0 : tbE R (m : Int) = 0
                · have HG := Lib.hid (Hyb.out hE0)
                  rw [hE0]
                  have hbl : tbL R (m : Int) = bitsOf R m := HTBL.out hE0
                  rw [hbl] at hbrow
                  have hbn : (bitsOf R m).length = m := bitsOf_length R m
                  rw [hbn] at hbrow
                  clear hE0 hbl HTBL Hnb Hyb
                  generalize tbR R (m : Int) = R' at *
                  generalize bitsOf R m = bs at *
                  obtain ⟨Nb, hbrow⟩ : ∃ Nb, w6.ownsRow Nb 4 1 bv m (bs.map Value.bool) := ⟨_, hbrow⟩
                  go_wp2_with fail
                  go_loopw [16] (fun qv wq => ∃ q : Nat, q ≤ m ∧ qv = .int .i64 q ∧ ∃ vv2, RmI w N B1 c i (acc ++ (bs.take q).map bitV) wq vv2 ∧ wq.ownsRow Nb 4 1 bv m (bs.map Value.bool)) (fun qv _ => m - (intOf qv).toNat)
                  case atStart => exact ⟨0, Nat.zero_le _, rfl, vv, by simpa using HI6, hbrow⟩
                  case round =>
                   obtain ⟨q, hq, rfl, vv2, HIq, hbr⟩ := hrel
                   have e4 : IntKind.i64.wrap ((q : Int) + 1) = ((q + 1 : Nat) : Int) := by simp only [IntKind.wrap_i64]; omega
                   by_cases hqm : q < m
                   · obtain ⟨b, ob, cp2, rfl, hbc⟩ := bits_at (rowKept hbr ((Below.refl _ wr).alloc (Nat.le_refl _) (.cells #[.int .u64 0, .string ⟨#[]⟩] 58))) hbn (k := q) (by rw [hbn]; exact hqm)
                     have HSn : Hid (acc ++ (bs.take (q + 1)).map bitV = (acc ++ (bs.take q).map bitV) ++ [bitV (bs[q]'(by rw [hbn]; exact hqm))]) := Lib.hid (by
                      rw [List.take_succ_eq_append_getElem (by rw [hbn]; exact hqm), List.map_append, List.append_assoc]
                      rfl)
                     have hal2 : (acc ++ (bs.take q).map bitV).length ≤ 32 := by rw [List.length_append, List.length_map, List.length_take]; omega
                     have HBN := Lib.hid hbn
                     generalize (bs[q]'(by rw [hbn]; exact hqm)) = bq at hbc HSn
                     generalize acc ++ (bs.take q).map bitV = acc2 at HIq HSn hal2
                     clear hbn
                     cases bq
                     · have hbel : Below wr.heap.size wr (wr.alloc (.cells #[.int .u64 0, .string ⟨#[]⟩] 58)) := (Below.refl _ wr).alloc (Nat.le_refl _) _
                       have HIv := HIq.kept hbel
                       have hvx := Bx.new wr 58 [.int .u64 0, .string ⟨#[]⟩]
                       have hbrv := rowKept hbr hbel
                       clear HIq hbr
                       have HSt := Lib.hid (fun tmp w4 o' => HIv.step ⟨0, ⟨#[]⟩⟩ (tmp := tmp) (w4 := w4) (o' := o'))
                       have o2 := HIv.box.cell 2 (by simp)
                       have q0 := hvx.cell 0 (by simp)
                       have q1 := hvx.cell 1 (by simp)
                       dsimp only [List.getElem_cons_zero, List.getElem_cons_succ] at o2 q0 q1
                       have hrow := HIv.row
                       have hsz := HIv.sz
                       have hnew : ∀ j u, [Value.int .u64 0, Value.string ⟨#[]⟩][j]? = some u → ((wr.alloc (.cells #[.int .u64 0, .string ⟨#[]⟩] 58)).alloc (.cells #[.int .u64 0, .string ⟨#[]⟩] 58)).cell? ((⟨wr.heap.size + 1, 0, none⟩ : Addr).add j) = some u := by
                        have h := cell_pair_new (wr.alloc (.cells #[.int .u64 0, .string ⟨#[]⟩] 58)) (.int .u64 0) (.string ⟨#[]⟩) 58
                        rw [World.size_alloc] at h
                        exact h
                       have hsz' : N ≤ ((wr.alloc (.cells #[.int .u64 0, .string ⟨#[]⟩] 58)).alloc (.cells #[.int .u64 0, .string ⟨#[]⟩] 58)).heap.size := by rw [World.size_alloc]; exact Nat.le_succ_of_le hsz
                       clear HIv hvx hsz
                       go_wp2_with (first
                        | (at_builtin; refine wpList_append_own _ rfl _ _ 22 rfl N 58 i0 (.agg #[.int .u64 0, .string ⟨#[]⟩]) 2 24 Tryz.underlying22 hi hz0 hz1 hz2 rfl (by decide) _ _ _ rfl (hrow.alloc _) ⟨wr.heap.size + 1, 0, none⟩ 1 1 [.int .u64 0, .string ⟨#[]⟩] rfl rfl hnew (by simp [Value.oneCell']) (by unfold maxLen; omega) (by omega) hsz' ?_))
                       intro o' w8 hown' hgrow _
                       obtain ⟨g1, g2, g3⟩ := HSt.out _ _ _ hown' hgrow
                       have b3 := g1.cell 2 (by simp)
                       have f3 := g1.frozen 2
                       dsimp only [List.getElem_cons_zero, List.getElem_cons_succ] at b3
                       obtain ⟨ao, n', cap', rfl⟩ : ∃ ao n' cap', o' = .slice ao n' cap' := by
                        rcases hown'.2 with ⟨hv, _⟩ | ⟨g, cap, cur, hv, _⟩
                        · exact ⟨_, _, _, hv⟩
                        · exact ⟨_, _, _, hv⟩
                       have G2 := Lib.hid g2
                       have HB3 := Lib.hid (g3 _ _ _ _ hbrv)
                       clear hbrv
                       clear HSt hown' hgrow g1 g2 g3 hrow hnew hsz' o2 q0 q1
                       go_wp2
                       go_roundw
                       case rel => first | exact ⟨q + 1, hqm, rfl, _, by rw [HSn.out]; exact G2.out, HB3.out⟩ | ((repeat apply Exists.intro); exact ⟨⟨q + 1, hqm, rfl, _, by rw [HSn.out]; exact G2.out, HB3.out⟩, rfl⟩)
                       case measure => simp only [intOf]; omega
                     · have hbel : Below wr.heap.size wr (wr.alloc (.cells #[.int .u64 1, .string ⟨#[]⟩] 58)) := (Below.refl _ wr).alloc (Nat.le_refl _) _
                       have HIv := HIq.kept hbel
                       have hvx := Bx.new wr 58 [.int .u64 1, .string ⟨#[]⟩]
                       have hbrv := rowKept hbr hbel
                       clear HIq hbr
                       have HSt := Lib.hid (fun tmp w4 o' => HIv.step ⟨1, ⟨#[]⟩⟩ (tmp := tmp) (w4 := w4) (o' := o'))
                       have o2 := HIv.box.cell 2 (by simp)
                       have q0 := hvx.cell 0 (by simp)
                       have q1 := hvx.cell 1 (by simp)
                       dsimp only [List.getElem_cons_zero, List.getElem_cons_succ] at o2 q0 q1
                       have hrow := HIv.row
                       have hsz := HIv.sz
                       have hnew : ∀ j u, [Value.int .u64 1, Value.string ⟨#[]⟩][j]? = some u → ((wr.alloc (.cells #[.int .u64 1, .string ⟨#[]⟩] 58)).alloc (.cells #[.int .u64 1, .string ⟨#[]⟩] 58)).cell? ((⟨wr.heap.size + 1, 0, none⟩ : Addr).add j) = some u := by
                        have h := cell_pair_new (wr.alloc (.cells #[.int .u64 1, .string ⟨#[]⟩] 58)) (.int .u64 1) (.string ⟨#[]⟩) 58
                        rw [World.size_alloc] at h
                        exact h
                       have hsz' : N ≤ ((wr.alloc (.cells #[.int .u64 1, .string ⟨#[]⟩] 58)).alloc (.cells #[.int .u64 1, .string ⟨#[]⟩] 58)).heap.size := by rw [World.size_alloc]; exact Nat.le_succ_of_le hsz
                       clear HIv hvx hsz
                       go_wp2_with (first
                        | (at_builtin; refine wpList_append_own _ rfl _ _ 22 rfl N 58 i0 (.agg #[.int .u64 0, .string ⟨#[]⟩]) 2 24 Tryz.underlying22 hi hz0 hz1 hz2 rfl (by decide) _ _ _ rfl (hrow.alloc _) ⟨wr.heap.size + 1, 0, none⟩ 1 1 [.int .u64 1, .string ⟨#[]⟩] rfl rfl hnew (by simp [Value.oneCell']) (by unfold maxLen; omega) (by omega) hsz' ?_))
                       intro o' w8 hown' hgrow _
                       obtain ⟨g1, g2, g3⟩ := HSt.out _ _ _ hown' hgrow
                       have b3 := g1.cell 2 (by simp)
                       have f3 := g1.frozen 2
                       dsimp only [List.getElem_cons_zero, List.getElem_cons_succ] at b3
                       obtain ⟨ao, n', cap', rfl⟩ : ∃ ao n' cap', o' = .slice ao n' cap' := by
                        rcases hown'.2 with ⟨hv, _⟩ | ⟨g, cap, cur, hv, _⟩
                        · exact ⟨_, _, _, hv⟩
                        · exact ⟨_, _, _, hv⟩
                       have G2 := Lib.hid g2
                       have HB3 := Lib.hid (g3 _ _ _ _ hbrv)
                       clear hbrv
                       clear HSt hown' hgrow g1 g2 g3 hrow hnew hsz' o2 q0 q1
                       go_wp2
                       go_roundw
                       case rel => first | exact ⟨q + 1, hqm, rfl, _, by rw [HSn.out]; exact G2.out, HB3.out⟩ | ((repeat apply Exists.intro); exact ⟨⟨q + 1, hqm, rfl, _, by rw [HSn.out]; exact G2.out, HB3.out⟩, rfl⟩)
                       case measure => simp only [intOf]; omega
                   · obtain rfl : q = m := by omega
                     have HE : Hid (acc ++ (bs.take q).map bitV = acc ++ bs.map bitV) := Lib.hid (by rw [List.take_of_length_le (by omega)])
                     have HWF2 : Hid (∀ v ∈ acc ++ bs.map bitV, wfV v) := Lib.hid (fun v hv => by
                      rcases List.mem_append.1 hv with g | g
                      · exact HWF.out v g
                      · obtain ⟨x, -, rfl⟩ := List.mem_map.1 g
                        exact bitV_wf x)
                     clear hbr
                     go_wp2
                     go_roundw
                     case rel => first | exact ⟨k + 1, hlt, rfl, R', acc ++ bs.map bitV, vv2, rfl, Lib.hid ⟨by rw [Hnew.out]; exact HG.out, HWF2.out⟩, hRb, by rw [← HE.out]; exact HIq⟩ | ((repeat apply Exists.intro); exact ⟨⟨k + 1, hlt, rfl, R', acc ++ bs.map bitV, vv2, rfl, Lib.hid ⟨by rw [Hnew.out]; exact HG.out, HWF2.out⟩, hRb, by rw [← HE.out]; exact HIq⟩, rfl⟩)
                     case measure => simp only [intOf]; omega
                · have HNo : Hid (tm s = none) := Lib.hid (HT0.out (Hnb.out hE0))
                  have t : (tbE R (m : Int) != 0) = true := by simpa using hE0
                  clear hE0 Hnb Hyb HTBL hbrow
                  obtain ⟨a0, f0, a1, f1, a2, f2, bR⟩ := HI6.res.store3 (.int .i64 0) (.int .i64 0) (.slice none 0 0)
                  have hB8 := below_store3 HI6.bel (B := w.heap.size) (Nat.le_refl _) (.int .i64 0) (.int .i64 0) (.slice none 0 0)
                  have y0 := bR.cell 0 (by simp)
                  have y1 := bR.cell 1 (by simp)
                  have y2 := bR.cell 2 (by simp)
                  dsimp only [List.getElem_cons_zero, List.getElem_cons_succ] at y0 y1 y2
                  clear bR HI6
                  go_wp2
                  refine bodyPost_ret (v := .tuple #[noneM, .int .i64 7]) ?_ rfl (.inr ⟨HNo.out, rfl, hB8⟩)
                  rw [results_cell_tmp rfl]
                  simp [asAddr, Result.andThen, go_sem, y0, y1, y2, noneM]
        · have hc98 : (((L[k]'hkL).toNat : Int) != 98) = true := by
           rw [bne_iff_ne]
           intro e
           exact h98 (UInt8.toNat_inj.1 (by rw [show (98 : UInt8).toNat = 98 from rfl]; have e2 : (L.data.toList[k]'hkl) = L[k]'hkL := rfl; rw [e2]; omega))
          obtain ⟨r1, r2⟩ := inRun_out hkl h98
          have HS2 : Hid (StT L.data.toList r4 k acc R) := Lib.hid (by have := HS.out.1; rw [r1] at this; exact this)
          have HWF := Lib.hid HS.out.2
          have hlet := HLS.out _ (List.getElem_mem hkl)
          have eL : L.data.toList[k] = L[k]'hkL := rfl
          rw [eL] at hlet h98
          have hT := fun W => rtake6_any (L[k]'hkL) R W hlet h98 (by omega)
          have Hno : Hid (¬ roE (L[k]'hkL) R = 0 → tk L.data.toList r4 = none) := Lib.hid (fun h => HS2.out.no hkl h98 h)
          have Hyes : Hid (roE (L[k]'hkL) R = 0 → (StT L.data.toList r4 (k + 1 + inRun L.data.toList (k + 1)) (acc ++ [roV (L[k]'hkL) R]) (roR (L[k]'hkL) R) ∧ ∀ v ∈ acc ++ [roV (L[k]'hkL) R], wfV v) ∧ (roR (L[k]'hkL) R).size ≤ s.size) := Lib.hid (fun h => by
           refine ⟨⟨?_, fun v hv => ?_⟩, ?_⟩
           · rw [r2, Nat.add_zero]; exact HS2.out.one hkl h98 h
           · rcases List.mem_append.1 hv with g | g
             · exact HWF.out v g
             · obtain rfl : v = roV (L[k]'hkL) R := by simpa using g
               exact roV_wf hlet h98 h
           · have := roR_le h98 h; omega)
          clear HS HS2 HWF hlet h98 r1 r2 eL
          generalize roE (L[k]'hkL) R = E at *
          generalize roV (L[k]'hkL) R = V at *
          generalize roR (L[k]'hkL) R = R' at *
          obtain ⟨cz, hcz⟩ : ∃ cz, ((L[k]'hkL).toNat : Int) = cz := ⟨_, rfl⟩
          rw [hcz] at hidx hT hc98
          obtain ⟨vn, vs⟩ := V
          unfold encV at hT
          dsimp only at hT
          go_wp2_with fail
          with_reducible refine (hT wr).mono ?_
          rintro e w6 ⟨rfl, hb6⟩
          have HI7 := HI.kept (hb6.alloc hb6.size (.cells #[.int .u64 vn, .string vs] 58))
          have hvx := Bx.new w6 58 [.int .u64 vn, .string vs]
          clear hT HI hb6
          by_cases hE0 : E = 0
          · subst hE0
            obtain ⟨g1, g2⟩ := Hyes.out rfl
            have HG := Lib.hid g1
            clear Hyes Hno g1
            have HSt := Lib.hid (fun tmp w4 o' => HI7.step ⟨vn, vs⟩ (tmp := tmp) (w4 := w4) (o' := o'))
            have o2 := HI7.box.cell 2 (by simp)
            have q0 := hvx.cell 0 (by simp)
            have q1 := hvx.cell 1 (by simp)
            dsimp only [List.getElem_cons_zero, List.getElem_cons_succ] at o2 q0 q1
            have hrow := HI7.row
            have hsz := HI7.sz
            have hnew : ∀ j u, [Value.int .u64 vn, Value.string vs][j]? = some u → ((w6.alloc (.cells #[.int .u64 vn, .string vs] 58)).alloc (.cells #[.int .u64 vn, .string vs] 58)).cell? ((⟨w6.heap.size + 1, 0, none⟩ : Addr).add j) = some u := by
             have h := cell_pair_new (w6.alloc (.cells #[.int .u64 vn, .string vs] 58)) (.int .u64 vn) (.string vs) 58
             rw [World.size_alloc] at h
             exact h
            have hsz' : N ≤ ((w6.alloc (.cells #[.int .u64 vn, .string vs] 58)).alloc (.cells #[.int .u64 vn, .string vs] 58)).heap.size := by rw [World.size_alloc]; exact Nat.le_succ_of_le hsz
            clear HI7 hvx hsz
            go_wp2_with (first
             | (at_builtin; refine wpList_append_own _ rfl _ _ 22 rfl N 58 i0 (.agg #[.int .u64 0, .string ⟨#[]⟩]) 2 24 Tryz.underlying22 hi hz0 hz1 hz2 rfl (by decide) _ _ _ rfl (hrow.alloc _) ⟨w6.heap.size + 1, 0, none⟩ 1 1 [.int .u64 vn, .string vs] rfl rfl hnew (by simp [Value.oneCell']) (by unfold maxLen; omega) (by omega) hsz' ?_))
            intro o' w8 hown' hgrow _
            obtain ⟨g1, g2, g3⟩ := HSt.out _ _ _ hown' hgrow
            have b3 := g1.cell 2 (by simp)
            have f3 := g1.frozen 2
            dsimp only [List.getElem_cons_zero, List.getElem_cons_succ] at b3
            obtain ⟨ao, n', cap', rfl⟩ : ∃ ao n' cap', o' = .slice ao n' cap' := by
             rcases hown'.2 with ⟨hv, _⟩ | ⟨g, cap, cur, hv, _⟩
             · exact ⟨_, _, _, hv⟩
             · exact ⟨_, _, _, hv⟩
            have G2 := Lib.hid g2
            clear HSt hown' hgrow g1 g2 g3 hrow hnew hsz' o2 q0 q1
            go_wp2
            go_roundw
            case rel => exact ⟨k + 1, hlt, rfl, R', acc ++ [⟨vn, vs⟩], _, rfl, HG, g2, G2.out⟩
            case measure => simp only [intOf]; omega
          · have HNo : Hid (tm s = none) := Lib.hid (HT0.out (Hno.out hE0))
            have t : (E != 0) = true := by simpa using hE0
            clear Hyes Hno hE0 hvx
            obtain ⟨a0, f0, a1, f1, a2, f2, bR⟩ := HI7.res.store3 (.int .i64 0) (.int .i64 0) (.slice none 0 0)
            have hB8 := below_store3 HI7.bel (B := w.heap.size) (Nat.le_refl _) (.int .i64 0) (.int .i64 0) (.slice none 0 0)
            have y0 := bR.cell 0 (by simp)
            have y1 := bR.cell 1 (by simp)
            have y2 := bR.cell 2 (by simp)
            dsimp only [List.getElem_cons_zero, List.getElem_cons_succ] at y0 y1 y2
            clear bR HI7
            go_wp2
            refine bodyPost_ret (v := .tuple #[noneM, .int .i64 7]) ?_ rfl (.inr ⟨HNo.out, rfl, hB8⟩)
            rw [results_cell_tmp rfl]
            simp [asAddr, Result.andThen, go_sem, y0, y1, y2, noneM]
      · obtain rfl : k = n := by omega
        have hLn : L.data.toList.length = k := by rw [HLL.out, HN.out]
        have hend : inRun L.data.toList k = 0 := by rw [← hLn]; exact inRun_end
        obtain ⟨HS1, HWF0⟩ := HS.out
        rw [hend, Nat.add_zero] at HS1
        rw [← hLn] at HS1
        obtain ⟨f1, f2⟩ := HS1.fin (by omega)
        have HFin := Lib.hid f2
        have HWF := Lib.hid HWF0
        have HMq := Lib.hid (HME2.out acc f1)
        have tN : ((k : Int) < (L.size : Int)) = False := by rw [HN.out]; simp
        have hal : acc.length ≤ 16 := by omega
        clear HS HS1 HWF0 f2 hend f1 hLn
        rcases str_cases R with ⟨rfl, hr⟩ | ⟨tr, hr⟩
        · have tR : ((0 : Int) < (((⟨#[]⟩ : ByteArray).size : Nat) : Int)) = False := by rw [show (⟨#[]⟩ : ByteArray).size = 0 from rfl]; simp
          obtain ⟨A', c', rfl, hV9, hn9⟩ := row_form HI.row
          have hRt := fun W hV => rright6_any ⟨c, i, acc⟩ A' c' W HWF.out hV
          rw [HMq.out] at hRt
          have HFin2 : Hid ((layEr L.data.toList acc = 0 → tm s = some ⟨c, i, acc⟩) ∧ (¬ layEr L.data.toList acc = 0 → tm s = none)) := Lib.hid (by
           rcases HFin.out with ⟨g1, g2⟩ | ⟨g1, g2⟩
           · exact ⟨fun _ => by rw [HT1.out _ _ g1, if_pos hr], fun h => absurd g2 h⟩
           · exact ⟨fun h => absurd h g2, fun _ => HT0.out g1⟩)
          clear HMq HFin hr
          generalize layEr L.data.toList acc = q at hRt HFin2
          unfold encM at hRt
          dsimp only at hRt
          have b0 := HI.box.cell 0 (by simp)
          have b1 := HI.box.cell 1 (by simp)
          have b2 := HI.box.cell 2 (by simp)
          dsimp only [List.getElem_cons_zero, List.getElem_cons_succ] at b0 b1 b2
          have HN9 := Lib.hid hn9
          clear hn9
          go_wp2_with fail
          with_reducible refine (hRt wr hV9).mono ?_
          rintro e w9 ⟨rfl, hb9⟩
          have HI9 := HI.kept hb9
          clear hRt HI hV9 hb9 b0 b1 b2
          by_cases hq : q = 0
          · subst hq
            have HNo : Hid (tm s = some ⟨c, i, acc⟩) := Lib.hid (HFin2.out.1 rfl)
            obtain ⟨a0, f0, a1, f1, a2, f2, bR⟩ := HI9.res.store3 (.int .i64 c) (.int .i64 i) (.slice A' acc.length c')
            have hB8 := below_store3 HI9.bel (B := w.heap.size) (Nat.le_refl _) (.int .i64 c) (.int .i64 i) (.slice A' acc.length c')
            have HV8 : Hid (ValsAt (((w9.setCell ⟨w.heap.size, 0, none⟩ (.int .i64 c)).setCell ⟨w.heap.size, 1, none⟩ (.int .i64 i)).setCell ⟨w.heap.size, 2, none⟩ (.slice A' acc.length c')) A' (rowV acc)) := Lib.hid (by
             have k1 : Keeps (fun t => t != 24) w9 (w9.setCell ⟨w.heap.size, 0, none⟩ (.int .i64 c)) := Keeps.setCell (show w9.heap[w.heap.size]? = _ from HI9.res) (by decide) 0 _
             have k2 : Keeps (fun t => t != 24) _ ((w9.setCell ⟨w.heap.size, 0, none⟩ (.int .i64 c)).setCell ⟨w.heap.size, 1, none⟩ (.int .i64 i)) := Keeps.setCell (show _ = _ from HI9.res.set 0 (.int .i64 c)) (by decide) 1 _
             have k3 : Keeps (fun t => t != 24) _ (((w9.setCell ⟨w.heap.size, 0, none⟩ (.int .i64 c)).setCell ⟨w.heap.size, 1, none⟩ (.int .i64 i)).setCell ⟨w.heap.size, 2, none⟩ (.slice A' acc.length c')) := Keeps.setCell (show _ = _ from (HI9.res.set 0 (.int .i64 c)).set 1 (.int .i64 i)) (by decide) 2 _
             obtain ⟨A'', c'', e', hV', -⟩ := row_form (((k1.trans k2).trans k3).row HI9.row (by decide))
             cases e'
             exact hV')
            have b0 := HI9.box.cell 0 (by simp)
            have b1 := HI9.box.cell 1 (by simp)
            have b2 := HI9.box.cell 2 (by simp)
            dsimp only [List.getElem_cons_zero, List.getElem_cons_succ] at b0 b1 b2
            have y0 := bR.cell 0 (by simp)
            have y1 := bR.cell 1 (by simp)
            have y2 := bR.cell 2 (by simp)
            dsimp only [List.getElem_cons_zero, List.getElem_cons_succ] at y0 y1 y2
            clear bR HI9 HFin2
            go_wp2
            refine bodyPost_ret (v := .tuple #[encM ⟨c, i, acc⟩ A' c', .int .i64 0]) ?_ rfl (.inl ⟨⟨c, i, acc⟩, A', c', HNo.out, rfl, HV8.out, HN9.out, hB8⟩)
            rw [results_cell_tmp rfl]
            simp [asAddr, Result.andThen, go_sem, y0, y1, y2, encM]
          · have HNo : Hid (tm s = none) := Lib.hid (HFin2.out.2 hq)
            have t : (q != 0) = true := by simpa using hq
            clear HFin2 hq
            obtain ⟨a0, f0, a1, f1, a2, f2, bR⟩ := HI9.res.store3 (.int .i64 0) (.int .i64 0) (.slice none 0 0)
            have hB8 := below_store3 HI9.bel (B := w.heap.size) (Nat.le_refl _) (.int .i64 0) (.int .i64 0) (.slice none 0 0)
            have y0 := bR.cell 0 (by simp)
            have y1 := bR.cell 1 (by simp)
            have y2 := bR.cell 2 (by simp)
            dsimp only [List.getElem_cons_zero, List.getElem_cons_succ] at y0 y1 y2
            clear bR HI9
            go_wp2
            refine bodyPost_ret (v := .tuple #[noneM, .int .i64 7]) ?_ rfl (.inr ⟨HNo.out, rfl, hB8⟩)
            rw [results_cell_tmp rfl]
            simp [asAddr, Result.andThen, go_sem, y0, y1, y2, noneM]
        · have HNo : Hid (tm s = none) := Lib.hid (by
           rcases HFin.out with ⟨g1, -⟩ | ⟨g1, -⟩
           · rw [HT1.out _ _ g1, if_neg hr]
           · exact HT0.out g1)
          have tR : ((0 : Int) < ((R.size : Nat) : Int)) = True := by simp; omega
          have tR2 : (0 < R.size) = True := by simp; omega
          clear HMq HFin hr
          obtain ⟨a0, f0, a1, f1, a2, f2, bR⟩ := HI.res.store3 (.int .i64 0) (.int .i64 0) (.slice none 0 0)
          have hB8 := below_store3 HI.bel (B := w.heap.size) (Nat.le_refl _) (.int .i64 0) (.int .i64 0) (.slice none 0 0)
          have y0 := bR.cell 0 (by simp)
          have y1 := bR.cell 1 (by simp)
          have y2 := bR.cell 2 (by simp)
          dsimp only [List.getElem_cons_zero, List.getElem_cons_succ] at y0 y1 y2
          clear bR HI
          go_wp2
          refine bodyPost_ret (v := .tuple #[noneM, .int .i64 7]) ?_ rfl (.inr ⟨HNo.out, rfl, hB8⟩)
          rw [results_cell_tmp rfl]
          simp [asAddr, Result.andThen, go_sem, y0, y1, y2, noneM]
 · have HNo : Hid (tm s = none) := Lib.hid (tm_short (by omega))
   have tl : ((s.size : Int) < 4) = True := by simp; omega
   have tl2 : (s.size < 4) = True := by simp; omega
   clear h4 hx
   unfold TmPost
   go_enter Tryz.func22, Tryz.ntmps22
   go_wp2
   refine bodyPost_ret (v := .tuple #[noneM, .int .i64 7]) ?_ rfl (.inr ⟨HNo.out, rfl, hb0⟩)
   rw [results_cell_tmp rfl]
   simp [asAddr, Result.andThen, go_sem, noneM]
end Go.Proofs.YtllgkohgcicbhaaGreatDoor
