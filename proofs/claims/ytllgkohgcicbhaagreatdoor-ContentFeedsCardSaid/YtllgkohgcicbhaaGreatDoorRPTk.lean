/-
  The document's own Take of chapter 7 answers the head that bytes are, its values in memory of its own, or why there is none; nothing that was there is changed. Conditions: texts of fewer than 2^62 bytes.
-/
import Derived.Test.YtllgkohgcicbhaaGreatDoorJRBytes
import Derived.Test.YtllgkohgcicbhaaGreatDoorJRProp
import Derived.Test.YtllgkohgcicbhaaGreatDoorZG
namespace Go.Proofs.YtllgkohgcicbhaaGreatDoor
open Go.RowKit

theorem rp_row {W W' : World} {N B : Nat} {t e : TypeId} {sz : Nat} {xs ys : List Value} {vv : Value} {k : Nat} (h : Bx W B t xs) (hB : B < N) (hrow : W.ownsRow N e sz vv k ys) (hg : W.grownBy W' vv.ownBlock) : Bx W' B t xs :=
 (hg.block B h.lt (fun e => by have := (hrow.lt B e.symm).1; omega)).trans h
/-- between rounds: the result's box, the head's own, its row of values, the row of properties -/
structure RtI (w : World) (N B1 N0 : Nat) (c z f : Int) (v2 : Value) (n : Nat) (xs : List Value) (l : List MV) (wr : World) (vv : Value) : Prop where
 res : Bx wr w.heap.size 27 [.int .i64 0, .int .u64 0, .int .u64 0, .slice none 0 0]
 box : Bx wr B1 27 [.int .i64 c, .int .u64 z, .int .u64 f, vv]
 row : wr.ownsRow N 58 2 vv l.length (rowV l)
 ints : wr.ownsRow N0 3 1 v2 n xs
 bel : Below w.heap.size w wr
 sz : N ≤ wr.heap.size
 nn : w.heap.size < B1 ∧ B1 < N
theorem RtI.kept {w : World} {N B1 N0 : Nat} {c z f : Int} {v2 : Value} {n : Nat} {xs : List Value} {l : List MV} {wr w1 : World} {vv : Value} (h : RtI w N B1 N0 c z f v2 n xs l wr vv) (hb : Below wr.heap.size wr w1) : RtI w N B1 N0 c z f v2 n xs l w1 vv :=
 ⟨h.res.kept hb, h.box.kept hb, rowKept h.row hb, rowKept h.ints hb, h.bel.trans (hb.mono h.bel.size), Nat.le_trans h.sz hb.size, h.nn⟩
/-- behind an append to the row, and the store of it -/
theorem RtI.step {w : World} {N B1 N0 : Nat} {c z f : Int} {v2 : Value} {n : Nat} {xs : List Value} {l : List MV} {wr : World} {vv : Value} (h : RtI w N B1 N0 c z f v2 n xs l wr vv) (u : MV) {tmp : Obj} {w4 : World} {o' : Value}
 (hown : w4.ownsRow N 58 2 o' (l.length + 1) (rowV l ++ [.int .u64 u.n, .string u.s])) (hg : (wr.alloc tmp).grownBy w4 vv.ownBlock) :
 Bx w4 B1 27 [.int .i64 c, .int .u64 z, .int .u64 f, vv] ∧ RtI w N B1 N0 c z f v2 n xs (l ++ [u]) (w4.setCell ⟨B1, 3, none⟩ o') o' := by
 obtain ⟨n1, n2⟩ := h.nn
 have hrow := h.row.alloc tmp
 have ho := rp_row (h.box.alloc tmp) n2 hrow hg
 refine ⟨ho, ⟨?_, ?_, ?_, ?_, ?_, ?_, ⟨n1, n2⟩⟩⟩
 · exact (rp_row (h.res.alloc tmp) (by omega) hrow hg).other (by omega) 3 o'
 · exact ho.set 3 o'
 · rw [rowV_snoc, List.length_append]
   exact Keeps.row (p := fun t => t == 58) (Keeps.setCell (show w4.heap[B1]? = _ from ho) (by decide) 3 o') hown (by decide)
 · exact Keeps.row (p := fun t => t == 3) ((Keeps.grown hrow hg (by decide)).trans (Keeps.setCell (show w4.heap[B1]? = _ from ho) (by decide) 3 o')) (h.ints.alloc tmp) (by decide)
 · exact (((h.bel.alloc h.bel.size tmp).grown hg (by have := h.bel.size; simp; omega) (fun q hq => by have := (h.row.lt q hq).1; omega))).setCell (p := ⟨B1, 3, none⟩) (by simp; omega) o'
 · have h1 := h.sz
   have h2 := hg.size
   rw [World.size_alloc] at h2
   simp only [World.size_setCell]
   omega
theorem ints_at {W : World} {N0 n c : Nat} {A : Option Addr} {f : Int} (h : W.ownsRow N0 3 1 (.slice A n c) n (intVals (whI (wh f)))) {k : Nat} (hk : k < (wh f).length) : ∃ b o, A = some ⟨b, o, none⟩ ∧ W.cell? ⟨b, o + k, none⟩ = some (.int .i64 ((wh f)[k].1 : Int)) := by
 obtain ⟨A', c', e, hV, -⟩ := vals_row h
 obtain ⟨b, o, rfl, -, g⟩ := vals_i hV (by omega)
 cases e
 exact ⟨b, o, rfl, g k hk⟩
theorem rwhich_own (f : Int) (w : World) (h0 : 0 ≤ f) (h1 : f < 18446744073709551616) :
 Calls Tryz.prog 46 #[.int .u64 f] w fun e w' => ∃ A c, e = .returned (.slice A (wh f).length c) ∧ w'.ownsRow w.heap.size 3 1 (.slice A (wh f).length c) (wh f).length (intVals (whI (wh f))) ∧ Below w.heap.size w w' := by
 obtain ⟨n, rfl⟩ := Int.eq_ofNat_of_zero_le h0
 refine (rwhich_any n w (by omega)).mono ?_
 rintro e w' ⟨v, rfl, hrow, hb⟩
 obtain ⟨A, c, rfl, -, -⟩ := vals_row hrow
 exact ⟨A, c, rfl, hrow, hb⟩
theorem tkE_take {f : Int} {r : ByteArray} {k : Nat} (hk : k < (wh f).length) : tkE (((wh f).take (k + 1)).map pLet) r = (if tkE (((wh f).take k).map pLet) r = 0 then oE (pLet (wh f)[k]) (tkR (((wh f).take k).map pLet) r) else tkE (((wh f).take k).map pLet) r) ∧ tkR (((wh f).take (k + 1)).map pLet) r = oR (pLet (wh f)[k]) (tkR (((wh f).take k).map pLet) r) ∧ tkVs (((wh f).take (k + 1)).map pLet) r = tkVs (((wh f).take k).map pLet) r ++ [oV (pLet (wh f)[k]) (tkR (((wh f).take k).map pLet) r)] := by
 rw [List.take_succ_eq_append_getElem hk, List.map_append, List.map_singleton]
 exact ⟨tkE_snoc _ _ _, tkR_snoc _ _ _, tkVs_snoc _ _ _⟩
theorem tkE_bad {f : Int} {r : ByteArray} {k : Nat} (h : ¬ tkE (((wh f).take k).map pLet) r = 0) : ¬ tkE (hLs f) r = 0 := by
 rw [tkE_pre (l := ((wh f).take k).map pLet) (m := hLs f) ((List.take_prefix k (wh f)).map pLet) h]
 exact h
theorem wr_in (n : Int) (h : -9223372036854775808 ≤ n ∧ n ≤ 9223372036854775807) : wrap64 n = n := by unfold wrap64; omega
theorem wrap_two (a b : Nat) (ha : a < 256) (hb : b < 256) : wrap64 (wrap64 ((256 : Int) * wrap64 (a : Int)) + wrap64 (b : Int)) = (256 : Int) * (a : Int) + (b : Int) := by
 rw [wr_in (a : Int) ⟨by omega, by omega⟩, wr_in (b : Int) ⟨by omega, by omega⟩, wr_in ((256 : Int) * (a : Int)) ⟨by omega, by omega⟩, wr_in _ ⟨by omega, by omega⟩]

set_option maxRecDepth 100000 in
set_option maxHeartbeats 4000000 in
theorem rTake7_any (s : ByteArray) (w : World) (hs : s.size < 4611686018427387904) : Calls Tryz.prog 24 #[.string s] w (TpPost s w) := by
 obtain ⟨i0, hi, hz0, hz1, hz2⟩ := info_partsV infoVal
 have hb0 : Below w.heap.size w (w.alloc (.cells #[.int .i64 0, .int .u64 0, .int .u64 0, .slice none 0 0] 27)) := (Below.refl _ w).alloc (Nat.le_refl _) _
 have hx := Bx.new w 27 [.int .i64 0, .int .u64 0, .int .u64 0, .slice none 0 0]
 by_cases h14 : 14 ≤ s.size
 · obtain ⟨tE, tC, tZ, t8, tF, tR⟩ := tp_whole h14
   have h0 : 0 < s.size := by omega
   have h1 : 1 < s.size := by omega
   have h2 : 2 < s.size := by omega
   have h3 : 3 < s.size := by omega
   have HTP : Hid (tpErr s = if tkE (hLs (tpF s)) (tpR4 s) = 0 ∧ takeV (tpR1 s) 2 = 0 ∧ (tkR (hLs (tpF s)) (tpR4 s)).size = 0 then shE (tpH s) else 7) := Lib.hid (by rw [tpErr, if_pos tE])
   have HC : Hid ((tpH s).c = takeV s 2 ∧ (tpH s).z = takeV (tpR2 s) 8 ∧ (tpH s).f = tpF s ∧ (tpH s).l = tkVs (hLs (tpF s)) (tpR4 s)) := Lib.hid ⟨tp_hc s, tp_hz s, rfl, tp_hl s⟩
   have c8 := takeV_nonneg (s.extract 4 12) 8
   have d8 := takeV_lt (s.extract 4 12) 8
   have c2 := takeV_nonneg (s.extract 12 14) 2
   have d2 := takeV_lt (s.extract 12 14) 2
   have hT8 := fun W => rtake_any (s.extract 4 12) 8 W
   have hT2 := fun W => rtake_any (s.extract 12 14) 2 W
   rw [tC, t8, tF, tR] at HC
   rw [tZ, tF, tR] at HTP
   have HW : Hid (tkE (hLs (takeV (s.extract 12 14) 2)) (s.extract 14 s.size) = 0 → wfH (tpH s)) := Lib.hid (fun hk => tp_wf (by rw [tF, tR]; exact hk))
   have HLY : Hid (tkE (hLs (takeV (s.extract 12 14) 2)) (s.extract 14 s.size) = 0 → layEr (hLs (tpH s).f) (tpH s).l = 0) := Lib.hid (fun hk => by
    rw [HC.out.2.2.1, HC.out.2.2.2]
    exact (lay_tk _ _ (fun c hc => hLs_not hc) hk).1)
   have hr4 : (s.extract 14 s.size).size ≤ s.size := by rw [ByteArray.size_extract]; omega
   unfold TpPost
   generalize tpH s = h at *
   generalize tpErr s = er at *
   generalize takeV (s.extract 4 12) 8 = sv at *
   generalize takeR (s.extract 4 12) 8 = r8 at *
   generalize takeE (s.extract 4 12) 8 = e8 at *
   generalize takeV (s.extract 12 14) 2 = fv at *
   generalize takeR (s.extract 12 14) 2 = r2 at *
   generalize takeE (s.extract 12 14) 2 = e2 at *
   clear tE tC tZ t8 tF tR
   by_cases z2 : s[2].toNat = 0
   · by_cases z3 : s[3].toNat = 0
     · have u2 : (((s[2].toNat : Nat) : Int) != 0) = false := by simp [z2]
       have u3 : (((s[3].toNat : Nat) : Int) != 0) = false := by simp [z3]
       have HT2 : Hid (er = if tkE (hLs fv) (s.extract 14 s.size) = 0 ∧ (tkR (hLs fv) (s.extract 14 s.size)).size = 0 then shE h else 7) := Lib.hid (by rw [HTP.out, z2, z3]; simp)
       clear HTP z2 z3
       have tl : ((s.size : Int) < 14) = False := by simp; omega
       have tl2 : (s.size < 14) = False := by simp; omega
       go_enter Tryz.func24, Tryz.ntmps24
       go_wp2_with fail
       refine (hT8 _).mono ?_
       rintro e w1 ⟨rfl, hb1⟩
       have hB1 := hb0.trans (hb1.mono hb0.size)
       have hx1 := hx.kept hb1
       clear hT8 hx hb1 hb0
       go_wp2_with fail
       refine (hT2 _).mono ?_
       rintro e w2 ⟨rfl, hb2⟩
       have hB2 := hB1.trans (hb2.mono hB1.size)
       have hx2 := hx1.kept hb2
       clear hT2 hx1 hb2 hB1
       have i1 : (1 : Int) < (s.size : Int) := by omega
       have hwr := wrap_two s[0].toNat s[1].toNat s[0].toNat_lt s[1].toNat_lt
       go_wp2
       go_region
       rw [hwr]
       generalize (256 : Int) * ((s[0].toNat : Nat) : Int) + ((s[1].toNat : Nat) : Int) = cv at HC ⊢
       obtain ⟨W3, hW3⟩ : ∃ W3, W3 = (w2.alloc (.cells #[.int .i64 cv, .int .u64 sv, .int .u64 fv, .slice none 0 0] 27)).drew := ⟨_, rfl⟩
       have bx3 : Bx W3 w2.heap.size 27 [.int .i64 cv, .int .u64 sv, .int .u64 fv, .slice none 0 0] := by rw [hW3]; exact Bx.new w2 27 [.int .i64 cv, .int .u64 sv, .int .u64 fv, .slice none 0 0]
       have rs3 : Bx W3 w.heap.size 27 [.int .i64 0, .int .u64 0, .int .u64 0, .slice none 0 0] := by rw [hW3]; exact hx2.alloc _
       have hB3 : Below w.heap.size w W3 := by rw [hW3]; exact (hB2.alloc hB2.size _).drew
       have hlt2 := hx2.lt
       rw [← hW3]
       clear hW3 hwr hx2 hB2 u2 u3
       have hWh := rwhich_own fv W3 c2 d2
       obtain ⟨n, hn⟩ : ∃ n, (wh fv).length = n := ⟨_, rfl⟩
       have hn14 := wh_le fv
       have HN := Lib.hid hn
       rw [hn] at hWh hn14
       clear hn
       go_wp2_with fail
       refine hWh.mono ?_
       rintro e w4 ⟨A2, q2, rfl, hrow2, hb4⟩
       have HI0 : RtI w w4.heap.size w2.heap.size W3.heap.size cv sv fv (.slice A2 n q2) n (intVals (whI (wh fv))) [] w4 (.slice none 0 0) :=
        ⟨rs3.kept hb4, bx3.kept hb4, World.ownsRow_nil _ _ _ _, hrow2, hB3.trans (hb4.mono hB3.size), Nat.le_refl _, hlt2, (bx3.kept hb4).lt⟩
       generalize W3.heap.size = N0 at HI0
       generalize w2.heap.size = B1 at HI0 ⊢
       obtain ⟨N, HI0⟩ : ∃ N, RtI w N B1 N0 cv sv fv (.slice A2 n q2) n (intVals (whI (wh fv))) [] w4 (.slice none 0 0) := ⟨_, HI0⟩
       clear hWh rs3 bx3 hrow2 hb4 hB3 hlt2
       generalize hR4 : s.extract 14 s.size = r4 at *
       have hs14 : s.extract 14 s.size = r4 := hR4
       clear hR4
       go_wp2_with fail
       go_loopw [12, 13] (fun rv v wr => ∃ k : Nat, k ≤ n ∧ v = .int .i64 k ∧ Hid (tkE (((wh fv).take k).map pLet) r4 = 0) ∧ (∃ R, rv = .string R ∧ Hid (R = tkR (((wh fv).take k).map pLet) r4) ∧ R.size ≤ s.size) ∧ ∃ vv, RtI w N B1 N0 cv sv fv (.slice A2 n q2) n (intVals (whI (wh fv))) (tkVs (((wh fv).take k).map pLet) r4) wr vv) (fun _ v _ => n - (intOf v).toNat)
       case atStart => exact ⟨0, Nat.zero_le _, rfl, Lib.hid rfl, ⟨_, rfl, Lib.hid rfl, hr4⟩, _, HI0⟩
       case round =>
        obtain ⟨k, hk, rfl, HK, ⟨R, rfl, HR, hRs⟩, vv, HI⟩ := hrel
        clear HI0
        by_cases hlt : k < n
        · have hkw : k < (wh fv).length := by rw [HN.out]; exact hlt
          obtain ⟨b, o, rfl, hcell⟩ := ints_at HI.ints hkw
          have hT := fun W => rptake_any (wh fv)[k] R W (by omega)
          have hidx := fun W => index_let (wh fv)[k] W
          have HZ : Hid (oE (pLet (wh fv)[k]) R = 0 → (oR (pLet (wh fv)[k]) R).size ≤ R.size) := Lib.hid (fun h => poR_le (pLet_not _) h)
          obtain ⟨k1, k2, k3⟩ := tkE_take (r := r4) hkw
          rw [if_pos HK.out] at k1
          rw [← HR.out] at k1 k2 k3
          have H1 := Lib.hid k1
          have H2 := Lib.hid k2
          have H3 := Lib.hid k3
          clear k1 k2 k3
          have e1 : IntKind.i64.wrap ((k : Int) + 1) = ((k + 1 : Nat) : Int) := by simp only [IntKind.wrap_i64]; omega
          have hll : (tkVs (((wh fv).take k).map pLet) r4).length = k := by rw [tkVs_length, List.length_map, List.length_take]; omega
          generalize tkVs (((wh fv).take k).map pLet) r4 = ll at HI H3 hll
          generalize oE (pLet (wh fv)[k]) R = E at hT HZ H1
          generalize oR (pLet (wh fv)[k]) R = R' at hT HZ H2
          generalize oV (pLet (wh fv)[k]) R = V at hT H3
          generalize ((pLet (wh fv)[k]).toNat : Int) = lt at hT hidx
          generalize (((wh fv)[k]).1 : Int) = ix at hidx hcell
          obtain ⟨vn, vs⟩ := V
          unfold encV at hT
          dsimp only at hT
          go_wp2_with fail
          refine (hT wr).mono ?_
          rintro e w6 ⟨rfl, hb6⟩
          have HI6 := HI.kept hb6
          have hvx := Bx.new w6 58 [.int .u64 vn, .string vs]
          have hbv : Below w6.heap.size w6 (w6.alloc (.cells #[.int .u64 vn, .string vs] 58)) := (Below.refl _ w6).alloc (Nat.le_refl _) _
          have HI7 := HI6.kept hbv
          clear hT HI HI6 hb6 hcell
          by_cases hE0 : E = 0
          · subst hE0
            have hz := HZ.out rfl
            have HS := Lib.hid (fun tmp w4 o' => HI7.step ⟨vn, vs⟩ (tmp := tmp) (w4 := w4) (o' := o'))
            have o3 := HI7.box.cell 3 (by simp)
            have v0 := hvx.cell 0 (by simp)
            have v1 := hvx.cell 1 (by simp)
            dsimp only [List.getElem_cons_zero, List.getElem_cons_succ] at o3 v0 v1
            have hrow := HI7.row
            have hsz := HI7.sz
            have hkl : ll.length ≤ 14 := by omega
            clear hll
            have hnew : ∀ j u, [Value.int .u64 vn, Value.string vs][j]? = some u → ((w6.alloc (.cells #[.int .u64 vn, .string vs] 58)).alloc (.cells #[.int .u64 vn, .string vs] 58)).cell? ((⟨w6.heap.size + 1, 0, none⟩ : Addr).add j) = some u := by
             have h := cells_new (w6.alloc (.cells #[.int .u64 vn, .string vs] 58)) 58 [.int .u64 vn, .string vs]
             rw [World.size_alloc] at h
             exact h
            have hsz' : N ≤ ((w6.alloc (.cells #[.int .u64 vn, .string vs] 58)).alloc (.cells #[.int .u64 vn, .string vs] 58)).heap.size := by rw [World.size_alloc]; exact Nat.le_succ_of_le hsz
            clear HZ HI7 hvx hbv
            go_wp2_with (first
             | (at_builtin; refine wpList_append_own _ rfl _ _ 22 rfl N 58 i0 (.agg #[.int .u64 0, .string ⟨#[]⟩]) 2 24 Tryz.underlying22 hi hz0 hz1 hz2 rfl (by decide) _ _ _ rfl (hrow.alloc _) ⟨w6.heap.size + 1, 0, none⟩ 1 1 [.int .u64 vn, .string vs] rfl rfl hnew (by simp [Value.oneCell']) (by unfold maxLen; omega) (by omega) hsz' ?_))
            intro o' w8 hown' hgrow _
            obtain ⟨g1, g2⟩ := HS.out _ _ _ hown' hgrow
            have b3 := g1.cell 3 (by simp)
            have f3 := g1.frozen 3
            dsimp only [List.getElem_cons_zero, List.getElem_cons_succ] at b3
            obtain ⟨ao, n', cap', rfl⟩ : ∃ ao n' cap', o' = .slice ao n' cap' := by
             rcases hown'.2 with ⟨hv, _⟩ | ⟨g, cap, cur, hv, _⟩
             · exact ⟨_, _, _, hv⟩
             · exact ⟨_, _, _, hv⟩
            have G2 := Lib.hid g2
            clear HS hown' hgrow g1 hrow hnew hsz hsz' o3 v0 v1 g2
            go_wp2
            go_roundw
            case rel => exact ⟨k + 1, hlt, rfl, H1, ⟨R', rfl, Lib.hid H2.out.symm, by omega⟩, _, by rw [H3.out]; exact G2.out⟩
            case measure => simp only [intOf]; omega
          · have t : (E != 0) = true := by simpa using hE0
            have HF : Hid (er = 7) := Lib.hid (by
             rw [HT2.out, if_neg (fun h => ?_)]
             exact tkE_bad (f := fv) (r := r4) (k := k + 1) (by rw [H1.out]; exact hE0) h.1)
            obtain ⟨a0, f0, a1, f1, a2, f2, a3, f3, bR⟩ := HI7.res.store4 (.int .i64 0) (.int .u64 0) (.int .u64 0) (.slice none 0 0)
            have hB8 := below_store4 HI7.bel (B := w.heap.size) (Nat.le_refl _) (.int .i64 0) (.int .u64 0) (.int .u64 0) (.slice none 0 0)
            have y0 := bR.cell 0 (by simp)
            have y1 := bR.cell 1 (by simp)
            have y2 := bR.cell 2 (by simp)
            have y3 := bR.cell 3 (by simp)
            dsimp only [List.getElem_cons_zero, List.getElem_cons_succ] at y0 y1 y2 y3
            clear HT2 HZ H1 H2 H3 HC HW HLY hE0 hvx HI7 bR
            go_wp2
            refine bodyPost_ret (v := .tuple #[noneH, .int .i64 7]) ?_ rfl (.inr ⟨by rw [HF.out]; decide, by rw [HF.out], hB8⟩)
            rw [results_ct rfl]
            simp [asAddr, Result.andThen, go_sem, y0, y1, y2, y3, noneH]
        · obtain rfl : k = n := by omega
          have hfull : ((wh fv).take k).map pLet = hLs fv := by rw [List.take_of_length_le (by rw [HN.out]; exact Nat.le_refl _)]; rfl
          rw [hfull] at HK HR HI
          have hk0 := HK.out
          have hwf := HW.out hk0
          have hly := HLY.out hk0
          rw [← HC.out.2.2.2] at HI
          obtain ⟨A, cc, rfl, hV, -⟩ := vals_row HI.row
          have hFm := rform_any h A cc wr hwf.2.1.1 hwf.2.1.2
          have hVl := fun W hl hA => rvalues_any h A cc W hwf hl hA
          rw [hly] at hVl
          have HSh : Hid (shE h = if shOk h then (if 65536 < h.z then 4 else 0) else 7) := Lib.hid rfl
          have HO : Hid (shOk h → (wh h.f).length = h.l.length) := Lib.hid (fun h => h.2.2.2)
          have HT3 : Hid (er = if R.size = 0 then shE h else 7) := Lib.hid (by rw [HT2.out, HR.out, hk0]; simp)
          have HV := Lib.hid hV
          have HHl : Hid (h.l.length = h.l.length) := Lib.hid rfl
          unfold encH at hFm hVl
          rw [HC.out.1, HC.out.2.1, HC.out.2.2.1] at hFm hVl
          rw [HC.out.2.1] at HSh
          have x0 := HI.box.cell 0 (by simp)
          have x1 := HI.box.cell 1 (by simp)
          have x2 := HI.box.cell 2 (by simp)
          have x3 := HI.box.cell 3 (by simp)
          dsimp only [List.getElem_cons_zero, List.getElem_cons_succ] at x0 x1 x2 x3
          clear HT2 HK HR HW HLY hk0 hly hV hfull
          generalize hsh : decide (shOk h) = bo at hFm
          go_wp2_with fail
          refine hFm.mono ?_
          rintro e w6 ⟨rfl, hb6⟩
          have HI6 := HI.kept hb6
          have hV6 := HV.out.below hb6
          clear hFm HI hb6 x0 x1 x2 x3 HV
          have x0 := HI6.box.cell 0 (by simp)
          have x1 := HI6.box.cell 1 (by simp)
          have x2 := HI6.box.cell 2 (by simp)
          have x3 := HI6.box.cell 3 (by simp)
          dsimp only [List.getElem_cons_zero, List.getElem_cons_succ] at x0 x1 x2 x3
          by_cases hR0 : R.size = 0
          · have HT4 : Hid (er = shE h) := Lib.hid (by rw [HT3.out, if_pos hR0])
            have tr : ((0 : Int) < (R.size : Int)) = False := by simp [hR0]
            have tr2 : (0 < R.size) = False := by simp [hR0]
            clear HT3 hR0
            cases bo
            · have hno : ¬ shOk h := of_decide_eq_false hsh
              have HF : Hid (er = 7) := Lib.hid (by rw [HT4.out, HSh.out, if_neg hno])
              obtain ⟨a0, f0, a1, f1, a2, f2, a3, f3, bR⟩ := HI6.res.store4 (.int .i64 0) (.int .u64 0) (.int .u64 0) (.slice none 0 0)
              have hB8 := below_store4 HI6.bel (B := w.heap.size) (Nat.le_refl _) (.int .i64 0) (.int .u64 0) (.int .u64 0) (.slice none 0 0)
              have y0 := bR.cell 0 (by simp)
              have y1 := bR.cell 1 (by simp)
              have y2 := bR.cell 2 (by simp)
              have y3 := bR.cell 3 (by simp)
              dsimp only [List.getElem_cons_zero, List.getElem_cons_succ] at y0 y1 y2 y3
              clear HT4 HSh hno hVl HO hsh HC bR HI6 hV6 hwf
              go_wp2
              refine bodyPost_ret (v := .tuple #[noneH, .int .i64 7]) ?_ rfl (.inr ⟨by rw [HF.out]; decide, by rw [HF.out], hB8⟩)
              rw [results_ct rfl]
              simp [asAddr, Result.andThen, go_sem, y0, y1, y2, y3, noneH]
            · have hyes : shOk h := of_decide_eq_true hsh
              have hV1 := hVl w6 (by have hq := HO.out hyes; rw [HC.out.2.2.1] at hq; exact hq) hV6
              have HT5 : Hid (er = if 65536 < sv then 4 else 0) := Lib.hid (by rw [HT4.out, HSh.out, if_pos hyes])
              clear HT4 HSh hVl HO hsh hyes x0 x1 x2 x3
              have x0 := HI6.box.cell 0 (by simp)
              have x1 := HI6.box.cell 1 (by simp)
              have x2 := HI6.box.cell 2 (by simp)
              have x3 := HI6.box.cell 3 (by simp)
              dsimp only [List.getElem_cons_zero, List.getElem_cons_succ] at x0 x1 x2 x3
              go_wp2_with fail
              refine hV1.mono ?_
              rintro e w7 ⟨rfl, hb7⟩
              have HI7 := HI6.kept hb7
              have hV7 := hV6.below hb7
              clear hV1 HI6 hb7 hV6 x0 x1 x2 x3
              by_cases hz : 65536 < sv
              · have HF : Hid (er = 4) := Lib.hid (by rw [HT5.out, if_pos hz])
                obtain ⟨a0, f0, a1, f1, a2, f2, a3, f3, bR⟩ := HI7.res.store4 (.int .i64 0) (.int .u64 0) (.int .u64 0) (.slice none 0 0)
                have hB8 := below_store4 HI7.bel (B := w.heap.size) (Nat.le_refl _) (.int .i64 0) (.int .u64 0) (.int .u64 0) (.slice none 0 0)
                have y0 := bR.cell 0 (by simp)
                have y1 := bR.cell 1 (by simp)
                have y2 := bR.cell 2 (by simp)
                have y3 := bR.cell 3 (by simp)
                dsimp only [List.getElem_cons_zero, List.getElem_cons_succ] at y0 y1 y2 y3
                clear HT5 HC bR HI7 hV7 hwf
                go_wp2
                refine bodyPost_ret (v := .tuple #[noneH, .int .i64 4]) ?_ rfl (.inr ⟨by rw [HF.out]; decide, by rw [HF.out], hB8⟩)
                rw [results_ct rfl]
                simp [asAddr, Result.andThen, go_sem, y0, y1, y2, y3, noneH]
              · have HF : Hid (er = 0) := Lib.hid (by rw [HT5.out, if_neg hz])
                have x0 := HI7.box.cell 0 (by simp)
                have x1 := HI7.box.cell 1 (by simp)
                have x2 := HI7.box.cell 2 (by simp)
                have x3 := HI7.box.cell 3 (by simp)
                dsimp only [List.getElem_cons_zero, List.getElem_cons_succ] at x0 x1 x2 x3
                obtain ⟨a0, f0, a1, f1, a2, f2, a3, f3, bR⟩ := HI7.res.store4 (.int .i64 cv) (.int .u64 sv) (.int .u64 fv) (.slice A h.l.length cc)
                have hB8 := below_store4 HI7.bel (B := w.heap.size) (Nat.le_refl _) (.int .i64 cv) (.int .u64 sv) (.int .u64 fv) (.slice A h.l.length cc)
                have y0 := bR.cell 0 (by simp)
                have y1 := bR.cell 1 (by simp)
                have y2 := bR.cell 2 (by simp)
                have y3 := bR.cell 3 (by simp)
                dsimp only [List.getElem_cons_zero, List.getElem_cons_succ] at y0 y1 y2 y3
                have HV8 := Lib.hid (vals_store4 HI7.res (by decide) HI7.row ⟨cc, rfl⟩ (.int .i64 cv) (.int .u64 sv) (.int .u64 fv) (.slice A h.l.length cc))
                obtain ⟨A', c', eA, hV9, hn9⟩ := row_form HI7.row
                cases eA
                have HN9 := Lib.hid hn9
                clear HT5 bR HI7 hV7 hV9 hn9 hwf
                go_wp2
                refine bodyPost_ret (v := .tuple #[encH h A cc, .int .i64 0]) ?_ rfl (.inl ⟨HF.out, A, cc, rfl, HV8.out, HN9.out, hB8⟩)
                rw [results_ct rfl, encH, HC.out.1, HC.out.2.1, HC.out.2.2.1]
                simp [asAddr, Result.andThen, go_sem, y0, y1, y2, y3]
          · have HF : Hid (er = 7) := Lib.hid (by rw [HT3.out, if_neg hR0])
            have tr : ((0 : Int) < (R.size : Int)) = True := by simp; omega
            have tr2 : (0 < R.size) = True := by simp; omega
            obtain ⟨a0, f0, a1, f1, a2, f2, a3, f3, bR⟩ := HI6.res.store4 (.int .i64 0) (.int .u64 0) (.int .u64 0) (.slice none 0 0)
            have hB8 := below_store4 HI6.bel (B := w.heap.size) (Nat.le_refl _) (.int .i64 0) (.int .u64 0) (.int .u64 0) (.slice none 0 0)
            have y0 := bR.cell 0 (by simp)
            have y1 := bR.cell 1 (by simp)
            have y2 := bR.cell 2 (by simp)
            have y3 := bR.cell 3 (by simp)
            dsimp only [List.getElem_cons_zero, List.getElem_cons_succ] at y0 y1 y2 y3
            clear HT3 HSh hVl HO hsh HC bR HI6 hV6 hwf hR0
            go_wp2
            refine bodyPost_ret (v := .tuple #[noneH, .int .i64 7]) ?_ rfl (.inr ⟨by rw [HF.out]; decide, by rw [HF.out], hB8⟩)
            rw [results_ct rfl]
            simp [asAddr, Result.andThen, go_sem, y0, y1, y2, y3, noneH]
     · have u3 : (((s[3].toNat : Nat) : Int) != 0) = true := by simp [z3]
       have u2 : (((s[2].toNat : Nat) : Int) != 0) = false := by simp [z2]
       have HF : Hid (er = 7) := Lib.hid (by rw [HTP.out, if_neg (fun h => by have := h.2.1; omega)])
       have tl : ((s.size : Int) < 14) = False := by simp; omega
       have tl2 : (s.size < 14) = False := by simp; omega
       clear z2 z3 HTP HC HW HLY hT8 hT2 hx
       go_enter Tryz.func24, Tryz.ntmps24
       go_wp2
       refine bodyPost_ret (v := .tuple #[noneH, .int .i64 7]) ?_ rfl (.inr ⟨by rw [HF.out]; decide, by rw [HF.out], hb0⟩)
       rw [results_ct rfl]
       simp [asAddr, Result.andThen, go_sem, noneH]
   · have u2 : (((s[2].toNat : Nat) : Int) != 0) = true := by simp [z2]
     have HF : Hid (er = 7) := Lib.hid (by rw [HTP.out, if_neg (fun h => by have := h.2.1; omega)])
     have tl : ((s.size : Int) < 14) = False := by simp; omega
     have tl2 : (s.size < 14) = False := by simp; omega
     clear z2 HTP HC HW HLY hT8 hT2 hx
     go_enter Tryz.func24, Tryz.ntmps24
     go_wp2
     refine bodyPost_ret (v := .tuple #[noneH, .int .i64 7]) ?_ rfl (.inr ⟨by rw [HF.out]; decide, by rw [HF.out], hb0⟩)
     rw [results_ct rfl]
     simp [asAddr, Result.andThen, go_sem, noneH]
 · have HF : Hid (tpErr s = 7) := Lib.hid (by rw [tpErr, if_neg (tp_short (by omega))])
   have tl : ((s.size : Int) < 14) = True := by simp; omega
   have tl2 : (s.size < 14) = True := by simp; omega
   clear h14 hx
   unfold TpPost
   go_enter Tryz.func24, Tryz.ntmps24
   go_wp2
   refine bodyPost_ret (v := .tuple #[noneH, .int .i64 7]) ?_ rfl (.inr ⟨by rw [HF.out]; decide, by rw [HF.out], hb0⟩)
   rw [results_ct rfl]
   simp [asAddr, Result.andThen, go_sem, noneH]
end Go.Proofs.YtllgkohgcicbhaaGreatDoor
