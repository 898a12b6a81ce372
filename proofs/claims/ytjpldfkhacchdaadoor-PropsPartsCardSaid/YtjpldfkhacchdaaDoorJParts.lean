/-
  Several texts joined in one file: each says at its own head, below, what it proves, and its conditions.
-/
import Derived.Test.YtjpldfkhacchdaaDoorJRBytes
import Derived.Test.YtjpldfkhacchdaaDoorJSetL
import Derived.Deep.RegionHeld3
import Derived.Test.YtjpldfkhacchdaaDoorJPSame
/-
  The document's own Get of chapter 7 answers a head's property, and whether there is one; nothing that was there is changed. Conditions: the values lie in old memory, each number a uint64, each text shorter than 2^47 bytes.
-/
namespace Go.Proofs.YtjpldfkhacchdaaDoor
open Go.RowKit

theorem gotL_at {ws : List (Fin 14)} {l : List MV} {k : Nat} (i : Int) (hk : k < ws.length) (hl : k < l.length) : gotL (ws.drop k) (l.drop k) i = if ((ws[k].1 : Int) == i) = true then some l[k] else gotL (ws.drop (k + 1)) (l.drop (k + 1)) i := by
  rw [List.drop_eq_getElem_cons hk, List.drop_eq_getElem_cons hl, gotL, List.zip_cons_cons, List.find?_cons]
  by_cases h : ((ws[k].1 : Int) == i) = true
  · simp only [h, Option.map_some, if_pos]
  · have h' : ((ws[k].1 : Int) == i) = false := by simpa using h
    simp only [h']
    rfl

set_option maxRecDepth 100000 in
set_option maxHeartbeats 4000000 in
theorem rget7_any (h : He) (A : Option Addr) (cap : Nat) (i : Int) (w : World) (hh : wfH h) (hA : ValsAt w A (rowV h.l)) :
    Calls Tryd.prog 18 #[encH h A cap, .int .i64 i] w fun e w' => e = .returned (.tuple #[encV (gV h i), .bool (gIs h i)]) ∧ Below w.heap.size w w' := by
  obtain ⟨W0, hW0⟩ : ∃ W0, W0 = (w.alloc (.cells #[.int .i64 h.c, .int .u64 h.z, .int .u64 h.f, .slice A h.l.length cap] 25)).alloc (.cells #[.int .u64 0, .string ⟨#[]⟩] 40) := ⟨_, rfl⟩
  have hb0 : Below w.heap.size w W0 := by rw [hW0]; exact ((Below.refl _ w).alloc (Nat.le_refl _) _).alloc (by simp) _
  have hx0 : Bx W0 w.heap.size 25 [.int .i64 h.c, .int .u64 h.z, .int .u64 h.f, .slice A h.l.length cap] := by rw [hW0]; exact (Bx.new w 25 [.int .i64 h.c, .int .u64 h.z, .int .u64 h.f, .slice A h.l.length cap]).alloc _
  have hr0 : Bx W0 (w.heap.size + 1) 40 [.int .u64 0, .string ⟨#[]⟩] := by
    have q := Bx.new (w.alloc (.cells #[.int .i64 h.c, .int .u64 h.z, .int .u64 h.f, .slice A h.l.length cap] 25)) 40 [.int .u64 0, .string ⟨#[]⟩]
    rw [World.size_alloc] at q
    rw [hW0]
    exact q
  have hRt := rright7_any h A cap W0 hh (hA.below hb0)
  have hf0 := hh.2.1.1
  have hf1 := hh.2.1.2
  have hWh := fun W => rwhich_len h.f W hf0 hf1
  have HG : Hid (hE h = 0 → gotV h i = gotL (wh h.f) h.l i) := Lib.hid (fun he => gotV_L he i)
  have HNO : Hid (¬ hE h = 0 → gotV h i = none) := Lib.hid (fun he => by rw [gotV, if_neg he])
  have HLn : Hid (hE h = 0 → (wh h.f).length = h.l.length) := Lib.hid (fun he => (hE_parts he).2.1.2.2.2)
  have HV : Hid (gV h i = (gotV h i).getD noV ∧ gIs h i = (gotV h i).isSome) := Lib.hid ⟨rfl, rfl⟩
  have x0 := hx0.cell 0 (by simp)
  have x1 := hx0.cell 1 (by simp)
  have x2 := hx0.cell 2 (by simp)
  have x3 := hx0.cell 3 (by simp)
  dsimp only [List.getElem_cons_zero, List.getElem_cons_succ] at x0 x1 x2 x3
  generalize gV h i = gv at HV ⊢
  generalize gIs h i = gi at HV ⊢
  generalize gotV h i = og at HG HNO HV
  generalize hE h = he at hRt HG HNO HLn
  unfold encH at hRt ⊢
  clear hf0 hf1 hh
  obtain ⟨c, z, f, l⟩ := h
  dsimp only at *
  have hn14 := wh_le f
  obtain ⟨n, hn⟩ : ∃ n, (wh f).length = n := ⟨_, rfl⟩
  rw [hn] at hWh hn14
  have HN := Lib.hid hn
  clear hn
  go_enter Tryd.func18, Tryd.ntmps18
  go_wp2_with fail
  rw [← hW0]
  clear hW0
  go_wp2_with fail
  refine hRt.mono ?_
  rintro e w1 ⟨rfl, hb1⟩
  have hB1 := hb0.trans (hb1.mono hb0.size)
  have hx1 := hx0.kept hb1
  have hr1 := hr0.kept hb1
  have hA1 := hA.below hB1
  clear hRt hb0 hb1 hx0 hr0 hA x0 x1 x2 x3
  by_cases h0 : he = 0
  · have HG2 := Lib.hid (HG.out h0)
    have HL := Lib.hid (HLn.out h0)
    subst h0
    clear HG HNO HLn
    have x2 := hx1.cell 2 (by simp)
    dsimp only [List.getElem_cons_zero, List.getElem_cons_succ] at x2
    go_wp2_with fail
    refine (hWh _).mono ?_
    rintro e w2 ⟨A2, c2, rfl, hV2, hb2⟩
    have hB2 := hB1.trans (hb2.mono hB1.size)
    have hx2 := hx1.kept hb2
    have hr2 := hr1.kept hb2
    have hA2 := hA1.below hb2
    clear hWh hb2 hx1 hr1 hA1 hB1 x2
    go_wp2_with fail
    go_loop [7] (fun v => ∃ k : Nat, k ≤ n ∧ v = .int .i64 k ∧ Hid (og = gotL ((wh f).drop k) (l.drop k) i)) (fun v => n - (intOf v).toNat)
    case atStart => exact ⟨0, Nat.zero_le _, rfl, Lib.hid HG2.out⟩
    case round =>
      obtain ⟨k, hk, rfl, HK⟩ := hrel
      by_cases hlt : k < n
      · have hkw : k < (wh f).length := by rw [HN.out]; exact hlt
        have hkl : k < l.length := by rw [← HL.out]; exact hkw
        obtain ⟨b1, o1, rfl, hl1, g1⟩ := vals_v hA2 (by omega)
        obtain ⟨b2, o2, rfl, hl2, g2⟩ := vals_i hV2 (by omega)
        obtain ⟨c1, c1'⟩ := g1 k hkl
        have d1 := g2 k hkw
        have HS := Lib.hid (gotL_at i hkw hkl)
        have e1 : IntKind.i64.wrap ((k : Int) + 1) = ((k + 1 : Nat) : Int) := by simp only [IntKind.wrap_i64]; omega
        clear g1 g2 hA2 hV2
        generalize (((wh f)[k]).1 : Int) = ix at d1 HS
        generalize l[k] = u at *
        obtain ⟨un, us⟩ := u
        dsimp only at *
        have x3 := hx2.cell 3 (by simp)
        dsimp only [List.getElem_cons_zero, List.getElem_cons_succ] at x3
        cases ht : (ix == i)
        · have HF : Hid (og = gotL ((wh f).drop (k + 1)) (l.drop (k + 1)) i) := Lib.hid (by rw [HK.out, HS.out, ht]; rfl)
          clear HK HS HG2
          go_wp2
          go_round
          case rel => exact ⟨k + 1, hlt, rfl, HF⟩
          case measure => simp only [intOf]; omega
        · have HF : Hid (og = some ⟨un, us⟩) := Lib.hid (by rw [HK.out, HS.out, ht]; rfl)
          obtain ⟨a0, f0, a1, f1, bR⟩ := hr2.store2 (.int .u64 un) (.string us)
          have hB3 := below_store2 hB2 (B := w.heap.size + 1) (by omega) (.int .u64 un) (.string us)
          have y0 := bR.cell 0 (by simp)
          have y1 := bR.cell 1 (by simp)
          dsimp only [List.getElem_cons_zero, List.getElem_cons_succ] at y0 y1
          clear HK HS HG2 bR hB2
          go_wp2
          refine bodyPost_ret (v := .tuple #[encV gv, .bool gi]) ?_ rfl ⟨rfl, hB3⟩
          rw [results_ct rfl, HV.out.1, HV.out.2, HF.out]
          simp [asAddr, Result.andThen, go_sem, y0, y1, encV]
      · obtain rfl : k = n := by omega
        have HF : Hid (og = none) := Lib.hid (by rw [HK.out, List.drop_of_length_le (by rw [HN.out]; exact Nat.le_refl _)]; rfl)
        obtain ⟨a0, f0, a1, f1, bR⟩ := hr2.store2 (.int .u64 0) (.string ⟨#[]⟩)
        have hB3 := below_store2 hB2 (B := w.heap.size + 1) (by omega) (.int .u64 0) (.string ⟨#[]⟩)
        have y0 := bR.cell 0 (by simp)
        have y1 := bR.cell 1 (by simp)
        dsimp only [List.getElem_cons_zero, List.getElem_cons_succ] at y0 y1
        clear HK HG2 bR hB2
        go_wp2
        refine bodyPost_ret (v := .tuple #[encV gv, .bool gi]) ?_ rfl ⟨rfl, hB3⟩
        rw [results_ct rfl, HV.out.1, HV.out.2, HF.out]
        simp [asAddr, Result.andThen, go_sem, y0, y1, encV, noV]
  · have HF := Lib.hid (HNO.out h0)
    have t : (he != 0) = true := by simpa using h0
    clear HG HNO HLn h0 hWh
    obtain ⟨a0, f0, a1, f1, bR⟩ := hr1.store2 (.int .u64 0) (.string ⟨#[]⟩)
    have hB3 := below_store2 hB1 (B := w.heap.size + 1) (by omega) (.int .u64 0) (.string ⟨#[]⟩)
    have y0 := bR.cell 0 (by simp)
    have y1 := bR.cell 1 (by simp)
    dsimp only [List.getElem_cons_zero, List.getElem_cons_succ] at y0 y1
    clear bR hB1
    go_wp2
    refine bodyPost_ret (v := .tuple #[encV gv, .bool gi]) ?_ rfl ⟨rfl, hB3⟩
    rw [results_ct rfl, HV.out.1, HV.out.2, HF.out]
    simp [asAddr, Result.andThen, go_sem, y0, y1, encV, noV]
end Go.Proofs.YtjpldfkhacchdaaDoor

/-
  The document's own Set of chapter 7 answers, in memory of its own where it sets, the head with another property, or why there is none; nothing that was there is changed. Conditions: the values lie in old memory, each number a uint64, each text shorter than 2^47 bytes.
-/
namespace Go.Proofs.YtjpldfkhacchdaaDoor
open Go.RowKit

/-- between rounds: the head's box, the value's, the result's, the new head's, its row -/
structure RsI (w : World) (N B1 : Nat) (h : He) (A : Option Addr) (cap : Nat) (v : MV) (F : Int) (l : List MV) (wr : World) (vv : Value) : Prop where
  hx : Bx wr w.heap.size 25 [.int .i64 h.c, .int .u64 h.z, .int .u64 h.f, .slice A h.l.length cap]
  vx : Bx wr (w.heap.size + 1) 40 [.int .u64 v.n, .string v.s]
  res : Bx wr (w.heap.size + 1 + 1) 25 [.int .i64 0, .int .u64 0, .int .u64 0, .slice none 0 0]
  box : Bx wr B1 25 [.int .i64 h.c, .int .u64 h.z, .int .u64 F, vv]
  row : wr.ownsRow N 40 2 vv l.length (rowV l)
  bel : Below w.heap.size w wr
  sz : N ≤ wr.heap.size
  nn : w.heap.size + 1 + 1 < B1 ∧ B1 < N
theorem RsI.kept {w : World} {N B1 : Nat} {h : He} {A : Option Addr} {cap : Nat} {v : MV} {F : Int} {l : List MV} {wr w1 : World} {vv : Value} (I : RsI w N B1 h A cap v F l wr vv) (hb : Below wr.heap.size wr w1) : RsI w N B1 h A cap v F l w1 vv :=
  ⟨I.hx.kept hb, I.vx.kept hb, I.res.kept hb, I.box.kept hb, rowKept I.row hb, I.bel.trans (hb.mono I.bel.size), Nat.le_trans I.sz hb.size, I.nn⟩
theorem RsI.flag {w : World} {N B1 : Nat} {h : He} {A : Option Addr} {cap : Nat} {v : MV} {F : Int} {l : List MV} {wr : World} {vv : Value} (I : RsI w N B1 h A cap v F l wr vv) (F' : Int) : RsI w N B1 h A cap v F' l (wr.setCell ⟨B1, 2, none⟩ (.int .u64 F')) vv := by
  obtain ⟨n1, n2⟩ := I.nn
  refine ⟨I.hx.other (by omega) 2 _, I.vx.other (by omega) 2 _, I.res.other (by omega) 2 _, I.box.set 2 _, ?_, I.bel.setCell (p := ⟨B1, 2, none⟩) (by simp; omega) _, by simp only [World.size_setCell]; exact I.sz, ⟨n1, n2⟩⟩
  exact Keeps.row (p := fun t => t == 40) (Keeps.setCell (show wr.heap[B1]? = _ from I.box) (by decide) 2 _) I.row (by decide)
/-- behind an append to the row, and the store of it -/
theorem rs_row {W W' : World} {N B : Nat} {t e : TypeId} {sz : Nat} {xs ys : List Value} {vv : Value} {k : Nat} (h : Bx W B t xs) (hB : B < N) (hrow : W.ownsRow N e sz vv k ys) (hg : W.grownBy W' vv.ownBlock) : Bx W' B t xs :=
  (hg.block B h.lt (fun e => by have := (hrow.lt B e.symm).1; omega)).trans h
theorem RsI.step {w : World} {N B1 : Nat} {h : He} {A : Option Addr} {cap : Nat} {v : MV} {F : Int} {l : List MV} {wr : World} {vv : Value} (I : RsI w N B1 h A cap v F l wr vv) (u : MV) {tmp : Obj} {w4 : World} {o' : Value}
    (hown : w4.ownsRow N 40 2 o' (l.length + 1) (rowV l ++ [.int .u64 u.n, .string u.s])) (hg : (wr.alloc tmp).grownBy w4 vv.ownBlock) :
    Bx w4 B1 25 [.int .i64 h.c, .int .u64 h.z, .int .u64 F, vv] ∧ RsI w N B1 h A cap v F (l ++ [u]) (w4.setCell ⟨B1, 3, none⟩ o') o' := by
  obtain ⟨n1, n2⟩ := I.nn
  have hrow := I.row.alloc tmp
  have ho := rs_row (I.box.alloc tmp) n2 hrow hg
  refine ⟨ho, ⟨?_, ?_, ?_, ?_, ?_, ?_, ?_, ⟨n1, n2⟩⟩⟩
  · exact (rs_row (I.hx.alloc tmp) (by omega) hrow hg).other (by omega) 3 o'
  · exact (rs_row (I.vx.alloc tmp) (by omega) hrow hg).other (by omega) 3 o'
  · exact (rs_row (I.res.alloc tmp) (by omega) hrow hg).other (by omega) 3 o'
  · exact ho.set 3 o'
  · rw [rowV_snoc, List.length_append]
    exact Keeps.row (p := fun t => t == 40) (Keeps.setCell (show w4.heap[B1]? = _ from ho) (by decide) 3 o') hown (by decide)
  · exact (((I.bel.alloc I.bel.size tmp).grown hg (by have := I.bel.size; simp; omega) (fun q hq => by have := (I.row.lt q hq).1; omega))).setCell (p := ⟨B1, 3, none⟩) (by simp; omega) o'
  · have h1 := I.sz
    have h2 := hg.size
    rw [World.size_alloc] at h2
    simp only [World.size_setCell]
    omega

set_option maxRecDepth 100000 in
set_option maxHeartbeats 4000000 in
theorem rset7_any (h : He) (A : Option Addr) (cap : Nat) (i : Int) (v : MV) (w : World) (hh : wfH h) (hv : wfV v) (hA : ValsAt w A (rowV h.l)) (hA0 : A = none → h.l.length = 0 ∧ cap = 0) :
    Calls Tryd.prog 20 #[encH h A cap, .int .i64 i, encV v] w (SetPost h i v w) := by
  obtain ⟨i0, hi, hz0, hz1, hz2⟩ := info_partsV infoVal
  obtain ⟨W0, hW0⟩ : ∃ W0, W0 = ((w.alloc (.cells #[.int .i64 h.c, .int .u64 h.z, .int .u64 h.f, .slice A h.l.length cap] 25)).alloc (.cells #[.int .u64 v.n, .string v.s] 40)).alloc (.cells #[.int .i64 0, .int .u64 0, .int .u64 0, .slice none 0 0] 25) := ⟨_, rfl⟩
  have hb0 : Below w.heap.size w W0 := by rw [hW0]; exact (((Below.refl _ w).alloc (Nat.le_refl _) _).alloc (by simp) _).alloc (by simp; omega) _
  have hx0 : Bx W0 w.heap.size 25 [.int .i64 h.c, .int .u64 h.z, .int .u64 h.f, .slice A h.l.length cap] := by rw [hW0]; exact ((Bx.new w 25 [.int .i64 h.c, .int .u64 h.z, .int .u64 h.f, .slice A h.l.length cap]).alloc _).alloc _
  have vx0 : Bx W0 (w.heap.size + 1) 40 [.int .u64 v.n, .string v.s] := by
    have q := Bx.new (w.alloc (.cells #[.int .i64 h.c, .int .u64 h.z, .int .u64 h.f, .slice A h.l.length cap] 25)) 40 [.int .u64 v.n, .string v.s]
    rw [World.size_alloc] at q
    rw [hW0]
    exact q.alloc _
  have rs0 : Bx W0 (w.heap.size + 1 + 1) 25 [.int .i64 0, .int .u64 0, .int .u64 0, .slice none 0 0] := by
    have q := Bx.new ((w.alloc (.cells #[.int .i64 h.c, .int .u64 h.z, .int .u64 h.f, .slice A h.l.length cap] 25)).alloc (.cells #[.int .u64 v.n, .string v.s] 40)) 25 [.int .i64 0, .int .u64 0, .int .u64 0, .slice none 0 0]
    rw [World.size_alloc, World.size_alloc] at q
    rw [hW0]
    exact q
  have hRt := rright7_any h A cap W0 hh (hA.below hb0)
  have hG := fun (k : Int) W hV => rget7_any h A cap k W hh hV
  have HSE : Hid (setE h i v = match pI i with | none => 1 | some p => if hE h = 0 then vE (pLet p) v else 1) := Lib.hid rfl
  have HSM : Hid (setM h i v = match pI i with | none => h | some p => if hE h = 0 ∧ vE (pLet p) v = 0 then putH h p v else h) := Lib.hid rfl
  have HA0 := Lib.hid hA0
  have HHH := Lib.hid hh
  have fin : ∀ (W : World) (E : Int), Below w.heap.size w W → setE h i v = E → setM h i v = h → SetPost h i v w (.returned (.tuple #[encH h A cap, .int .i64 E])) W := fun W E hb hE hM =>
    ⟨A, cap, by rw [hM, hE], by rw [hM]; exact hA.below hb, by rw [hM]; exact hA0, hb⟩
  have x0 := hx0.cell 0 (by simp)
  have x1 := hx0.cell 1 (by simp)
  have x2 := hx0.cell 2 (by simp)
  have x3 := hx0.cell 3 (by simp)
  dsimp only [List.getElem_cons_zero, List.getElem_cons_succ] at x0 x1 x2 x3
  clear hA0 hh
  unfold encH encV at *
  by_cases hi0 : i < 0
  · have HF : Hid (setE h i v = 1 ∧ setM h i v = h) := Lib.hid (by
      have e : pI i = none := by rw [pI, dif_neg (by omega)]
      exact ⟨by rw [HSE.out, e], by rw [HSM.out, e]⟩)
    have t0 : decide (i < 0) = true := decide_eq_true hi0
    clear HSE HSM hRt hG
    rw [hW0] at x0 x1 x2 x3
    clear hW0 hb0 hx0 vx0 rs0
    go_enter Tryd.func20, Tryd.ntmps20
    go_wp2
    refine bodyPost_ret (v := .tuple #[.agg #[.int .i64 h.c, .int .u64 h.z, .int .u64 h.f, .slice A h.l.length cap], .int .i64 (1)]) ?_ rfl (fin _ _ ((((Below.refl _ w).alloc (Nat.le_refl _) _).alloc (by simp) _).alloc (by simp; omega) _) HF.out.1 HF.out.2)
    rw [results_ct rfl]
    simp [asAddr, Result.andThen, go_sem]
  · by_cases hi14 : 14 ≤ i
    · have HF : Hid (setE h i v = 1 ∧ setM h i v = h) := Lib.hid (by
        have e : pI i = none := by rw [pI, dif_neg (by omega)]
        exact ⟨by rw [HSE.out, e], by rw [HSM.out, e]⟩)
      have t0 : decide (i < 0) = false := decide_eq_false hi0
      have t1 : decide (14 ≤ i) = true := decide_eq_true hi14
      clear HSE HSM hRt hG
      rw [hW0] at x0 x1 x2 x3
      clear hW0 hb0 hx0 vx0 rs0
      go_enter Tryd.func20, Tryd.ntmps20
      go_wp2
      refine bodyPost_ret (v := .tuple #[.agg #[.int .i64 h.c, .int .u64 h.z, .int .u64 h.f, .slice A h.l.length cap], .int .i64 (1)]) ?_ rfl (fin _ _ ((((Below.refl _ w).alloc (Nat.le_refl _) _).alloc (by simp) _).alloc (by simp; omega) _) HF.out.1 HF.out.2)
      rw [results_ct rfl]
      simp [asAddr, Result.andThen, go_sem]
    · obtain ⟨p, hpi⟩ : ∃ p : Fin 14, i = ((p.1 : Nat) : Int) := ⟨⟨i.toNat, by omega⟩, by show i = ((i.toNat : Nat) : Int); omega⟩
      have hpI : pI i = some p := by
        rw [pI, dif_pos ⟨by omega, by omega⟩]
        congr 1
        apply Fin.ext
        show i.toNat = p.1
        omega
      have HSE2 : Hid (setE h i v = if hE h = 0 then vE (pLet p) v else 1) := Lib.hid (by rw [HSE.out, hpI])
      have HSM2 : Hid (setM h i v = if hE h = 0 ∧ vE (pLet p) v = 0 then putH h p v else h) := Lib.hid (by rw [HSM.out, hpI])
      have HPI := Lib.hid hpi
      have hidx : ∀ W, (Instr.index 9 (.string ⟨#[83, 83, 84, 111, 111, 83, 83, 83, 83, 113, 83, 83, 83, 83]⟩) (.int .i64 i)).run Tryd.prog W = .ok (.int .u8 ((pLet p).toNat : Int)) W := fun W => by rw [hpi]; exact index_let p W
      have hL := fun W => rpval_any p v W hv
      clear HSE HSM hpI hpi
      have t0 : decide (i < 0) = false := decide_eq_false hi0
      have t1 : decide (14 ≤ i) = false := decide_eq_false hi14
      go_enter Tryd.func20, Tryd.ntmps20
      go_wp2_with fail
      rw [← hW0]
      clear hW0
      go_wp2_with fail
      with_reducible refine hRt.mono ?_
      rintro e w1 ⟨rfl, hb1⟩
      have hB1 := hb0.trans (hb1.mono hb0.size)
      have hx1 := hx0.kept hb1
      have vx1 := vx0.kept hb1
      have rs1 := rs0.kept hb1
      clear hRt hb0 hb1 hx0 vx0 rs0 x0 x1 x2 x3
      by_cases he : hE h = 0
      · have HE0 := Lib.hid he
        rw [he]
        have HSE3 : Hid (setE h i v = vE (pLet p) v) := Lib.hid (by rw [HSE2.out, if_pos he])
        have HSM3 : Hid (setM h i v = if vE (pLet p) v = 0 then putH h p v else h) := Lib.hid (by rw [HSM2.out]; simp only [he, true_and])
        clear he HSE2 HSM2
        have keep : ∀ w', Below w1.heap.size w1 w' → w'.cell? ⟨w.heap.size + 1, 0, none⟩ = some (.int .u64 v.n) ∧ w'.cell? ⟨w.heap.size + 1, 1, none⟩ = some (.string v.s) := fun w' h' => ⟨(vx1.kept h').cell 0 (by simp), (vx1.kept h').cell 1 (by simp)⟩
        obtain ⟨v0, v1⟩ := keep w1 (Below.refl _ _)
        unfold encV at hL
        obtain ⟨ve, hve⟩ : ∃ ve, ve = vE (pLet p) v := ⟨_, rfl⟩
        rw [← hve] at hL HSE3 HSM3
        have HVE0 : Hid (ve = vE (pLet p) v) := Lib.hid hve
        clear hve
        generalize ((pLet p).toNat : Int) = lt at hL hidx
        go_wp2
        go_region_held3 (fun w' => w'.cell? ⟨w.heap.size + 1, 0, none⟩ = some (.int .u64 v.n) ∧ w'.cell? ⟨w.heap.size + 1, 1, none⟩ = some (.string v.s)) (first | go_keep | (exact keep _ ⟨hq.os, hq.tape, hq.output, hq.size, hq.block⟩)) (first | (go_at_call 44; refine (hL _).mono ?_; rintro e w3 ⟨rfl, hq⟩))
        have hf3 : Below w1.heap.size w1 w3 := ⟨hq.os, hq.tape, hq.output, hq.size, hq.block⟩
        have hB3 := hB1.trans (hf3.mono hB1.size)
        have hx3 := hx1.kept hf3
        have vx3 := vx1.kept hf3
        have rs3 := rs1.kept hf3
        clear keep v0 v1 hL hq hf3 hx1 vx1 rs1 hB1 hidx
        by_cases hv0 : ve = 0
        · subst hv0
          have HF : Hid (setE h i v = 0 ∧ setM h i v = putH h p v) := Lib.hid ⟨HSE3.out, by rw [HSM3.out, if_pos rfl]⟩
          have HR : Hid (hE (putH h p v) = 0) := Lib.hid (put_right HHH.out HE0.out p HVE0.out.symm)
          have HS := Lib.hid (fun (k : Nat) (hk : k < 14) => set_round HHH.out HE0.out p HVE0.out.symm hk)
          have hok := (hE_parts HR.out).2.1
          have HT : Hid (topF (putH h p v).f 0 = 0 ∧ ((topF (putH h p v).f 14 : Nat) : Int) = (putH h p v).f ∧ (putH h p v).l.take (whK (putH h p v).f 14).length = (putH h p v).l) := Lib.hid ⟨topF_zero hok.2.1, topF_all (by show (0 : Int) ≤ ((h.f.toNat ||| flagN p : Nat) : Int); omega) hok.2.2.1, by rw [whK_all, hok.2.2.2, List.take_length]⟩
          have HTL : Hid (∀ k, topF (putH h p v).f k ≤ 65535) := Lib.hid (topF_le hok.2.1)
          have HLL : Hid ((putH h p v).l.length ≤ 14) := Lib.hid (by rw [← hok.2.2.2]; exact wh_le _)
          have HCZ : Hid ((putH h p v).c = h.c ∧ (putH h p v).z = h.z) := Lib.hid ⟨rfl, rfl⟩
          obtain ⟨W4, hW4⟩ : ∃ W4, W4 = w3.alloc (.cells #[.int .i64 h.c, .int .u64 h.z, .int .u64 0, .slice none 0 0] 25) := ⟨_, rfl⟩
          have hbn : Below w3.heap.size w3 W4 := by rw [hW4]; exact (Below.refl _ w3).alloc (Nat.le_refl _) _
          have hs4 : W4.heap.size = w3.heap.size + 1 := by rw [hW4, World.size_alloc]
          have HI0 : RsI w W4.heap.size w3.heap.size h A cap v ((0 : Nat) : Int) [] W4 (.slice none 0 0) :=
            ⟨hx3.kept hbn, vx3.kept hbn, rs3.kept hbn, by rw [hW4]; exact Bx.new w3 25 _, World.ownsRow_nil _ _ _ _, hB3.trans (hbn.mono hB3.size), Nat.le_refl _, rs3.lt, by omega⟩
          have x0 := hx3.cell 0 (by simp)
          have x1 := hx3.cell 1 (by simp)
          dsimp only [List.getElem_cons_zero, List.getElem_cons_succ] at x0 x1
          clear HSE3 HSM3 HVE0 HE0 HR hok hbn hs4 vx3 rs3 hB3 fin
          go_wp2_with fail
          rw [← hW4]
          clear hW4 x0 x1
          generalize W4.heap.size = N at HI0
          generalize w3.heap.size = B1 at HI0 ⊢
          clear hx3
          generalize putH h p v = h' at *
          have HI1 : RsI w N B1 h A cap v ((0 : Nat) : Int) (h'.l.take (whK h'.f 0).length) W4 (.slice none 0 0) := HI0
          clear HI0
          go_wp2_with fail
          go_loopw [10, 11] (fun pv kv wr => ∃ k : Nat, k ≤ 14 ∧ kv = .int .i64 k ∧ (∃ q : Nat, Hid (q = 2 ^ (15 - k)) ∧ pv = .int .u64 q) ∧ ∃ (F : Nat) (vv : Value), Hid (F = topF h'.f k) ∧ RsI w N B1 h A cap v (F : Int) (h'.l.take (whK h'.f k).length) wr vv) (fun _ kv _ => 14 - (intOf kv).toNat)
          case atStart => exact ⟨0, by omega, rfl, ⟨32768, Lib.hid rfl, rfl⟩, 0, _, Lib.hid HT.out.1.symm, HI1⟩
          case round =>
            obtain ⟨k, hk, rfl, ⟨q, HQ, rfl⟩, F, vv, HFk, HI⟩ := hrel
            clear HI1
            by_cases hlt : k < 14
            · have HSk := Lib.hid (HS.out k hlt)
              have hF : F ≤ 65535 := by rw [HFk.out]; exact HTL.out k
              have HQ2 : Hid (q / 2 = 2 ^ (15 - (k + 1))) := Lib.hid (by
                have e : 15 - k = (15 - (k + 1)) + 1 := by omega
                rw [HQ.out, e, Nat.pow_succ]
                omega)
              have hqk : q ≤ 32768 := by
                rw [HQ.out]
                exact Nat.pow_le_pow_right (n := 2) (by omega) (show 15 - k ≤ 15 by omega)
              have hll : (h'.l.take (whK h'.f k).length).length ≤ 14 := by have := HLL.out; rw [List.length_take]; omega
              have e1 : IntKind.i64.wrap ((k : Int) + 1) = ((k + 1 : Nat) : Int) := by simp only [IntKind.wrap_i64]; omega
              have hd : IntKind.u64.wrap ((q : Int) / 2) = ((q / 2 : Nat) : Int) := by simp only [IntKind.wrap_u64]; omega
              have HFS : Hid (topF h'.f (k + 1) = topF h'.f k + 2 ^ (15 - k) → F + q = topF h'.f (k + 1)) := Lib.hid (fun e => by rw [e, HFk.out, HQ.out])
              have hGk := hG (k : Int)
              generalize gV h (k : Int) = gv at hGk HSk
              generalize gIs h (k : Int) = gi at hGk HSk
              generalize h'.l.take (whK h'.f k).length = ll at HI HSk hll
              have x0 := HI.hx.cell 0 (by simp)
              have x1 := HI.hx.cell 1 (by simp)
              have x2 := HI.hx.cell 2 (by simp)
              have x3 := HI.hx.cell 3 (by simp)
              dsimp only [List.getElem_cons_zero, List.getElem_cons_succ] at x0 x1 x2 x3
              go_wp2_with fail
              with_reducible refine (hGk wr (hA.below HI.bel)).mono ?_
              rintro e w6 ⟨rfl, hb6⟩
              have hvx := Bx.new w6 40 [.int .u64 gv.n, .string gv.s]
              have hbv : Below wr.heap.size wr (w6.alloc (.cells #[.int .u64 gv.n, .string gv.s] 40)) := hb6.alloc hb6.size _
              have HI7 := HI.kept hbv
              have hsz6 := Nat.le_trans HI.sz hb6.size
              clear hGk x0 x1 x2 x3 hbv HQ
              rcases HSk.out with ⟨x, ⟨hki, rfl⟩ | ⟨hki, rfl, rfl⟩, s2, s3⟩ | ⟨hki, rfl, s2, s3⟩
              · have tk : ((k : Int) == i) = true := by rw [HPI.out]; simpa using hki
                have HS2 := Lib.hid s2
                have HF2 := Lib.hid (HFS.out s3)
                have HI9 := HI.kept (hb6.alloc hb6.size (.cells #[.int .u64 x.n, .string x.s] 40))
                have hvy := Bx.new w6 40 [.int .u64 x.n, .string x.s]
                have p0 := HI7.vx.cell 0 (by simp)
                have p1 := HI7.vx.cell 1 (by simp)
                dsimp only [List.getElem_cons_zero, List.getElem_cons_succ] at p0 p1
                clear HSk HFS s2 s3 hki HI hvx HI7
                have o2 := HI9.box.cell 2 (by simp)
                have of2 := HI9.box.frozen 2
                have HIc := HI9.flag ((F : Int) + (q : Int))
                have hvc := hvy.other (B' := B1) (by have := HI9.nn; omega) 2 (.int .u64 ((F : Int) + (q : Int)))
                have HSt := Lib.hid (fun tmp w4 o' => HIc.step x (tmp := tmp) (w4 := w4) (o' := o'))
                have o3 := HIc.box.cell 3 (by simp)
                have q0 := hvc.cell 0 (by simp)
                have q1 := hvc.cell 1 (by simp)
                dsimp only [List.getElem_cons_zero, List.getElem_cons_succ] at o2 o3 q0 q1
                have hrow := HIc.row
                have hszc : ((w6.alloc (.cells #[.int .u64 x.n, .string x.s] 40)).setCell ⟨B1, 2, none⟩ (.int .u64 ((F : Int) + (q : Int)))).heap.size = w6.heap.size + 1 := by simp only [World.size_setCell, World.size_alloc]
                have hnew : ∀ j u, [Value.int .u64 x.n, Value.string x.s][j]? = some u → (((w6.alloc (.cells #[.int .u64 x.n, .string x.s] 40)).setCell ⟨B1, 2, none⟩ (.int .u64 ((F : Int) + (q : Int)))).alloc (.cells #[.int .u64 x.n, .string x.s] 40)).cell? ((⟨w6.heap.size + 1, 0, none⟩ : Addr).add j) = some u := by
                  have h := cells_new ((w6.alloc (.cells #[.int .u64 x.n, .string x.s] 40)).setCell ⟨B1, 2, none⟩ (.int .u64 ((F : Int) + (q : Int)))) 40 [.int .u64 x.n, .string x.s]
                  rw [hszc] at h
                  exact h
                have hsz' : N ≤ (((w6.alloc (.cells #[.int .u64 x.n, .string x.s] 40)).setCell ⟨B1, 2, none⟩ (.int .u64 ((F : Int) + (q : Int)))).alloc (.cells #[.int .u64 x.n, .string x.s] 40)).heap.size := by rw [World.size_alloc, hszc]; omega
                clear HI9 hvy hvc HIc hszc hb6
                go_wp2_with (first
                  | (at_builtin; refine wpList_append_own _ rfl _ _ 23 rfl N 40 i0 (.agg #[.int .u64 0, .string ⟨#[]⟩]) 2 24 Tryd.underlying23 hi hz0 hz1 hz2 rfl (by decide) _ _ _ rfl (hrow.alloc _) ⟨w6.heap.size + 1, 0, none⟩ 1 1 [.int .u64 x.n, .string x.s] rfl rfl hnew (by simp [Value.oneCell']) (by unfold maxLen; omega) (by omega) hsz' ?_))
                intro o' w8 hown' hgrow _
                obtain ⟨g1, g2⟩ := HSt.out _ _ _ hown' hgrow
                have b3 := g1.cell 3 (by simp)
                have f3 := g1.frozen 3
                dsimp only [List.getElem_cons_zero, List.getElem_cons_succ] at b3
                obtain ⟨ao, n', cap', rfl⟩ : ∃ ao n' cap', o' = .slice ao n' cap' := by
                  rcases hown'.2 with ⟨hv, _⟩ | ⟨g, cap, cur, hv, _⟩
                  · exact ⟨_, _, _, hv⟩
                  · exact ⟨_, _, _, hv⟩
                have G2 := Lib.hid g2
                clear HSt hown' hgrow g1 hrow hnew hsz' o2 of2 o3 q0 q1 g2
                go_wp2
                go_roundw
                case rel => exact ⟨k + 1, by omega, rfl, ⟨q / 2, HQ2, by simp only [Value.int.injEq, true_and]; omega⟩, F + q, _, HF2, by rw [HS2.out, show ((F + q : Nat) : Int) = (F : Int) + (q : Int) from by omega]; exact G2.out⟩
                case measure => simp only [intOf]; omega
              · have tk : ((k : Int) == i) = false := by rw [HPI.out]; simpa using hki
                have HS2 := Lib.hid s2
                have HF2 := Lib.hid (HFS.out s3)
                clear HSk HFS s2 s3 hki HI
                have o2 := HI7.box.cell 2 (by simp)
                have of2 := HI7.box.frozen 2
                have HIc := HI7.flag ((F : Int) + (q : Int))
                have hvc := hvx.other (B' := B1) (by have := HI7.nn; omega) 2 (.int .u64 ((F : Int) + (q : Int)))
                have HSt := Lib.hid (fun tmp w4 o' => HIc.step gv (tmp := tmp) (w4 := w4) (o' := o'))
                have o3 := HIc.box.cell 3 (by simp)
                have q0 := hvc.cell 0 (by simp)
                have q1 := hvc.cell 1 (by simp)
                dsimp only [List.getElem_cons_zero, List.getElem_cons_succ] at o2 o3 q0 q1
                have hrow := HIc.row
                have hszc : ((w6.alloc (.cells #[.int .u64 gv.n, .string gv.s] 40)).setCell ⟨B1, 2, none⟩ (.int .u64 ((F : Int) + (q : Int)))).heap.size = w6.heap.size + 1 := by simp only [World.size_setCell, World.size_alloc]
                have hnew : ∀ j u, [Value.int .u64 gv.n, Value.string gv.s][j]? = some u → (((w6.alloc (.cells #[.int .u64 gv.n, .string gv.s] 40)).setCell ⟨B1, 2, none⟩ (.int .u64 ((F : Int) + (q : Int)))).alloc (.cells #[.int .u64 gv.n, .string gv.s] 40)).cell? ((⟨w6.heap.size + 1, 0, none⟩ : Addr).add j) = some u := by
                  have h := cells_new ((w6.alloc (.cells #[.int .u64 gv.n, .string gv.s] 40)).setCell ⟨B1, 2, none⟩ (.int .u64 ((F : Int) + (q : Int)))) 40 [.int .u64 gv.n, .string gv.s]
                  rw [hszc] at h
                  exact h
                have hsz' : N ≤ (((w6.alloc (.cells #[.int .u64 gv.n, .string gv.s] 40)).setCell ⟨B1, 2, none⟩ (.int .u64 ((F : Int) + (q : Int)))).alloc (.cells #[.int .u64 gv.n, .string gv.s] 40)).heap.size := by rw [World.size_alloc, hszc]; omega
                clear HI7 hvx hvc HIc hszc hb6
                go_wp2_with (first
                  | (at_builtin; refine wpList_append_own _ rfl _ _ 23 rfl N 40 i0 (.agg #[.int .u64 0, .string ⟨#[]⟩]) 2 24 Tryd.underlying23 hi hz0 hz1 hz2 rfl (by decide) _ _ _ rfl (hrow.alloc _) ⟨w6.heap.size + 1, 0, none⟩ 1 1 [.int .u64 gv.n, .string gv.s] rfl rfl hnew (by simp [Value.oneCell']) (by unfold maxLen; omega) (by omega) hsz' ?_))
                intro o' w8 hown' hgrow _
                obtain ⟨g1, g2⟩ := HSt.out _ _ _ hown' hgrow
                have b3 := g1.cell 3 (by simp)
                have f3 := g1.frozen 3
                dsimp only [List.getElem_cons_zero, List.getElem_cons_succ] at b3
                obtain ⟨ao, n', cap', rfl⟩ : ∃ ao n' cap', o' = .slice ao n' cap' := by
                  rcases hown'.2 with ⟨hv, _⟩ | ⟨g, cap, cur, hv, _⟩
                  · exact ⟨_, _, _, hv⟩
                  · exact ⟨_, _, _, hv⟩
                have G2 := Lib.hid g2
                clear HSt hown' hgrow g1 hrow hnew hsz' o2 of2 o3 q0 q1 g2
                go_wp2
                go_roundw
                case rel => exact ⟨k + 1, by omega, rfl, ⟨q / 2, HQ2, by simp only [Value.int.injEq, true_and]; omega⟩, F + q, _, HF2, by rw [HS2.out, show ((F + q : Nat) : Int) = (F : Int) + (q : Int) from by omega]; exact G2.out⟩
                case measure => simp only [intOf]; omega
              · have tk : ((k : Int) == i) = false := by rw [HPI.out]; simpa using hki
                have HS2 := Lib.hid s2
                have HF2 : Hid (F = topF h'.f (k + 1)) := Lib.hid (by rw [s3]; exact HFk.out)
                clear HSk HFS s2 s3 hki HI hvx
                go_wp2
                go_roundw
                case rel => exact ⟨k + 1, by omega, rfl, ⟨q / 2, HQ2, by simp only [Value.int.injEq, true_and]; omega⟩, F, vv, HF2, by rw [HS2.out]; exact HI7⟩
                case measure => simp only [intOf]; omega
            · obtain rfl : k = 14 := by omega
              obtain ⟨A', c', rfl, hV9, hn9⟩ := row_form HI.row
              obtain ⟨a0, f0, a1, f1, a2, f2, a3, f3, bR⟩ := HI.res.store4 (.int .i64 h.c) (.int .u64 h.z) (.int .u64 (F : Int)) (.slice A' (h'.l.take (whK h'.f 14).length).length c')
              have hB8 := below_store4 HI.bel (B := w.heap.size + 1 + 1) (by omega) (.int .i64 h.c) (.int .u64 h.z) (.int .u64 (F : Int)) (.slice A' (h'.l.take (whK h'.f 14).length).length c')
              have y0 := bR.cell 0 (by simp)
              have y1 := bR.cell 1 (by simp)
              have y2 := bR.cell 2 (by simp)
              have y3 := bR.cell 3 (by simp)
              dsimp only [List.getElem_cons_zero, List.getElem_cons_succ] at y0 y1 y2 y3
              have HV8 := Lib.hid (vals_store4 HI.res (by decide) HI.row ⟨c', rfl⟩ (.int .i64 h.c) (.int .u64 h.z) (.int .u64 (F : Int)) (.slice A' (h'.l.take (whK h'.f 14).length).length c'))
              have HN9 := Lib.hid hn9
              have HTT := Lib.hid HT.out.2.2
              have HFF : Hid ((F : Int) = h'.f) := Lib.hid (by rw [HFk.out]; exact HT.out.2.1)
              have b0 := HI.box.cell 0 (by simp)
              have b1 := HI.box.cell 1 (by simp)
              have b2 := HI.box.cell 2 (by simp)
              have b3 := HI.box.cell 3 (by simp)
              dsimp only [List.getElem_cons_zero, List.getElem_cons_succ] at b0 b1 b2 b3
              clear HI HT HFk hV9 hn9 bR HQ
              generalize h'.l.take (whK h'.f 14).length = ll at *
              obtain rfl := HTT.out
              clear HTT
              go_wp2
              refine bodyPost_ret (v := .tuple #[encH h' A' c', .int .i64 0]) ?_ rfl ⟨A', c', by rw [HF.out.1, HF.out.2], by rw [HF.out.2]; exact HV8.out, by rw [HF.out.2]; exact HN9.out, hB8⟩
              rw [results_ct rfl, encH, HCZ.out.1, HCZ.out.2, ← HFF.out]
              simp [asAddr, Result.andThen, go_sem, y0, y1, y2, y3]
        · have HF : Hid (setE h i v = ve ∧ setM h i v = h) := Lib.hid ⟨HSE3.out, by rw [HSM3.out, if_neg hv0]⟩
          have t : (ve != 0) = true := by simpa using hv0
          clear HSE3 HSM3 hv0 vx3 HVE0 HE0
          have x0 := hx3.cell 0 (by simp)
          have x1 := hx3.cell 1 (by simp)
          have x2 := hx3.cell 2 (by simp)
          have x3 := hx3.cell 3 (by simp)
          dsimp only [List.getElem_cons_zero, List.getElem_cons_succ] at x0 x1 x2 x3
          obtain ⟨a0, f0, a1, f1, a2, f2, a3, f3, bR⟩ := rs3.store4 (.int .i64 h.c) (.int .u64 h.z) (.int .u64 h.f) (.slice A h.l.length cap)
          have hB8 := below_store4 hB3 (B := w.heap.size + 1 + 1) (by omega) (.int .i64 h.c) (.int .u64 h.z) (.int .u64 h.f) (.slice A h.l.length cap)
          have y0 := bR.cell 0 (by simp)
          have y1 := bR.cell 1 (by simp)
          have y2 := bR.cell 2 (by simp)
          have y3 := bR.cell 3 (by simp)
          dsimp only [List.getElem_cons_zero, List.getElem_cons_succ] at y0 y1 y2 y3
          clear bR hx3 rs3 hB3
          go_wp2
          refine bodyPost_ret (v := .tuple #[.agg #[.int .i64 h.c, .int .u64 h.z, .int .u64 h.f, .slice A h.l.length cap], .int .i64 (ve)]) ?_ rfl (fin _ _ hB8 HF.out.1 HF.out.2)
          rw [results_ct rfl]
          simp [asAddr, Result.andThen, go_sem, y0, y1, y2, y3]
      · have HF : Hid (setE h i v = 1 ∧ setM h i v = h) := Lib.hid ⟨by rw [HSE2.out, if_neg he], by rw [HSM2.out, if_neg (fun h => he h.1)]⟩
        have t : (hE h != 0) = true := by simpa using he
        clear HSE2 HSM2 he vx1 hidx hL
        have x0 := hx1.cell 0 (by simp)
        have x1 := hx1.cell 1 (by simp)
        have x2 := hx1.cell 2 (by simp)
        have x3 := hx1.cell 3 (by simp)
        dsimp only [List.getElem_cons_zero, List.getElem_cons_succ] at x0 x1 x2 x3
        obtain ⟨a0, f0, a1, f1, a2, f2, a3, f3, bR⟩ := rs1.store4 (.int .i64 h.c) (.int .u64 h.z) (.int .u64 h.f) (.slice A h.l.length cap)
        have hB8 := below_store4 hB1 (B := w.heap.size + 1 + 1) (by omega) (.int .i64 h.c) (.int .u64 h.z) (.int .u64 h.f) (.slice A h.l.length cap)
        have y0 := bR.cell 0 (by simp)
        have y1 := bR.cell 1 (by simp)
        have y2 := bR.cell 2 (by simp)
        have y3 := bR.cell 3 (by simp)
        dsimp only [List.getElem_cons_zero, List.getElem_cons_succ] at y0 y1 y2 y3
        clear bR hx1 rs1 hB1
        go_wp2
        refine bodyPost_ret (v := .tuple #[.agg #[.int .i64 h.c, .int .u64 h.z, .int .u64 h.f, .slice A h.l.length cap], .int .i64 (1)]) ?_ rfl (fin _ _ hB8 HF.out.1 HF.out.2)
        rw [results_ct rfl]
        simp [asAddr, Result.andThen, go_sem, y0, y1, y2, y3]
end Go.Proofs.YtjpldfkhacchdaaDoor

/-
  PropsParts' walk: a property, and a head with another one, are as the document says. Conditions: the package num's table of widths holds 1, 2, 4, 8; the values lie in old memory, each number a uint64, each text shorter than 2^47 bytes.
-/
namespace Go.Proofs.YtjpldfkhacchdaaDoor
open Go.RowKit

set_option maxRecDepth 100000 in
set_option maxHeartbeats 4000000 in
theorem propsParts_walk (h : He) (A : Option Addr) (ca : Nat) (i : Int) (v : MV) (w : World) (hw : Wid w) (hA : ValsAt w A (rowV h.l)) (hA0 : A = none → h.l.length = 0 ∧ ca = 0) (hh : wfH h) (hv : wfV v) (hl : h.l.length * 24 ≤ 140737488355328) :
    Calls Tryd.prog 4 #[.agg #[.int .i64 h.c, .int .u64 h.z, .int .u64 h.f, .slice A h.l.length ca], .int .i64 i, .agg #[.int .u64 v.n, .string v.s]] w fun e w' => e = .returned (.bool true) ∧ Below w.heap.size w w' := by
  obtain ⟨W0, hW0⟩ : ∃ W0, W0 = ((w.alloc (.cells #[.int .i64 h.c, .int .u64 h.z, .int .u64 h.f, .slice A h.l.length ca] 25)).alloc (.cells #[.int .u64 v.n, .string v.s] 40)) := ⟨_, rfl⟩
  have hb0 : Below w.heap.size w W0 := by rw [hW0]; exact ((Below.refl _ w).alloc (Nat.le_refl _) _).alloc (by simp) _
  have hx0 : Bx W0 w.heap.size 25 [.int .i64 h.c, .int .u64 h.z, .int .u64 h.f, .slice A h.l.length ca] := by rw [hW0]; exact (Bx.new w 25 [.int .i64 h.c, .int .u64 h.z, .int .u64 h.f, .slice A h.l.length ca]).alloc _
  have hv0 : Bx W0 (w.heap.size + 1) 40 [.int .u64 v.n, .string v.s] := by
    have q := Bx.new (w.alloc (.cells #[.int .i64 h.c, .int .u64 h.z, .int .u64 h.f, .slice A h.l.length ca] 25)) 40 [.int .u64 v.n, .string v.s]
    rw [World.size_alloc] at q
    rw [hW0]
    exact q
  have hSh := pshown_any W0 (hw.below hb0)
  have hG1 := fun W hW hV => pget_any h A ca i W hW hh hV
  have hG2 := fun W hV => rget7_any h A ca i W hh hV
  have hS1 := fun W hW hV => pset_any h A ca i v W hW hh hv hV hA0 hl
  have hS2 := fun W hV => rset7_any h A ca i v W hh hv hV hA0
  have hlen : (setM h i v).l.length ≤ 9223372036854775807 := by
    by_cases h0 : setE h i v = 0
    · obtain ⟨p, rfl, he, hve, hm⟩ := set_ok h0
      have h2 := (hE_parts (put_right hh he p hve)).2.1.2.2.2
      have h3 := wh_le (putH h p v).f
      rw [hm]
      omega
    · rw [set_no h0]; omega
  have hSame := fun A1 c1 B c2 W h1 h2 => rpsame_any (setM h i v) (setM h i v) A1 B c1 c2 W h1 h2 hlen
  rw [(sameH_iff _ _).2 rfl] at hSame
  unfold SetPost at hS1 hS2
  clear hlen hl hA0 hh
  generalize setE h i v = se at hS1 hS2
  generalize setM h i v = sm at hS1 hS2 hSame
  generalize gV h i = gv at hG1 hG2
  generalize gIs h i = gi at hG1 hG2
  simp only [encH, encV] at hS1 hS2 hG1 hG2 hSame
  go_enter Tryd.func4, Tryd.ntmps4
  go_wp2_with fail
  rw [← hW0]
  clear hW0
  with_reducible refine hSh.mono ?_
  rintro e w1 ⟨rfl, hb1⟩
  have hB1 := hb0.trans (hb1.mono hb0.size)
  have hx1 := hx0.kept hb1
  have hv1 := hv0.kept hb1
  clear hSh hb0 hb1 hx0 hv0
  have x0 := hx1.cell 0 (by simp)
  have x1 := hx1.cell 1 (by simp)
  have x2 := hx1.cell 2 (by simp)
  have x3 := hx1.cell 3 (by simp)
  dsimp only [List.getElem_cons_zero, List.getElem_cons_succ] at x0 x1 x2 x3
  go_wp2_with fail
  with_reducible refine (hG1 w1 (hw.below hB1) (hA.below hB1)).mono ?_
  rintro e w2 ⟨rfl, hb2⟩
  have hp2 := Bx.new w2 40 [.int .u64 gv.n, .string gv.s]
  have hbn : Below w1.heap.size w1 (w2.alloc (.cells #[.int .u64 gv.n, .string gv.s] 40)) := hb2.alloc hb2.size _
  have hB2 := hB1.trans (hbn.mono hB1.size)
  have hx2 := hx1.kept hbn
  have hv2 := hv1.kept hbn
  clear hG1 hB1 hx1 hv1 hb2 hbn x0 x1 x2 x3
  have x0 := hx2.cell 0 (by simp)
  have x1 := hx2.cell 1 (by simp)
  have x2 := hx2.cell 2 (by simp)
  have x3 := hx2.cell 3 (by simp)
  dsimp only [List.getElem_cons_zero, List.getElem_cons_succ] at x0 x1 x2 x3
  go_wp2_with fail
  with_reducible refine (hG2 _ (hA.below hB2)).mono ?_
  rintro e w3 ⟨rfl, hb3⟩
  have hq3 := Bx.new w3 40 [.int .u64 gv.n, .string gv.s]
  have hbn := hb3.alloc hb3.size (.cells #[.int .u64 gv.n, .string gv.s] 40)
  have hB3 := hB2.trans (hbn.mono hB2.size)
  have hx3 := hx2.kept hbn
  have hv3 := hv2.kept hbn
  have hp3 := hp2.kept hbn
  clear hG2 hB2 hx2 hv2 hb3 hbn hp2 x0 x1 x2 x3
  have x0 := hx3.cell 0 (by simp)
  have x1 := hx3.cell 1 (by simp)
  have x2 := hx3.cell 2 (by simp)
  have x3 := hx3.cell 3 (by simp)
  dsimp only [List.getElem_cons_zero, List.getElem_cons_succ] at x0 x1 x2 x3
  have v0 := hv3.cell 0 (by simp)
  have v1 := hv3.cell 1 (by simp)
  dsimp only [List.getElem_cons_zero, List.getElem_cons_succ] at v0 v1
  go_wp2_with fail
  with_reducible refine (hS1 _ (hw.below hB3) (hA.below hB3)).mono ?_
  rintro e w4 ⟨A1, c1, rfl, hV4, -, hb4⟩
  have hr4 := Bx.new w4 25 [.int .i64 sm.c, .int .u64 sm.z, .int .u64 sm.f, .slice A1 sm.l.length c1]
  have hb4n : Below w4.heap.size w4 (w4.alloc (.cells #[.int .i64 sm.c, .int .u64 sm.z, .int .u64 sm.f, .slice A1 sm.l.length c1] 25)) := (Below.refl _ w4).alloc (Nat.le_refl _) _
  have hbn := hb4.alloc hb4.size (.cells #[.int .i64 sm.c, .int .u64 sm.z, .int .u64 sm.f, .slice A1 sm.l.length c1] 25)
  have hB4 := hB3.trans (hbn.mono hB3.size)
  have hx4 := hx3.kept hbn
  have hv4 := hv3.kept hbn
  have hp4 := hp3.kept hbn
  have hq4 := hq3.kept hbn
  have hVa := hV4.below hb4n
  clear hS1 hB3 hx3 hv3 hb4 hbn hp3 hq3 hV4 hb4n x0 x1 x2 x3 v0 v1
  have x0 := hx4.cell 0 (by simp)
  have x1 := hx4.cell 1 (by simp)
  have x2 := hx4.cell 2 (by simp)
  have x3 := hx4.cell 3 (by simp)
  dsimp only [List.getElem_cons_zero, List.getElem_cons_succ] at x0 x1 x2 x3
  have v0 := hv4.cell 0 (by simp)
  have v1 := hv4.cell 1 (by simp)
  dsimp only [List.getElem_cons_zero, List.getElem_cons_succ] at v0 v1
  go_wp2_with fail
  with_reducible refine (hS2 _ (hA.below hB4)).mono ?_
  rintro e w5 ⟨A2, c2, rfl, hV5, -, hb5⟩
  have hs5 := Bx.new w5 25 [.int .i64 sm.c, .int .u64 sm.z, .int .u64 sm.f, .slice A2 sm.l.length c2]
  have hb5n : Below w5.heap.size w5 (w5.alloc (.cells #[.int .i64 sm.c, .int .u64 sm.z, .int .u64 sm.f, .slice A2 sm.l.length c2] 25)) := (Below.refl _ w5).alloc (Nat.le_refl _) _
  have hbn := hb5.alloc hb5.size (.cells #[.int .i64 sm.c, .int .u64 sm.z, .int .u64 sm.f, .slice A2 sm.l.length c2] 25)
  have hB5 := hB4.trans (hbn.mono hB4.size)
  have hr5 := hr4.kept hbn
  have hp5 := hp4.kept hbn
  have hq5 := hq4.kept hbn
  have hVb := hV5.below hb5n
  have hVa5 := hVa.below hbn
  clear hS2 hB4 hx4 hv4 hb5 hbn hp4 hq4 hV5 hb5n hVa hr4 x0 x1 x2 x3 v0 v1
  have x0 := hr5.cell 0 (by simp)
  have x1 := hr5.cell 1 (by simp)
  have x2 := hr5.cell 2 (by simp)
  have x3 := hr5.cell 3 (by simp)
  dsimp only [List.getElem_cons_zero, List.getElem_cons_succ] at x0 x1 x2 x3
  have y0 := hs5.cell 0 (by simp)
  have y1 := hs5.cell 1 (by simp)
  have y2 := hs5.cell 2 (by simp)
  have y3 := hs5.cell 3 (by simp)
  dsimp only [List.getElem_cons_zero, List.getElem_cons_succ] at y0 y1 y2 y3
  go_wp2_with fail
  with_reducible refine (hSame A1 c1 A2 c2 _ hVa5 hVb).mono ?_
  rintro e w6 ⟨rfl, hb6⟩
  have hB6 := hB5.trans (hb6.mono hB5.size)
  have p0 := (hp5.kept hb6).cell 0 (by simp)
  have p1 := (hp5.kept hb6).cell 1 (by simp)
  dsimp only [List.getElem_cons_zero, List.getElem_cons_succ] at p0 p1
  have q0 := (hq5.kept hb6).cell 0 (by simp)
  have q1 := (hq5.kept hb6).cell 1 (by simp)
  dsimp only [List.getElem_cons_zero, List.getElem_cons_succ] at q0 q1
  clear hSame hB5 hr5 hp5 hq5 hs5 hVb hVa5 hb6 x0 x1 x2 x3 y0 y1 y2 y3
  go_wp2
  go_ret
  exact ⟨rfl, hB6⟩
end Go.Proofs.YtjpldfkhacchdaaDoor
