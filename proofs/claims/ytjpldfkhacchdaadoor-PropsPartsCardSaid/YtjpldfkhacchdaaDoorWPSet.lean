/-
  props.Set answers, in memory of its own, the head with another property, or why there is none, as the plain functions say; nothing that was there is changed. Conditions: the package num's table of widths holds 1, 2, 4, 8; the values lie in old memory, each number a uint64, each text shorter than 2^47 bytes.
-/
import Derived.Deep.RegionHeld3
import Derived.Test.YtjpldfkhacchdaaDoorJRepl
import Derived.Test.YtjpldfkhacchdaaDoorWMClone
import Derived.Test.YtjpldfkhacchdaaDoorWPTk
import Derived.Test.YtjpldfkhacchdaaDoorJPSame
namespace Go.Proofs.YtjpldfkhacchdaaDoor
open Go.RowKit

def pI (i : Int) : Option (Fin 14) := if h : 0 ≤ i ∧ i < 14 then some ⟨i.toNat, by omega⟩ else none
/-- a head with another property -/
def putH (h : He) (p : Fin 14) (v : MV) : He := ⟨h.c, h.z, ((h.f.toNat ||| flagN p : Nat) : Int), h.l.take (whK h.f p.1).length ++ v :: h.l.drop (whK h.f (p.1 + 1)).length⟩
def setE (h : He) (i : Int) (v : MV) : Int := match pI i with
  | none => 1
  | some p => if hE h = 0 then vE (pLet p) v else 1
def setM (h : He) (i : Int) (v : MV) : He := match pI i with
  | none => h
  | some p => if hE h = 0 ∧ vE (pLet p) v = 0 then putH h p v else h
/-- what Set answers -/
def SetPost (h : He) (i : Int) (v : MV) (w : World) (e : Ending) (w' : World) : Prop := ∃ A cap, e = .returned (.tuple #[encH (setM h i v) A cap, .int .i64 (setE h i v)]) ∧ ValsAt w' A (rowV (setM h i v).l) ∧ (A = none → (setM h i v).l.length = 0 ∧ cap = 0) ∧ Below w.heap.size w w'
/-- its boxes, and the row that it made -/
structure SI (w : World) (c z f : Int) (v1 : Value) (n : Nat) (xs : List Value) (u : MV) (W : World) : Prop where
  hx : Bx W w.heap.size 25 [.int .i64 c, .int .u64 z, .int .u64 f, v1]
  vx : Bx W (w.heap.size + 1) 40 [.int .u64 u.n, .string u.s]
  rs : Bx W (w.heap.size + 1 + 1) 25 [.int .i64 0, .int .u64 0, .int .u64 0, .slice none 0 0]
  row : W.ownsRow (w.heap.size + 1 + 1 + 1) 40 2 v1 n xs
  bel : Below w.heap.size w W
theorem SI.kept {w : World} {c z f : Int} {v1 : Value} {n : Nat} {xs : List Value} {u : MV} {W W' : World} (h : SI w c z f v1 n xs u W) (hb : Below W.heap.size W W') : SI w c z f v1 n xs u W' :=
  ⟨h.hx.kept hb, h.vx.kept hb, h.rs.kept hb, rowKept h.row hb, h.bel.trans (hb.mono h.bel.size)⟩
theorem whK_lt14 (f : Int) (k : Nat) : (whK f k).length ≤ 14 := Nat.le_trans (whK_le f k) (wh_le f)
theorem whK_next (f : Int) (p : Fin 14) : (whK f (p.1 + 1)).length = (whK f p.1).length ∨ (whK f (p.1 + 1)).length = (whK f p.1).length + 1 := by
  rw [whK_succ f p.1 p.2]
  split
  · right; simp
  · left; rfl

set_option maxRecDepth 100000 in
set_option maxHeartbeats 4000000 in
theorem pset_any (h : He) (A : Option Addr) (cap : Nat) (i : Int) (v : MV) (w : World) (hw : Wid w) (hh : wfH h) (hv : wfV v) (hA : ValsAt w A (rowV h.l)) (hA0 : A = none → h.l.length = 0 ∧ cap = 0) (hl : h.l.length * 24 ≤ 140737488355328) :
    Calls Tryd.prog 19 #[encH h A cap, .int .i64 i, encV v] w (SetPost h i v w) := by
  obtain ⟨W0, hW0⟩ : ∃ W0, W0 = ((w.alloc (.cells #[.int .i64 h.c, .int .u64 h.z, .int .u64 h.f, .slice A h.l.length cap] 25)).alloc (.cells #[.int .u64 v.n, .string v.s] 40)).alloc (.cells #[.int .i64 0, .int .u64 0, .int .u64 0, .slice none 0 0] 25) := ⟨_, rfl⟩
  have hb0 : Below w.heap.size w W0 := by rw [hW0]; exact (((Below.refl _ w).alloc (Nat.le_refl _) _).alloc (by simp) _).alloc (by simp; omega) _
  have hx0 : Bx W0 w.heap.size 25 [.int .i64 h.c, .int .u64 h.z, .int .u64 h.f, .slice A h.l.length cap] := by rw [hW0]; exact ((Bx.new w 25 [.int .i64 h.c, .int .u64 h.z, .int .u64 h.f, .slice A h.l.length cap]).alloc _).alloc _
  have vx0 : Bx W0 (w.heap.size + 1) 40 [.int .u64 v.n, .string v.s] := by
    have h := Bx.new (w.alloc (.cells #[.int .i64 h.c, .int .u64 h.z, .int .u64 h.f, .slice A h.l.length cap] 25)) 40 [.int .u64 v.n, .string v.s]
    rw [World.size_alloc] at h
    rw [hW0]
    exact h.alloc _
  have rs0 : Bx W0 (w.heap.size + 1 + 1) 25 [.int .i64 0, .int .u64 0, .int .u64 0, .slice none 0 0] := by
    have h := Bx.new ((w.alloc (.cells #[.int .i64 h.c, .int .u64 h.z, .int .u64 h.f, .slice A h.l.length cap] 25)).alloc (.cells #[.int .u64 v.n, .string v.s] 40)) 25 [.int .i64 0, .int .u64 0, .int .u64 0, .slice none 0 0]
    rw [World.size_alloc, World.size_alloc] at h
    rw [hW0]
    exact h
  have hsz0 : W0.heap.size = w.heap.size + 1 + 1 + 1 := by rw [hW0]; simp
  have hC := clone_any A cap h.l W0 (hA.below hb0) hA0 hl
  rw [hsz0] at hC
  have hP := fun W => isProperty_any i W
  have hRt := fun A1 c1 W hW hV => pright_any h A1 c1 W hW hh hV
  have HSE : Hid (setE h i v = match pI i with | none => 1 | some p => if hE h = 0 then vE (pLet p) v else 1) := Lib.hid rfl
  have HSM : Hid (setM h i v = match pI i with | none => h | some p => if hE h = 0 ∧ vE (pLet p) v = 0 then putH h p v else h) := Lib.hid rfl
  have HL := Lib.hid hl
  have x3 := hx0.cell 3 (by simp)
  dsimp only [List.getElem_cons_zero, List.getElem_cons_succ] at x3
  unfold SetPost
  generalize setE h i v = se at HSE ⊢
  generalize setM h i v = sm at HSM ⊢
  unfold encH encV
  clear hl
  go_enter Tryd.func19, Tryd.ntmps19
  go_wp2_with fail
  rw [← hW0]
  clear hW0
  go_wp2_with fail
  refine hC.mono ?_
  rintro e w1 ⟨v1, rfl, hrow1, hb1⟩
  obtain ⟨A1, c1, rfl, hV1, hn1⟩ := row_form hrow1
  have b3 := (hx0.below hb1 (by omega)).cell 3 (by simp)
  have f3 := (hx0.below hb1 (by omega)).frozen 3
  dsimp only [List.getElem_cons_zero, List.getElem_cons_succ] at b3
  have HN1 : Hid (A1 = none → h.l.length = 0 ∧ c1 = 0) := Lib.hid hn1
  have hb1' : Below w.heap.size w w1 := hb0.trans (hb1.mono (by omega))
  have HI : SI w h.c h.z h.f (.slice A1 h.l.length c1) h.l.length (rowV h.l) v (w1.setCell ⟨w.heap.size, 3, none⟩ (.slice A1 h.l.length c1)) :=
    ⟨(hx0.below hb1 (by omega)).set 3 _, (vx0.below hb1 (by omega)).other (by omega) 3 _, (rs0.below hb1 (by omega)).other (by omega) 3 _,
     Keeps.row (p := fun t => t == 40) (Keeps.setCell (show w1.heap[w.heap.size]? = _ from hx0.below hb1 (by omega)) (by decide) 3 _) hrow1 (by decide),
     hb1'.setCell (p := ⟨w.heap.size, 3, none⟩) (by simp) _⟩
  clear hC hx0 vx0 rs0 hb0 hsz0 hb1 hb1' hrow1 hV1 hn1 hA hA0 x3
  go_wp2_with fail
  generalize w1.setCell ⟨w.heap.size, 3, none⟩ (.slice A1 h.l.length c1) = W1 at HI ⊢
  refine (hP W1).mono ?_
  rintro e w2 ⟨rfl, rfl⟩
  clear hP b3 f3
  by_cases hp : 0 ≤ i ∧ i < 14
  · obtain ⟨p, hpi⟩ : ∃ p : Fin 14, i = ((p.1 : Nat) : Int) := ⟨⟨i.toNat, by omega⟩, by show i = ((i.toNat : Nat) : Int); omega⟩
    have hpI : pI i = some p := by
      rw [pI, dif_pos hp]
      congr 1
      apply Fin.ext
      show i.toNat = p.1
      omega
    rw [decide_eq_true hp]
    have HSE2 : Hid (se = if hE h = 0 then vE (pLet p) v else 1) := Lib.hid (by rw [HSE.out, hpI])
    have HSM2 : Hid (sm = if hE h = 0 ∧ vE (pLet p) v = 0 then putH h p v else h) := Lib.hid (by rw [HSM.out, hpI])
    subst hpi
    clear HSE HSM hp hpI
    obtain ⟨A1', c1', eA, hV, -⟩ := row_form HI.row
    cases eA
    have hR1 := hRt A1 c1 w2 (hw.below HI.bel) hV
    have x0 := HI.hx.cell 0 (by simp)
    have x1 := HI.hx.cell 1 (by simp)
    have x2 := HI.hx.cell 2 (by simp)
    have x3 := HI.hx.cell 3 (by simp)
    dsimp only [List.getElem_cons_zero, List.getElem_cons_succ] at x0 x1 x2 x3
    unfold encH at hR1
    clear hRt hV
    go_wp2_with fail
    refine hR1.mono ?_
    rintro e w3 ⟨rfl, hb3⟩
    have HI3 := HI.kept hb3
    clear hR1 HI hb3 x0 x1 x2 x3
    by_cases he : hE h = 0
    · rw [he]
      have HSE3 : Hid (se = vE (pLet p) v) := Lib.hid (by rw [HSE2.out, if_pos he])
      have HSM3 : Hid (sm = if vE (pLet p) v = 0 then putH h p v else h) := Lib.hid (by rw [HSM2.out]; simp only [he, true_and])
      clear HSE2 HSM2
      obtain ⟨-, hok, -, -⟩ := hE_parts he
      have hL := fun W hW => play_any p v W hW hv
      have hidx := fun W => index_let p W
      have wid3 : ∀ w', Below w3.heap.size w3 w' → Wid w' := fun w' h' => hw.below (HI3.bel.trans (h'.mono HI3.bel.size))
      have keep : ∀ w', Below w3.heap.size w3 w' → w'.cell? ⟨w.heap.size + 1, 0, none⟩ = some (.int .u64 v.n) ∧ w'.cell? ⟨w.heap.size + 1, 1, none⟩ = some (.string v.s) := fun w' h' => ⟨(HI3.vx.kept h').cell 0 (by simp), (HI3.vx.kept h').cell 1 (by simp)⟩
      obtain ⟨v0, v1⟩ := keep w3 (Below.refl _ _)
      unfold encV at hL
      clear he
      generalize hve : vE (pLet p) v = ve at hL HSE3 HSM3
      clear hve
      generalize vRes (pLet p) v = vr at hL
      generalize ((pLet p).toNat : Int) = lt at hL hidx
      go_wp2
      go_region_held3 (fun w' => w'.cell? ⟨w.heap.size + 1, 0, none⟩ = some (.int .u64 v.n) ∧ w'.cell? ⟨w.heap.size + 1, 1, none⟩ = some (.string v.s)) (first | go_keep | (exact keep _ ⟨hq.os, hq.tape, hq.output, hq.size, hq.block⟩)) (first | (go_at_call 26; refine (hL _ (wid3 _ (Below.refl _ w3).drew)).mono ?_; rintro e w4 ⟨rfl, hq⟩))
      have hf : Below w3.heap.size w3 w4 := ⟨hq.os, hq.tape, hq.output, hq.size, hq.block⟩
      have HI4 := HI3.kept hf
      clear hL keep v0 v1 hq hf HI3 wid3 hidx
      by_cases hv0 : ve = 0
      · subst hv0
        have HF1 : Hid (se = 0 ∧ sm = putH h p v) := Lib.hid ⟨HSE3.out, by rw [HSM3.out, if_pos rfl]⟩
        clear HSE3 HSM3
        obtain ⟨fn, hfn⟩ : ∃ fn : Nat, h.f = (fn : Int) := ⟨h.f.toNat, by have := hh.2.1.1; omega⟩
        have hfl : fn < 65536 := by have := hok.2.1; omega
        have hPl := place_any fn p w4 hfl
        have hk1 := whK_next h.f p
        have hk2 := whK_le h.f (p.1 + 1)
        have hwl := wh_le h.f
        rw [hok.2.2.2] at hk2 hwl
        have hor : bits BinOp.or IntKind.u64 (fn : Int) (flagN p : Nat) = ((fn ||| flagN p : Nat) : Int) := u64_or_nat fn (flagN p) (by omega) (by
          have : flagN p ≤ 2 ^ 15 := Nat.pow_le_pow_right (by decide) (by omega)
          omega)
        have HPH : Hid (putH h p v = ⟨h.c, h.z, ((fn ||| flagN p : Nat) : Int), h.l.take (whK h.f p.1).length ++ v :: h.l.drop (whK h.f (p.1 + 1)).length⟩) := Lib.hid (by rw [putH, hfn, Int.toNat_natCast])
        have hFl := fun W => flag_any p W
        rw [← hfn] at hPl hor
        clear hfn hfl hok
        generalize (whK h.f p.1).length = k1 at hPl hk1 HPH
        generalize (whK h.f (p.1 + 1)).length = k2 at hPl hk1 hk2 HPH
        generalize ((fn ||| flagN p : Nat) : Int) = f' at hor HPH
        generalize ((flagN p : Nat) : Int) = fl at hor hFl
        have x2 := HI4.hx.cell 2 (by simp)
        dsimp only [List.getElem_cons_zero, List.getElem_cons_succ] at x2
        go_wp2_with fail
        refine hPl.mono ?_
        rintro e w5 ⟨rfl, rfl⟩
        obtain ⟨W5, hW5⟩ : ∃ W5, W5 = w5.alloc (.cells #[.int .u64 v.n, .string v.s] 40) := ⟨_, rfl⟩
        have hb5 : Below w5.heap.size w5 W5 := by rw [hW5]; exact (Below.refl _ w5).alloc (Nat.le_refl _) _
        have hvx : Bx W5 w5.heap.size 40 (cellsV v) := by rw [hW5]; exact Bx.new w5 40 _
        have HI5 := HI4.kept hb5
        have hRep := replace_any h.l v k1 k2 (.slice A1 h.l.length c1) (w.heap.size + 1 + 1 + 1) w5.heap.size W5 (HI5.rs.lt) HI5.row (by omega) hk2 hwl hvx (fun e => by have := (HI4.row.lt _ e).2; omega)
        have x3 := HI4.hx.cell 3 (by simp)
        have v0 := HI4.vx.cell 0 (by simp)
        have v1 := HI4.vx.cell 1 (by simp)
        dsimp only [List.getElem_cons_zero, List.getElem_cons_succ] at x3 v0 v1
        clear hPl x2
        go_wp2_with fail
        rw [← hW5]
        refine hRep.mono ?_
        rintro e w6 ⟨v2, rfl, hrow6, hb6⟩
        clear hW5 hRep x3 v0 v1 HI4 hvx hb5
        generalize h.l.take k1 ++ v :: h.l.drop k2 = L at hrow6 HPH
        obtain ⟨A2, c2, rfl, -, hn6⟩ := row_form hrow6
        have HN6 := Lib.hid hn6
        have hx6 := HI5.hx.below hb6 (by omega)
        have HI7 : SI w h.c h.z h.f (.slice A2 L.length c2) L.length (rowV L) v (w6.setCell ⟨w.heap.size, 3, none⟩ (.slice A2 L.length c2)) :=
          ⟨hx6.set 3 _, (HI5.vx.below hb6 (by omega)).other (by omega) 3 _, (HI5.rs.below hb6 (by omega)).other (by omega) 3 _,
           Keeps.row (p := fun t => t == 40) (Keeps.setCell (show w6.heap[w.heap.size]? = _ from hx6) (by decide) 3 _) hrow6 (by decide),
           (HI5.bel.trans (hb6.mono (by omega))).setCell (p := ⟨w.heap.size, 3, none⟩) (by simp) _⟩
        have b3 := hx6.cell 3 (by simp)
        have f3 := hx6.frozen 3
        dsimp only [List.getElem_cons_zero, List.getElem_cons_succ] at b3
        clear hn6 hrow6 hb6 hx6 HI5
        go_wp2
        generalize w6.setCell ⟨w.heap.size, 3, none⟩ (.slice A2 L.length c2) = W7 at HI7 ⊢
        have HI8 : Hid (SI w h.c h.z f' (.slice A2 L.length c2) L.length (rowV L) v (W7.setCell ⟨w.heap.size, 2, none⟩ (.int .u64 f')).drew) := Lib.hid
          ⟨HI7.hx.set 2 _, HI7.vx.other (by omega) 2 _, HI7.rs.other (by omega) 2 _,
           Keeps.row (p := fun t => t == 40) (Keeps.setCell (show W7.heap[w.heap.size]? = _ from HI7.hx) (by decide) 2 (.int .u64 f')) HI7.row (by decide),
           (HI7.bel.setCell (p := ⟨w.heap.size, 2, none⟩) (by simp) _).drew⟩
        have g2 : W7.drew.cell? ⟨w.heap.size, 2, none⟩ = some (.int .u64 h.f) := HI7.hx.cell 2 (by simp)
        have g2f : W7.drew.frozen? ⟨w.heap.size, 2, none⟩ = false := HI7.hx.frozen 2
        have HF : Hid (se = 0 ∧ sm = ⟨h.c, h.z, f', L⟩) := Lib.hid ⟨HF1.out.1, by rw [HF1.out.2, HPH.out]⟩
        clear HF1 HPH HI7 hk1 hk2 hwl b3
        go_region_with (go_at_call 43; refine (hFl _).mono ?_; rintro e w8 ⟨rfl, rfl⟩)
        all_goals
          have HI9 := HI8.out
          generalize (W7.setCell ⟨w.heap.size, 2, none⟩ (.int .u64 f')).drew = W8 at HI9 ⊢
          obtain ⟨a0, f0, a1, f1, a2, f2, a3, f3, bR⟩ := HI9.rs.store4 (.int .i64 h.c) (.int .u64 h.z) (.int .u64 f') (.slice A2 L.length c2)
          have hB8 := below_store4 HI9.bel (B := w.heap.size + 1 + 1) (by omega) (.int .i64 h.c) (.int .u64 h.z) (.int .u64 f') (.slice A2 L.length c2)
          have y0 := bR.cell 0 (by simp)
          have y1 := bR.cell 1 (by simp)
          have y2 := bR.cell 2 (by simp)
          have y3 := bR.cell 3 (by simp)
          have x0 := HI9.hx.cell 0 (by simp)
          have x1 := HI9.hx.cell 1 (by simp)
          have x2 := HI9.hx.cell 2 (by simp)
          have x3 := HI9.hx.cell 3 (by simp)
          dsimp only [List.set, List.getElem_cons_zero, List.getElem_cons_succ] at y0 y1 y2 y3 x0 x1 x2 x3
          have HV8 := Lib.hid (vals_store4 HI9.rs (by decide) HI9.row ⟨_, rfl⟩ (.int .i64 h.c) (.int .u64 h.z) (.int .u64 f') (.slice A2 L.length c2))
          clear HI8 HI9 bR g2 g2f hFl hor
          go_wp2
          refine bodyPost_ret (v := .tuple #[encH ⟨h.c, h.z, f', L⟩ A2 c2, .int .i64 0]) ?_ rfl ⟨A2, c2, by rw [HF.out.1, HF.out.2]; rfl, by rw [HF.out.2]; exact HV8.out, by rw [HF.out.2]; exact HN6.out, hB8⟩
          rw [results_ct rfl, encH]
          simp [asAddr, Result.andThen, go_sem, y0, y1, y2, y3]
      · have t : (ve != 0) = true := by simpa using hv0
        have HF : Hid (se = ve ∧ sm = h) := Lib.hid ⟨HSE3.out, by rw [HSM3.out, if_neg hv0]⟩
        obtain ⟨a0, f0, a1, f1, a2, f2, a3, f3, bR⟩ := HI4.rs.store4 (.int .i64 h.c) (.int .u64 h.z) (.int .u64 h.f) (.slice A1 h.l.length c1)
        have hB8 := below_store4 HI4.bel (B := w.heap.size + 1 + 1) (by omega) (.int .i64 h.c) (.int .u64 h.z) (.int .u64 h.f) (.slice A1 h.l.length c1)
        have y0 := bR.cell 0 (by simp)
        have y1 := bR.cell 1 (by simp)
        have y2 := bR.cell 2 (by simp)
        have y3 := bR.cell 3 (by simp)
        have x0 := HI4.hx.cell 0 (by simp)
        have x1 := HI4.hx.cell 1 (by simp)
        have x2 := HI4.hx.cell 2 (by simp)
        have x3 := HI4.hx.cell 3 (by simp)
        dsimp only [List.getElem_cons_zero, List.getElem_cons_succ] at y0 y1 y2 y3 x0 x1 x2 x3
        have HV8 := Lib.hid (vals_store4 HI4.rs (by decide) HI4.row ⟨_, rfl⟩ (.int .i64 h.c) (.int .u64 h.z) (.int .u64 h.f) (.slice A1 h.l.length c1))
        clear HSE3 HSM3 HI4 bR hv0
        go_wp2
        refine bodyPost_ret (v := .tuple #[encH h A1 c1, .int .i64 ve]) ?_ rfl ⟨A1, c1, by rw [HF.out.1, HF.out.2]; rfl, by rw [HF.out.2]; exact HV8.out, by rw [HF.out.2]; exact HN1.out, hB8⟩
        rw [results_ct rfl, encH]
        simp [asAddr, Result.andThen, go_sem, y0, y1, y2, y3]
    · have t : (hE h != 0) = true := by simpa using he
      have HF : Hid (se = 1 ∧ sm = h) := Lib.hid ⟨by rw [HSE2.out, if_neg he], by rw [HSM2.out, if_neg (fun h => he h.1)]⟩
      obtain ⟨a0, f0, a1, f1, a2, f2, a3, f3, bR⟩ := HI3.rs.store4 (.int .i64 h.c) (.int .u64 h.z) (.int .u64 h.f) (.slice A1 h.l.length c1)
      have hB8 := below_store4 HI3.bel (B := w.heap.size + 1 + 1) (by omega) (.int .i64 h.c) (.int .u64 h.z) (.int .u64 h.f) (.slice A1 h.l.length c1)
      have y0 := bR.cell 0 (by simp)
      have y1 := bR.cell 1 (by simp)
      have y2 := bR.cell 2 (by simp)
      have y3 := bR.cell 3 (by simp)
      have x0 := HI3.hx.cell 0 (by simp)
      have x1 := HI3.hx.cell 1 (by simp)
      have x2 := HI3.hx.cell 2 (by simp)
      have x3 := HI3.hx.cell 3 (by simp)
      dsimp only [List.getElem_cons_zero, List.getElem_cons_succ] at y0 y1 y2 y3 x0 x1 x2 x3
      have HV8 := Lib.hid (vals_store4 HI3.rs (by decide) HI3.row ⟨_, rfl⟩ (.int .i64 h.c) (.int .u64 h.z) (.int .u64 h.f) (.slice A1 h.l.length c1))
      clear HSE2 HSM2 HI3 bR he
      go_wp2
      refine bodyPost_ret (v := .tuple #[encH h A1 c1, .int .i64 1]) ?_ rfl ⟨A1, c1, by rw [HF.out.1, HF.out.2]; rfl, by rw [HF.out.2]; exact HV8.out, by rw [HF.out.2]; exact HN1.out, hB8⟩
      rw [results_ct rfl, encH]
      simp [asAddr, Result.andThen, go_sem, y0, y1, y2, y3]
  · rw [decide_eq_false hp]
    have HF : Hid (se = 1 ∧ sm = h) := Lib.hid ⟨by rw [HSE.out, pI, dif_neg hp], by rw [HSM.out, pI, dif_neg hp]⟩
    obtain ⟨a0, f0, a1, f1, a2, f2, a3, f3, bR⟩ := HI.rs.store4 (.int .i64 h.c) (.int .u64 h.z) (.int .u64 h.f) (.slice A1 h.l.length c1)
    have hB8 := below_store4 HI.bel (B := w.heap.size + 1 + 1) (by omega) (.int .i64 h.c) (.int .u64 h.z) (.int .u64 h.f) (.slice A1 h.l.length c1)
    have y0 := bR.cell 0 (by simp)
    have y1 := bR.cell 1 (by simp)
    have y2 := bR.cell 2 (by simp)
    have y3 := bR.cell 3 (by simp)
    have x0 := HI.hx.cell 0 (by simp)
    have x1 := HI.hx.cell 1 (by simp)
    have x2 := HI.hx.cell 2 (by simp)
    have x3 := HI.hx.cell 3 (by simp)
    dsimp only [List.getElem_cons_zero, List.getElem_cons_succ] at y0 y1 y2 y3 x0 x1 x2 x3
    have HV8 := Lib.hid (vals_store4 HI.rs (by decide) HI.row ⟨_, rfl⟩ (.int .i64 h.c) (.int .u64 h.z) (.int .u64 h.f) (.slice A1 h.l.length c1))
    clear HSE HSM HI bR hp hRt
    go_wp2
    refine bodyPost_ret (v := .tuple #[encH h A1 c1, .int .i64 1]) ?_ rfl ⟨A1, c1, by rw [HF.out.1, HF.out.2]; rfl, by rw [HF.out.2]; exact HV8.out, by rw [HF.out.2]; exact HN1.out, hB8⟩
    rw [results_ct rfl, encH]
    simp [asAddr, Result.andThen, go_sem, y0, y1, y2, y3]
end Go.Proofs.YtjpldfkhacchdaaDoor
