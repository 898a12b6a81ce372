/-
  props.Take answers the head that bytes are, its values in memory of its own, or why there is none; nothing that was there is changed. Conditions: the package num's table of widths holds 1, 2, 4, 8; texts of fewer than 2^62 bytes.
-/
import Derived.Test.YtjpldfkhacchdaaDoorWPAll
namespace Go.Proofs.YtjpldfkhacchdaaDoor
open Go.RowKit

def noneH : Value := .agg #[.int .i64 0, .int .u64 0, .int .u64 0, .slice none 0 0]
/-- what Take answers -/
def TpPost (s : ByteArray) (w : World) (e : Ending) (w' : World) : Prop :=
  (tpErr s = 0 ∧ ∃ A cap, e = .returned (.tuple #[encH (tpH s) A cap, .int .i64 0]) ∧ ValsAt w' A (rowV (tpH s).l) ∧ (A = none → (tpH s).l.length = 0 ∧ cap = 0) ∧ Below w.heap.size w w') ∨
  (¬ tpErr s = 0 ∧ e = .returned (.tuple #[noneH, .int .i64 (tpErr s)]) ∧ Below w.heap.size w w')
theorem results_ct {fn : Func} {p t : Tmp} {ty : TypeId} (h : fn.results = #[.cell p ty, .tmp t]) (tmps : Array Value) (P : Program) (w : World) :
    (results fn tmps).run P w = ((asAddr (tmps.getD p undef)).run P w).andThen fun a w₁ => ((loadVar ty a).run P w₁).andThen fun v w₂ => .ok (.tuple #[v, tmps.getD t undef]) w₂ := by
  simp only [results, h]
  simp [Sem.run_bind, Result.andThen]
theorem Bx.store4 {W : World} {B : Nat} {t : TypeId} {a b c d : Value} (h : Bx W B t [a, b, c, d]) (a' b' c' d' : Value) :
    W.cell? ⟨B, 0, none⟩ = some a ∧ W.frozen? ⟨B, 0, none⟩ = false ∧
    (W.setCell ⟨B, 0, none⟩ a').cell? ⟨B, 1, none⟩ = some b ∧ (W.setCell ⟨B, 0, none⟩ a').frozen? ⟨B, 1, none⟩ = false ∧
    ((W.setCell ⟨B, 0, none⟩ a').setCell ⟨B, 1, none⟩ b').cell? ⟨B, 2, none⟩ = some c ∧ ((W.setCell ⟨B, 0, none⟩ a').setCell ⟨B, 1, none⟩ b').frozen? ⟨B, 2, none⟩ = false ∧
    (((W.setCell ⟨B, 0, none⟩ a').setCell ⟨B, 1, none⟩ b').setCell ⟨B, 2, none⟩ c').cell? ⟨B, 3, none⟩ = some d ∧ (((W.setCell ⟨B, 0, none⟩ a').setCell ⟨B, 1, none⟩ b').setCell ⟨B, 2, none⟩ c').frozen? ⟨B, 3, none⟩ = false ∧
    Bx ((((W.setCell ⟨B, 0, none⟩ a').setCell ⟨B, 1, none⟩ b').setCell ⟨B, 2, none⟩ c').setCell ⟨B, 3, none⟩ d') B t [a', b', c', d'] :=
  ⟨h.cell 0 (by simp), h.frozen 0, (h.set 0 a').cell 1 (by simp), (h.set 0 a').frozen 1, ((h.set 0 a').set 1 b').cell 2 (by simp), ((h.set 0 a').set 1 b').frozen 2, (((h.set 0 a').set 1 b').set 2 c').cell 3 (by simp), (((h.set 0 a').set 1 b').set 2 c').frozen 3, (((h.set 0 a').set 1 b').set 2 c').set 3 d'⟩
theorem below_store4 {n B : Nat} {w W : World} (h : Below n w W) (hn : n ≤ B) (a b c d : Value) : Below n w ((((W.setCell ⟨B, 0, none⟩ a).setCell ⟨B, 1, none⟩ b).setCell ⟨B, 2, none⟩ c).setCell ⟨B, 3, none⟩ d) :=
  (((h.setCell (p := ⟨B, 0, none⟩) hn a).setCell (p := ⟨B, 1, none⟩) hn b).setCell (p := ⟨B, 2, none⟩) hn c).setCell (p := ⟨B, 3, none⟩) hn d
/-- values stay where another block is written -/
theorem vals_store4 {W : World} {B : Nat} {t : TypeId} {l vs : List Value} {A : Option Addr} {base n : Nat} {v : Value} (hB : Bx W B t l) (hte : t ≠ 40) (h : W.ownsRow base 40 2 v n vs) (hA : ∃ c, v = .slice A n c) (a b c d : Value) : ValsAt ((((W.setCell ⟨B, 0, none⟩ a).setCell ⟨B, 1, none⟩ b).setCell ⟨B, 2, none⟩ c).setCell ⟨B, 3, none⟩ d) A vs := by
  have hp : (fun x => x == 40) t = false := by simpa using hte
  have k := ((Keeps.setCell (p := fun x => x == 40) hB hp 0 a).trans (Keeps.setCell (hB.set 0 a) hp 1 b)).trans ((Keeps.setCell ((hB.set 0 a).set 1 b) hp 2 c).trans (Keeps.setCell (((hB.set 0 a).set 1 b).set 2 c) hp 3 d))
  obtain ⟨A', c', e, h1, -⟩ := row_form (k.row h rfl)
  obtain ⟨c'', e'⟩ := hA
  rw [e'] at e
  cases e
  exact h1

set_option maxRecDepth 100000 in
set_option maxHeartbeats 2000000 in
theorem pTake_any (s : ByteArray) (w : World) (hw : Wid w) (hs : s.size < 4611686018427387904) : Calls Tryd.prog 12 #[.string s] w (TpPost s w) := by
  have hb0 : Below w.heap.size w (w.alloc (.cells #[.int .i64 0, .int .u64 0, .int .u64 0, .slice none 0 0] 25)) := (Below.refl _ w).alloc (Nat.le_refl _) _
  have hx := Bx.new w 25 [.int .i64 0, .int .u64 0, .int .u64 0, .slice none 0 0]
  have hT1 := take_any s 2 _ (hw.below hb0)
  have hT2 := fun W hW => take_any (tpR1 s) 2 W hW
  have hT3 := fun W hW => take_any (tpR2 s) 8 W hW
  have hT4 := fun W hW => take_any (tpR3 s) 2 W hW
  have hsz : (tpR4 s).size < 4611686018427387904 := by
    have r1 := takeR_le s 2
    have r2 := takeR_le (tpR1 s) 2
    have r3 := takeR_le (tpR2 s) 8
    have r4 := takeR_le (tpR3 s) 2
    unfold tpR4 tpR3 tpR2 tpR1 at *
    omega
  have hf0 : 0 ≤ tpF s := takeV_nonneg (tpR3 s) 2
  have hf1 : tpF s < 18446744073709551616 := takeV_lt (tpR3 s) 2
  have hTA := fun W hW => takeAll_any (tpF s) (tpR4 s) W hW hf0 hf1 hsz
  have hc : IntKind.i64.wrap (takeV s 2) = takeV s 2 := by
    have h0 := takeV_nonneg s 2
    have h1 : takeV s 2 < 65536 := by
      cases g : takeOk s 2
      · rw [takeV, if_neg (by simp [g])]; omega
      · have := takeV_pow g
        have e : (256 : Nat) ^ (2 : Int).toNat = 65536 := by decide
        rw [e] at this
        omega
    simp only [IntKind.wrap_i64]
    omega
  have HTP : Hid (tpErr s = if takeE (tpR3 s) 2 = 0 then (if tkE (hLs (tpF s)) (tpR4 s) = 0 ∧ takeV (tpR1 s) 2 = 0 ∧ (tkR (hLs (tpF s)) (tpR4 s)).size = 0 then shE (tpH s) else 7) else 7) := Lib.hid rfl
  have HL : Hid ((hLs (tpF s)).length = (tpH s).l.length) := Lib.hid (tkVs_length _ _).symm
  have hSh : tkE (hLs (tpF s)) (tpR4 s) = 0 → ∀ A cap W, _ := fun hk A cap W => shape_any (tpH s) A cap W (tp_wf hk)
  have e1 : takeR s 2 = tpR1 s := rfl
  have e2 : takeR (tpR1 s) 2 = tpR2 s := rfl
  have e3 : takeR (tpR2 s) 8 = tpR3 s := rfl
  have e4 : takeR (tpR3 s) 2 = tpR4 s := rfl
  have e5 : takeV (tpR3 s) 2 = tpF s := rfl
  rw [e1] at hT1
  rw [e2] at hT2
  rw [e3] at hT3
  rw [e4, e5] at hT4
  clear e1 e2 e3 e4 e5
  have HH : Hid (tpH s = ⟨takeV s 2, takeV (tpR2 s) 8, tpF s, tkVs (hLs (tpF s)) (tpR4 s)⟩) := Lib.hid rfl
  have HHv : Hid (tpH s = tpH s) := Lib.hid rfl
  unfold encH at hSh
  have hc1 : (tpH s).c = takeV s 2 := rfl
  have hc2 : (tpH s).z = takeV (tpR2 s) 8 := rfl
  have hc3 : (tpH s).f = tpF s := rfl
  have hc4 : (tpH s).l = tkVs (hLs (tpF s)) (tpR4 s) := rfl
  rw [hc1, hc2, hc3] at hSh
  have HC : Hid ((tpH s).c = takeV s 2 ∧ (tpH s).z = takeV (tpR2 s) 8 ∧ (tpH s).f = tpF s ∧ (tpH s).l = tkVs (hLs (tpF s)) (tpR4 s)) := Lib.hid ⟨rfl, rfl, rfl, rfl⟩
  clear hc1 hc2 hc3 hc4 HHv HH
  unfold TpPost
  generalize tpH s = h at *
  generalize tpErr s = er at *
  generalize takeV s 2 = cv at *
  generalize takeE s 2 = x1 at *
  generalize takeV (tpR1 s) 2 = zv at *
  generalize takeE (tpR1 s) 2 = x2 at *
  generalize takeV (tpR2 s) 8 = sv at *
  generalize takeE (tpR2 s) 8 = x3 at *
  generalize takeE (tpR3 s) 2 = x4 at *
  generalize tpF s = fv at *
  generalize tpR1 s = r1 at *
  generalize tpR2 s = r2 at *
  generalize tpR3 s = r3 at *
  generalize tpR4 s = r4 at *
  go_enter Tryd.func12, Tryd.ntmps12
  go_wp2_with fail
  refine hT1.mono ?_
  rintro e w1 ⟨rfl, hb1⟩
  have hB1 := hb0.trans (hb1.mono hb0.size)
  have hx1 := hx.kept hb1
  clear hT1 hx hb1 hb0
  go_wp2_with fail
  refine (hT2 w1 (hw.below hB1)).mono ?_
  rintro e w2 ⟨rfl, hb2⟩
  have hB2 := hB1.trans (hb2.mono hB1.size)
  have hx2 := hx1.kept hb2
  clear hT2 hx1 hb2 hB1
  go_wp2_with fail
  refine (hT3 w2 (hw.below hB2)).mono ?_
  rintro e w3 ⟨rfl, hb3⟩
  have hB3 := hB2.trans (hb3.mono hB2.size)
  have hx3 := hx2.kept hb3
  clear hT3 hx2 hb3 hB2
  go_wp2_with fail
  refine (hT4 w3 (hw.below hB3)).mono ?_
  rintro e w4 ⟨rfl, hb4⟩
  have hB4 := hB3.trans (hb4.mono hB3.size)
  have hx4 := hx3.kept hb4
  clear hT4 hx3 hb4 hB3
  have fin : ∀ (W : World), Below w.heap.size w W → Bx W w.heap.size 25 [.int .i64 0, .int .u64 0, .int .u64 0, .slice none 0 0] → (W.cell? ⟨w.heap.size, 0, none⟩ = some (.int .i64 0) ∧ W.frozen? ⟨w.heap.size, 0, none⟩ = false ∧ (W.setCell ⟨w.heap.size, 0, none⟩ (.int .i64 0)).cell? ⟨w.heap.size, 1, none⟩ = some (.int .u64 0) ∧ (W.setCell ⟨w.heap.size, 0, none⟩ (.int .i64 0)).frozen? ⟨w.heap.size, 1, none⟩ = false ∧ _) := fun W _ h => h.store4 (.int .i64 0) (.int .u64 0) (.int .u64 0) (.slice none 0 0)
  by_cases hx0 : x4 = 0
  · subst hx0
    go_wp2_with fail
    refine (hTA w4 (hw.below hB4)).mono ?_
    rintro e w5 ⟨hyes, hno, hb5⟩
    have hB5 := hB4.trans (hb5.mono hB4.size)
    have hx5 := hx4.kept hb5
    clear hTA hx4 hb5
    obtain ⟨a0, f0, a1, f1, a2, f2, a3, f3, bR⟩ := fin w5 hB5 hx5
    have hB6 := below_store4 hB5 (B := w.heap.size) (Nat.le_refl _) (.int .i64 0) (.int .u64 0) (.int .u64 0) (.slice none 0 0)
    have y0 := bR.cell 0 (by simp)
    have y1 := bR.cell 1 (by simp)
    have y2 := bR.cell 2 (by simp)
    have y3 := bR.cell 3 (by simp)
    dsimp only [List.getElem_cons_zero, List.getElem_cons_succ] at y0 y1 y2 y3
    by_cases hk : tkE (hLs fv) r4 = 0
    · obtain ⟨v, rfl, hrow⟩ := hyes hk
      have hSh' := hSh hk
      obtain ⟨A, cc, rfl, hV, hn⟩ := row_form hrow
      clear hSh hyes hno
      rw [HL.out] at hrow hn ⊢
      by_cases hz : zv = 0
      · subst hz
        by_cases hr : (tkR (hLs fv) r4).size = 0
        · have HF : Hid (er = shE h) := Lib.hid (by rw [HTP.out]; simp [hk, hr])
          rw [ba_empty hr]
          have hy := Bx.new w5 25 [.int .i64 cv, .int .u64 sv, .int .u64 fv, .slice A h.l.length cc]
          have hx6 := hx5.alloc (.cells #[.int .i64 cv, .int .u64 sv, .int .u64 fv, .slice A h.l.length cc] 25)
          have hB6' := hB5.alloc hB5.size (.cells #[.int .i64 cv, .int .u64 sv, .int .u64 fv, .slice A h.l.length cc] 25)
          have hrow6 := hrow.alloc (.cells #[.int .i64 cv, .int .u64 sv, .int .u64 fv, .slice A h.l.length cc] 25)
          clear HTP hr hk a0 f0 a1 f1 a2 f2 a3 f3 bR hB6 y0 y1 y2 y3 hV hrow hB5 hx5
          go_wp2_with fail
          refine (hSh' A cc _).mono ?_
          rintro e w7 ⟨rfl, hb7⟩
          have hx7 := hx6.kept hb7
          have hy7 := hy.kept hb7
          have hB7 := hB6'.trans (hb7.mono hB6'.size)
          have hrow7 := rowKept hrow6 hb7
          have z0 := hy7.cell 0 (by simp)
          have z1 := hy7.cell 1 (by simp)
          have z2 := hy7.cell 2 (by simp)
          have z3 := hy7.cell 3 (by simp)
          dsimp only [List.getElem_cons_zero, List.getElem_cons_succ] at z0 z1 z2 z3
          clear hSh' hx6 hy hb7 hB6' hrow6
          by_cases hs0 : shE h = 0
          · rw [hs0]
            have HF0 : Hid (er = 0) := Lib.hid (by rw [HF.out, hs0])
            obtain ⟨a0, f0, a1, f1, a2, f2, a3, f3, bR⟩ := hx7.store4 (.int .i64 cv) (.int .u64 sv) (.int .u64 fv) (.slice A h.l.length cc)
            have hB8 := below_store4 hB7 (B := w.heap.size) (Nat.le_refl _) (.int .i64 cv) (.int .u64 sv) (.int .u64 fv) (.slice A h.l.length cc)
            have hV8 := vals_store4 hx7 (by decide) hrow7 ⟨cc, rfl⟩ (.int .i64 cv) (.int .u64 sv) (.int .u64 fv) (.slice A h.l.length cc)
            have HV8 := Lib.hid hV8
            have y0 := bR.cell 0 (by simp)
            have y1 := bR.cell 1 (by simp)
            have y2 := bR.cell 2 (by simp)
            have y3 := bR.cell 3 (by simp)
            dsimp only [List.getElem_cons_zero, List.getElem_cons_succ] at y0 y1 y2 y3
            clear hV8 hrow7 hB7 bR HF hs0
            go_wp2
            refine bodyPost_ret (v := .tuple #[encH h A cc, .int .i64 0]) ?_ rfl (.inl ⟨HF0.out, A, cc, rfl, by have hv := HV8.out; rw [← HC.out.2.2.2] at hv; exact hv, hn, hB8⟩)
            rw [results_ct rfl, encH, HC.out.1, HC.out.2.1, HC.out.2.2.1]
            simp [asAddr, Result.andThen, go_sem, y0, y1, y2, y3]
          · have ts : (shE h != 0) = true := by simpa using hs0
            obtain ⟨a0, f0, a1, f1, a2, f2, a3, f3, bR⟩ := fin w7 hB7 hx7
            have hB8 := below_store4 hB7 (B := w.heap.size) (Nat.le_refl _) (.int .i64 0) (.int .u64 0) (.int .u64 0) (.slice none 0 0)
            have y0 := bR.cell 0 (by simp)
            have y1 := bR.cell 1 (by simp)
            have y2 := bR.cell 2 (by simp)
            have y3 := bR.cell 3 (by simp)
            dsimp only [List.getElem_cons_zero, List.getElem_cons_succ] at y0 y1 y2 y3
            clear hrow7 hB7 bR
            go_wp2
            refine bodyPost_ret (v := .tuple #[noneH, .int .i64 (shE h)]) ?_ rfl (.inr ⟨by rw [HF.out]; exact hs0, by rw [HF.out], hB8⟩)
            rw [results_ct rfl]
            simp [asAddr, Result.andThen, go_sem, y0, y1, y2, y3, noneH]
        · have HF : Hid (er = 7) := Lib.hid (by rw [HTP.out]; simp only [hr, and_false, if_false, if_true])
          have tr := ba_ne hr
          generalize tkR (hLs fv) r4 = rr at *
          clear HTP hr hk hSh'
          go_wp2
          refine bodyPost_ret (v := .tuple #[noneH, .int .i64 7]) ?_ rfl (.inr ⟨by rw [HF.out]; decide, by rw [HF.out], hB6⟩)
          rw [results_ct rfl]
          simp [asAddr, Result.andThen, go_sem, y0, y1, y2, y3, noneH]
      · have HF : Hid (er = 7) := Lib.hid (by rw [HTP.out]; simp only [hz, and_false, false_and, if_false, if_true])
        have tz : (zv != 0) = true := by simpa using hz
        generalize tkR (hLs fv) r4 = rr at *
        clear HTP hz hk hSh'
        go_wp2
        refine bodyPost_ret (v := .tuple #[noneH, .int .i64 7]) ?_ rfl (.inr ⟨by rw [HF.out]; decide, by rw [HF.out], hB6⟩)
        rw [results_ct rfl]
        simp [asAddr, Result.andThen, go_sem, y0, y1, y2, y3, noneH]
    · have he := hno hk
      subst he
      have HF : Hid (er = 7) := Lib.hid (by rw [HTP.out]; simp only [hk, false_and, if_false, if_true])
      have t1 : (tkE (hLs fv) r4 != 0) = true := by simpa using hk
      generalize tkE (hLs fv) r4 = ke at *
      clear hyes hno hSh HTP hk
      go_wp2
      refine bodyPost_ret (v := .tuple #[noneH, .int .i64 7]) ?_ rfl (.inr ⟨by rw [HF.out]; decide, by rw [HF.out], hB6⟩)
      rw [results_ct rfl]
      simp [asAddr, Result.andThen, go_sem, y0, y1, y2, y3, noneH]
  · have HF : Hid (er = 7) := Lib.hid (by rw [HTP.out, if_neg hx0])
    have t4 : (x4 != 0) = true := by simpa using hx0
    clear HTP hx0 hTA hSh
    obtain ⟨a0, f0, a1, f1, a2, f2, a3, f3, bR⟩ := fin w4 hB4 hx4
    have hB6 := below_store4 hB4 (B := w.heap.size) (Nat.le_refl _) (.int .i64 0) (.int .u64 0) (.int .u64 0) (.slice none 0 0)
    have y0 := bR.cell 0 (by simp)
    have y1 := bR.cell 1 (by simp)
    have y2 := bR.cell 2 (by simp)
    have y3 := bR.cell 3 (by simp)
    dsimp only [List.getElem_cons_zero, List.getElem_cons_succ] at y0 y1 y2 y3
    go_wp2
    refine bodyPost_ret (v := .tuple #[noneH, .int .i64 7]) ?_ rfl (.inr ⟨by rw [HF.out]; decide, by rw [HF.out], hB6⟩)
    rw [results_ct rfl]
    simp [asAddr, Result.andThen, go_sem, y0, y1, y2, y3, noneH]
end Go.Proofs.YtjpldfkhacchdaaDoor
