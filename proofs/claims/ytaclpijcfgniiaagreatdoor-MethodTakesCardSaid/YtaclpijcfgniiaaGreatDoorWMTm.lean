/-
  method.Take answers the method that bytes are, in memory of its own, or that there is none; nothing that was there is changed. Conditions: the package num's table of widths holds 1, 2, 4, 8; texts of fewer than 2^62 bytes.
-/
import Derived.Test.YtaclpijcfgniiaaGreatDoorWMTk
import Derived.Test.YtaclpijcfgniiaaGreatDoorMWf
import Derived.Test.YtaclpijcfgniiaaGreatDoorJMB
namespace Go.Proofs.YtaclpijcfgniiaaGreatDoor
open Go.RowKit

theorem tm_wf {s : ByteArray} {m : Me} (h : tm s = some m) : wfM m := by
  obtain ⟨h1, -, h3⟩ := tm_forth h
  obtain ⟨g1, g2, g3⟩ := mE_parts h1
  obtain ⟨f1, -, -, -⟩ := met_facts g1
  exact wf_list (mLs m) m.l (by rw [mLs, ba_len, g2]) f1 h3 g3

/-- what Take answers -/
def TmPost (s : ByteArray) (w : World) (e : Ending) (w' : World) : Prop :=
  (∃ m A cap, tm s = some m ∧ e = .returned (.tuple #[encM m A cap, .int .i64 0]) ∧ ValsAt w' A (rowV m.l) ∧ (A = none → m.l.length = 0 ∧ cap = 0) ∧ Below w.heap.size w w') ∨
  (tm s = none ∧ e = .returned (.tuple #[noneM, .int .i64 7]) ∧ Below w.heap.size w w')
set_option maxRecDepth 100000 in
set_option maxHeartbeats 2000000 in
theorem mTake_any (s : ByteArray) (w : World) (hw : Wid w) (hs : s.size < 4611686018427387904) : Calls Tryz.prog 7 #[.string s] w (TmPost s w) := by
  have hb0 : Below w.heap.size w (w.alloc (.cells #[.int .i64 0, .int .i64 0, .slice none 0 0] 24)) := (Below.refl _ w).alloc (Nat.le_refl _) _
  have hx := Bx.new w 24 [.int .i64 0, .int .i64 0, .slice none 0 0]
  have hT1 := take_any s 2 _ (hw.below hb0)
  have hT2 := fun W hW => take_any (takeR s 2) 2 W hW
  have r1 := takeR_le s 2
  have r2 := takeR_le (takeR s 2) 2
  have HTM : Hid (tm s = if takeE (takeR s 2) 2 = 0 then tmOf (takeV s 2) (takeV (takeR s 2) 2) (takeR (takeR s 2) 2) else none) := Lib.hid rfl
  have v1 := takeV_nonneg s 2
  have v2 := takeV_nonneg (takeR s 2) 2
  have hsm : ∀ s, takeV s 2 < 65536 := fun s => by
    cases g : takeOk s 2
    · rw [takeV, if_neg (by simp [g])]; omega
    · have := takeV_pow g
      have e : (256 : Nat) ^ (2 : Int).toNat = 65536 := by decide
      rw [e] at this
      omega
  have u1 := hsm s
  have u2 := hsm (takeR s 2)
  clear hsm
  generalize takeE s 2 = E1 at hT1
  generalize takeE (takeR s 2) 2 = E2 at hT2 HTM
  generalize takeR (takeR s 2) 2 = R2 at hT2 HTM r2
  generalize takeV (takeR s 2) 2 = V2 at hT2 HTM v2 u2
  generalize takeR s 2 = R1 at hT1 hT2 r1 r2
  generalize takeV s 2 = V1 at hT1 HTM v1 u1
  have w1' : IntKind.i64.wrap V1 = V1 := by simp only [IntKind.wrap_i64]; omega
  have w2' : IntKind.i64.wrap V2 = V2 := by simp only [IntKind.wrap_i64]; omega
  go_enter Tryz.func7, Tryz.ntmps7
  go_wp2_with fail
  refine hT1.mono ?_
  rintro e w1 ⟨rfl, hb1⟩
  have hx1 := hx.kept hb1
  have hB1 := hb0.trans (hb1.mono hb0.size)
  clear hT1 hx hb0 hb1
  go_wp2_with fail
  refine (hT2 w1 (hw.below hB1)).mono ?_
  rintro e w2 ⟨rfl, hb2⟩
  have hx2 := hx1.kept hb2
  have hB2 := hB1.trans (hb2.mono hB1.size)
  clear hT2 hx1 hB1 hb2
  by_cases hE : E2 = 0
  · have HO : Hid (tm s = tmOf V1 V2 R2) := Lib.hid (by rw [HTM.out, if_pos hE])
    subst hE
    clear HTM
    have hOf := of_any V1 V2 w2
    have HU : Hid (tmOf V1 V2 R2 = if sIs V1 V2 = true then (match tk (sOf V1 V2).data.toList R2 with
      | some (l, r) => if r.size = 0 then some ⟨V1, V2, l⟩ else none
      | none => none) else none) := Lib.hid rfl
    have HF : Hid (sIs V1 V2 = true → (∀ x ∈ (sOf V1 V2).data.toList, isLet x = true) ∧ (sOf V1 V2).size ≤ 16) := Lib.hid (fun h => ⟨(met_facts h).1, (met_facts h).2.1⟩)
    generalize sOf V1 V2 = L at hOf HU HF
    generalize hq : sIs V1 V2 = q at hOf HU HF
    clear hq
    go_wp2_with fail
    refine hOf.mono ?_
    rintro e w3 ⟨rfl, hb3⟩
    have hx3 := hx2.kept hb3
    have hB3 := hB2.trans (hb3.mono hB2.size)
    clear hOf hx2 hB2 hb3
    cases q
    · have HN : Hid (tm s = none) := Lib.hid (by rw [HO.out, HU.out]; rfl)
      obtain ⟨a0, f0, a1, f1, a2, f2, bR⟩ := hx3.store3 (.int .i64 0) (.int .i64 0) (.slice none 0 0)
      have hB4 := below_store3 hB3 (B := w.heap.size) (Nat.le_refl _) (.int .i64 0) (.int .i64 0) (.slice none 0 0)
      clear hx3 hB3 HO HU HF
      go_wp2
      have y0 := bR.cell 0 (by simp)
      have y1 := bR.cell 1 (by simp)
      have y2 := bR.cell 2 (by simp)
      dsimp only [List.getElem_cons_zero, List.getElem_cons_succ] at y0 y1 y2
      refine bodyPost_ret (v := .tuple #[noneM, .int .i64 7]) ?_ rfl (.inr ⟨HN.out, rfl, hB4⟩)
      rw [results_cell_tmp rfl]
      simp [asAddr, Result.andThen, go_sem, y0, y1, y2, noneM]
    · obtain ⟨l1, l2⟩ := HF.out rfl
      have hTk := mtake_any L R2 w3 (hw.below hB3) l2 l1 (by omega)
      clear l1 HF
      go_wp2_with fail
      refine hTk.mono ?_
      rintro e w4 (⟨l, r, v, ht, rfl, hrow, hll, hb4⟩ | ⟨x, ht, rfl, hx0, hb4⟩)
      · have hx4 := hx3.kept hb4
        have hB4 := hB3.trans (hb4.mono hB3.size)
        obtain ⟨A, cap, rfl, hV, hA0⟩ := row_form hrow
        have HA := Lib.hid hA0
        have HRow := Lib.hid hrow
        have HT := Lib.hid ht
        have Hll := Lib.hid hll
        clear hTk hx3 hB3 hb4 ht hrow hA0 hV hll
        rcases str_cases r with ⟨rfl, hr⟩ | ⟨tr, hr⟩
        · have HN : Hid (tm s = some ⟨V1, V2, l⟩) := Lib.hid (by rw [HO.out, HU.out, HT.out]; rfl)
          obtain ⟨a0, f0, a1, f1, a2, f2, bR⟩ := hx4.store3 (.int .i64 V1) (.int .i64 V2) (.slice A l.length cap)
          have hB5 := below_store3 hB4 (B := w.heap.size) (Nat.le_refl _) (.int .i64 V1) (.int .i64 V2) (.slice A l.length cap)
          have HV2 : Hid (ValsAt (((w4.setCell ⟨w.heap.size, 0, none⟩ (.int .i64 V1)).setCell ⟨w.heap.size, 1, none⟩ (.int .i64 V2)).setCell ⟨w.heap.size, 2, none⟩ (.slice A l.length cap)) A (rowV l)) := Lib.hid (by
            have k1 : Keeps (fun t => t != 24) w4 (w4.setCell ⟨w.heap.size, 0, none⟩ (.int .i64 V1)) := Keeps.setCell (show w4.heap[w.heap.size]? = _ from hx4) (by decide) 0 _
            have k2 : Keeps (fun t => t != 24) _ ((w4.setCell ⟨w.heap.size, 0, none⟩ (.int .i64 V1)).setCell ⟨w.heap.size, 1, none⟩ (.int .i64 V2)) := Keeps.setCell (show _ = _ from hx4.set 0 (.int .i64 V1)) (by decide) 1 _
            have k3 : Keeps (fun t => t != 24) _ (((w4.setCell ⟨w.heap.size, 0, none⟩ (.int .i64 V1)).setCell ⟨w.heap.size, 1, none⟩ (.int .i64 V2)).setCell ⟨w.heap.size, 2, none⟩ (.slice A l.length cap)) := Keeps.setCell (show _ = _ from (hx4.set 0 (.int .i64 V1)).set 1 (.int .i64 V2)) (by decide) 2 _
            obtain ⟨A', c', e', hV', -⟩ := row_form (((k1.trans k2).trans k3).row HRow.out (by decide))
            cases e'
            exact hV')
          clear hx4 hB4 HO HU hr HT Hll HRow
          go_wp2
          have y0 := bR.cell 0 (by simp)
          have y1 := bR.cell 1 (by simp)
          have y2 := bR.cell 2 (by simp)
          dsimp only [List.getElem_cons_zero, List.getElem_cons_succ] at y0 y1 y2
          refine bodyPost_ret (v := .tuple #[encM ⟨V1, V2, l⟩ A cap, .int .i64 0]) ?_ rfl (.inl ⟨⟨V1, V2, l⟩, A, cap, HN.out, rfl, HV2.out, HA.out, hB5⟩)
          rw [results_cell_tmp rfl]
          simp [asAddr, Result.andThen, go_sem, y0, y1, y2, encM]
        · have HN : Hid (tm s = none) := Lib.hid (by rw [HO.out, HU.out, HT.out]; simp only [if_neg hr]; rfl)
          obtain ⟨a0, f0, a1, f1, a2, f2, bR⟩ := hx4.store3 (.int .i64 0) (.int .i64 0) (.slice none 0 0)
          have hB5 := below_store3 hB4 (B := w.heap.size) (Nat.le_refl _) (.int .i64 0) (.int .i64 0) (.slice none 0 0)
          clear hx4 hB4 HO HU hr HT Hll
          go_wp2
          have y0 := bR.cell 0 (by simp)
          have y1 := bR.cell 1 (by simp)
          have y2 := bR.cell 2 (by simp)
          dsimp only [List.getElem_cons_zero, List.getElem_cons_succ] at y0 y1 y2
          refine bodyPost_ret (v := .tuple #[noneM, .int .i64 7]) ?_ rfl (.inr ⟨HN.out, rfl, hB5⟩)
          rw [results_cell_tmp rfl]
          simp [asAddr, Result.andThen, go_sem, y0, y1, y2, noneM]
      · have hx4 := hx3.kept hb4
        have hB4 := hB3.trans (hb4.mono hB3.size)
        have HN : Hid (tm s = none) := Lib.hid (by rw [HO.out, HU.out, ht]; rfl)
        have tx : (x != 0) = true := by simpa using hx0
        obtain ⟨a0, f0, a1, f1, a2, f2, bR⟩ := hx4.store3 (.int .i64 0) (.int .i64 0) (.slice none 0 0)
        have hB5 := below_store3 hB4 (B := w.heap.size) (Nat.le_refl _) (.int .i64 0) (.int .i64 0) (.slice none 0 0)
        clear hTk hx3 hB3 hb4 ht hx0 hx4 hB4 HO HU
        go_wp2
        have y0 := bR.cell 0 (by simp)
        have y1 := bR.cell 1 (by simp)
        have y2 := bR.cell 2 (by simp)
        dsimp only [List.getElem_cons_zero, List.getElem_cons_succ] at y0 y1 y2
        refine bodyPost_ret (v := .tuple #[noneM, .int .i64 7]) ?_ rfl (.inr ⟨HN.out, rfl, hB5⟩)
        rw [results_cell_tmp rfl]
        simp [asAddr, Result.andThen, go_sem, y0, y1, y2, noneM]
  · have tE : (E2 != 0) = true := by simpa using hE
    have HN : Hid (tm s = none) := Lib.hid (by rw [HTM.out, if_neg hE])
    obtain ⟨a0, f0, a1, f1, a2, f2, bR⟩ := hx2.store3 (.int .i64 0) (.int .i64 0) (.slice none 0 0)
    have hB4 := below_store3 hB2 (B := w.heap.size) (Nat.le_refl _) (.int .i64 0) (.int .i64 0) (.slice none 0 0)
    clear hx2 hB2 HTM hE
    go_wp2
    have y0 := bR.cell 0 (by simp)
    have y1 := bR.cell 1 (by simp)
    have y2 := bR.cell 2 (by simp)
    dsimp only [List.getElem_cons_zero, List.getElem_cons_succ] at y0 y1 y2
    refine bodyPost_ret (v := .tuple #[noneM, .int .i64 7]) ?_ rfl (.inr ⟨HN.out, rfl, hB4⟩)
    rw [results_cell_tmp rfl]
    simp [asAddr, Result.andThen, go_sem, y0, y1, y2, noneM]
end Go.Proofs.YtaclpijcfgniiaaGreatDoor
