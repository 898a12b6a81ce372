/-
  Several texts joined in one file: each says at its own head, below, what it proves, and its conditions.
-/
import Derived.Laws.BytesArg
import Derived.Deep.RegionHeld3
import Derived.Test.YtkdiccedkjbpeaaGreatDoorRJSig
import Derived.Test.YtkdiccedkjbpeaaGreatDoorRJMem
import Derived.Test.YtkdiccedkjbpeaaGreatDoorRJWSig
/-
  The document's own list of methods is that of the table; nothing that was there is changed. No condition.
-/
namespace Go.Proofs.YtkdiccedkjbpeaaGreatDoorR
open Go.RowKit

/-- a row of the document's list, cell by cell -/
def cellsRw (m : Met) : List Value := [.int .i64 m.c, .int .i64 m.i, .int .u8 (sideI m.s), .string m.v]
def rowRw (l : List Met) : List Value := l.flatMap cellsRw
theorem rowRw_snoc (l : List Met) (m : Met) : rowRw (l ++ [m]) = rowRw l ++ cellsRw m := by simp [rowRw]
theorem infoRw : (Tryz.prog.info? 96).map (fun i => (i.zero, i.size, i.bytes)) = some (some (.agg #[.int .i64 0, .int .i64 0, .int .u8 0, .string ⟨#[]⟩]), 4, 40) := by kernel_rfl
theorem info_parts4 {P : Program} {t : TypeId} {z : Option Value} {a b : Nat} (h : (P.info? t).map (fun i => (i.zero, i.size, i.bytes)) = some (z, a, b)) : ∃ i, P.info? t = some i ∧ i.zero = z ∧ i.size = a ∧ i.bytes = b := by
  obtain ⟨i, hi, he⟩ := Option.map_eq_some_iff.1 h
  simp only [Prod.mk.injEq] at he
  exact ⟨i, hi, he.1, he.2.1, he.2.2⟩
theorem cell_four_new (w : World) (x y z u : Value) (t : TypeId) : ∀ j v, [x, y, z, u][j]? = some v → (w.alloc (.cells #[x, y, z, u] t)).cell? ((⟨w.heap.size, 0, none⟩ : Addr).add j) = some v := by
  intro j v hj
  match j, hj with
  | 0, hj => simp at hj; subst hj; simp [Addr.add]
  | 1, hj => simp at hj; subst hj; simp [Addr.add]
  | 2, hj => simp at hj; subst hj; simp [Addr.add]
  | 3, hj => simp at hj; subst hj; simp [Addr.add]
theorem conv_cell (W : World) (g : Nat) (a : Int) (h : W.cell? ⟨g, 0, none⟩ = some (.int .u8 a)) :
    (convert 111 9 (.slice (some ⟨g, 0, none⟩) 1 1)).run Tryz.prog W = .ok (.string ⟨#[UInt8.ofNat a.toNat]⟩) W := by
  refine run_convert_bytes_arg (P := Tryz.prog) _ 111 5 Tryz.underlying111 Tryz.underlying5 g 0 1 1 [a] rfl (fun i hi => ?_) 9 Tryz.underlying9
  obtain rfl : i = 0 := by simpa using hi
  exact h
theorem conv_drew (w : World) (a : Int) : (convert 111 9 (.slice (some ⟨w.heap.size, 0, none⟩) 1 1)).run Tryz.prog (w.alloc (.cells #[.int .u8 a] 5)).drew = .ok (.string ⟨#[UInt8.ofNat a.toNat]⟩) (w.alloc (.cells #[.int .u8 a] 5)).drew :=
  conv_cell _ _ a (by show (w.alloc (.cells #[.int .u8 a] 5)).cell? _ = _; rw [World.cell?_alloc_new]; rfl)

set_option maxRecDepth 100000 in
set_option maxHeartbeats 4000000 in
theorem rall_any (w : World) :
    Calls Tryz.prog 65 #[] w fun e w' => ∃ v, e = .returned v ∧ w'.ownsRow w.heap.size 96 4 v 58 (rowRw mets) ∧ Below w.heap.size w w' := by
  have hcv := conv_drew
  obtain ⟨i0, hi, hz0, hz1, hz2⟩ := info_parts4 infoRw
  go_enter Tryz.func65, Tryz.ntmps65
  generalize hT : (ByteArray.mk (List.toArray (List.append _ _))) = T
  have hTr : T = refText := hT.symm.trans (by kernel_rfl)
  have hTs : T.size = 384 := by rw [hTr, refText_size]
  have hB : ∀ k (h : k < T.size), ((T[k]'h).toNat : Int) = refI k := by subst hTr; exact fun k h => by rw [refText_at, refI]
  clear hT hTr
  go_wp2_with fail
  go_loopw [1, 2, 3] (fun o c i wr => ∃ (j : Nat) (t : RTok), Hid (j ≤ 65 ∧ rtoks[j]? = some t) ∧ c = .int .i64 t.c ∧ i = .int .i64 (t.p : Int) ∧ wr.ownsRow w.heap.size 96 4 o t.r (rowRw (mets.take t.r)) ∧ Below w.heap.size w wr) (fun _ _ i _ => 384 - (intOf i).toNat)
  case atStart => exact ⟨0, _, Lib.hid ⟨by omega, rtoks_first⟩, rfl, rfl, World.ownsRow_nil _ _ _ _, Below.refl _ _⟩
  case round =>
    obtain ⟨j, t, HJ, rfl, rfl, hown, hb⟩ := hrel
    by_cases hj : j < 65
    · obtain ⟨u, HU, hst⟩ : ∃ u, Hid (j + 1 ≤ 65 ∧ rtoks[j + 1]? = some u) ∧ RStep t u := by
        have h1 := rstep_at j hj
        have h2 := HJ.out.2
        rw [List.getElem?_eq_getElem (by rw [rtoks_length]; omega)] at h2
        rw [Option.some.inj h2] at h1
        exact ⟨_, Lib.hid ⟨hj, List.getElem?_eq_getElem (by rw [rtoks_length]; omega)⟩, h1⟩
      clear HJ hj
      obtain ⟨p, q, e, c0, r, cl⟩ := t
      obtain ⟨⟨hpq, hq⟩, hdig, hnd, hcl, hrow⟩ := hst
      dsimp only at hpq hq hdig hnd hcl hrow hown ⊢
      have hp : p < 384 := by omega
      have HC := Lib.hid hcl
      have HR := Lib.hid hrow
      have HN := Lib.hid hnd
      have HD := Lib.hid hdig
      clear hcl hrow hnd hdig
      go_wp2_with fail
      go_loop [3, 4] (fun i n => ∃ x k : Nat, Hid (x = p + k) ∧ x ≤ q ∧ i = .int .i64 (x : Int) ∧ n = .int .i64 (valTo p k)) (fun i _ => 384 - (intOf i).toNat)
      case atStart => exact ⟨p, 0, Lib.hid rfl, hpq, rfl, rfl⟩
      case round =>
        obtain ⟨x, k, HX, hxq, rfl, rfl⟩ := hrel
        have hxT : x < T.size := by omega
        have hBx := hB x hxT
        have hx384 : x < 384 := by omega
        by_cases hlt : x < q
        · obtain ⟨d0, d1, v0, v1⟩ := HD.out k (by have := HX.out; omega)
          have HV : Hid (valTo p (k + 1) = 10 * valTo p k + (refI x - 48)) := Lib.hid (by rw [HX.out]; rfl)
          have HX1 : Hid (x + 1 = p + (k + 1)) := Lib.hid (by have := HX.out; omega)
          rw [← HX.out] at d0 d1
          generalize valTo p k = v at v0 v1 HV
          generalize refI x = d at hBx d0 d1 HV
          have e1 : IntKind.i64.wrap (10 * v) = 10 * v := by simp only [IntKind.wrap_i64]; omega
          have e2 : IntKind.u8.wrap (d - 48) = d - 48 := by simp only [IntKind.wrap_u8]; omega
          have e3 : IntKind.i64.wrap (d - 48) = d - 48 := by simp only [IntKind.wrap_i64]; omega
          have e4 : IntKind.i64.wrap (10 * v + (d - 48)) = 10 * v + (d - 48) := by simp only [IntKind.wrap_i64]; omega
          have e5 : IntKind.i64.wrap ((x : Int) + 1) = ((x + 1 : Nat) : Int) := by simp only [IntKind.wrap_i64]; omega
          clear HC HR HN HD hB HX hcv
          go_wp2
          exact ⟨⟨x + 1, k + 1, HX1, by omega, rfl, by rw [HV.out]⟩, by simp only [intOf]; omega⟩
        · obtain rfl : x = q := by omega
          have HK : Hid (valTo p k = valTo p (x - p)) := Lib.hid (by have := HX.out; congr 1; omega)
          have hnd := HN.out
          generalize hvk : valTo p k = v at HK
          clear hvk HX HN HD
          have e5 : IntKind.i64.wrap ((x : Int) + 1) = ((x + 1 : Nat) : Int) := by simp only [IntKind.wrap_i64]; omega
          cases cl
          · obtain ⟨g1, g2, g3, g4, g5, g6, g7, g8, g9, g10, g11, g12, g13⟩ := HR.out rfl
            have HG : Hid (u.c = c0 ∧ u.p = e + 1 ∧ u.r = r + 1) := Lib.hid ⟨g7, g6, g8⟩
            have HM : Hid (mets.take (r + 1) = mets.take r ++ [mets.getD r noMet] ∧ cellsRw (mets.getD r noMet) = [.int .i64 c0, .int .i64 v, .int .u8 (refI x), .string (sigTo x (e - (x + 1)))]) := Lib.hid ⟨by
              rw [List.take_add_one, List.getD_eq_getElem?_getD, List.getElem?_eq_getElem (by rw [show mets.length = 58 from rfl]; exact g9)]; rfl, by rw [cellsRw, g10, g11, g12, g13, HK.out]⟩
            have HL := Lib.hid g4
            have HE := Lib.hid g5
            have t1 : (refI x == 58) = false := by simpa using g1
            have t2 : 48 ≤ refI x := by omega
            generalize hd : refI x = d at hBx hnd t1 t2 HM
            have HB := Lib.hid hB
            clear HC HR g1 g4 g5 g6 g7 g8 g10 g11 g12 g13 hd hB
            obtain ⟨w1, rfl⟩ : ∃ w1, w1 = wr := ⟨wr, rfl⟩
            have hbx := Bx.new w1 96 [.int .i64 c0, .int .i64 v, .int .u8 d, .string ⟨#[]⟩]
            have hbb : Below w1.heap.size w1 (w1.alloc (.cells #[.int .i64 c0, .int .i64 v, .int .u8 d, .string ⟨#[]⟩] 96)) := (Below.refl _ _).alloc (Nat.le_refl _) _
            go_wp2
            generalize w1.alloc (.cells #[.int .i64 c0, .int .i64 v, .int .u8 d, .string ⟨#[]⟩] 96) = w2 at hbx hbb
            have hS0 : (⟨#[]⟩ : ByteArray) = sigTo x 0 := by rw [sigTo, List.take_zero]
            rw [hS0] at hbx
            clear hS0
            go_loopw [3] (fun i w3 => ∃ y k : Nat, Hid (y = x + 1 + k) ∧ y ≤ e ∧ i = .int .i64 (y : Int) ∧ Bx w3 w1.heap.size 96 [.int .i64 c0, .int .i64 v, .int .u8 d, .string (sigTo x k)] ∧ Below w1.heap.size w1 w3) (fun i _ => 384 - (intOf i).toNat)
            case atStart => exact ⟨x + 1, 0, Lib.hid rfl, g2, rfl, hbx, hbb⟩
            case round =>
              obtain ⟨y, k, HX, hye, rfl, hbx3, hb3⟩ := hrel
              have hyT : y < T.size := by omega
              have hBy := HB.out y hyT
              have hy384 : y < 384 := by omega
              have e6 : IntKind.i64.wrap ((y : Int) + 1) = ((y + 1 : Nat) : Int) := by simp only [IntKind.wrap_i64]; omega
              by_cases hlt2 : y < e
              · obtain ⟨d1, d2⟩ := HL.out k (by have := HX.out; omega)
                rw [← HX.out] at d1 d2
                have t3 : (refI y != 44) = true := by simpa using d1
                have t4 : (refI y != 59) = true := by simpa using d2
                have HS : Hid (sigTo x (k + 1) = sigTo x k ++ ⟨#[UInt8.ofNat (refI y).toNat]⟩) := Lib.hid (by
                  rw [sigTo_succ x k (by have := HX.out; omega), ← HX.out, refI]
                  simp)
                have hsz := sigTo_size x k
                have HX1 : Hid (y + 1 = x + 1 + (k + 1)) := Lib.hid (by have := HX.out; omega)
                have hk384 : k ≤ 384 := by have := HX.out; omega
                obtain ⟨r0, r1⟩ := refI_le y
                generalize refI y = b at hBy t3 t4 HS r0 r1
                clear HL HE HM HG d1 d2 HX HB hbx hbb hown t1 t2 hnd hBx
                generalize sigTo x k = sg at hbx3 HS hsz
                have x3 := hbx3.cell 3 (by simp)
                dsimp only [List.getElem_cons_zero, List.getElem_cons_succ] at x3
                have f3 := hbx3.frozen 3
                have hss : ∀ w', (Op.stringOp .add sg ⟨#[UInt8.ofNat b.toNat]⟩).run Tryz.prog w' = .ok (.string (sg ++ ⟨#[UInt8.ofNat b.toNat]⟩)) w' := fun w' => run_string_add_sum w' sg ⟨#[UInt8.ofNat b.toNat]⟩ (by have : (⟨#[UInt8.ofNat b.toNat]⟩ : ByteArray).size = 1 := rfl; omega)
                have kp : ∀ w', Below wr.heap.size wr w' → w'.cell? ⟨w1.heap.size, 3, none⟩ = some (.string sg) ∧ w'.frozen? ⟨w1.heap.size, 3, none⟩ = false := fun w' h => ⟨(hbx3.kept h).cell 3 (by simp), (hbx3.kept h).frozen 3⟩
                have kp2 : ∀ o, (wr.alloc o).drew.cell? ⟨w1.heap.size, 3, none⟩ = some (.string sg) ∧ (wr.alloc o).drew.frozen? ⟨w1.heap.size, 3, none⟩ = false := fun o => kp _ (((Below.refl _ wr).alloc (Nat.le_refl _) o).drew)
                go_wp2
                obtain ⟨kc, kf⟩ : (∀ o, (wr.alloc o).drew.cell? ⟨w1.heap.size, 3, none⟩ = some (.string sg)) ∧ (∀ o, (wr.alloc o).drew.frozen? ⟨w1.heap.size, 3, none⟩ = false) := ⟨fun o => (kp2 o).1, fun o => (kp2 o).2⟩
                clear kp kp2
                go_region
                go_wp2
                exact ⟨⟨y + 1, k + 1, HX1, by omega, rfl, by rw [HS.out]; exact (hbx3.alloc _).set 3 _, ((hb3.alloc hb3.size _).setCell (p := ⟨w1.heap.size, 3, none⟩) (Nat.le_refl _) _).drew⟩, by simp only [intOf]; omega⟩
              · obtain rfl : y = e := by omega
                have HK3 : Hid (sigTo x k = sigTo x (y - (x + 1))) := Lib.hid (by have := HX.out; congr 1; omega)
                have hown3 := rowKept hown hb3
                have hbr3 := hb.trans (hb3.mono hb.size)
                have hbs := hbr3.size
                have hrl : r < 58 := g9
                have x0 := hbx3.cell 0 (by simp)
                have x1 := hbx3.cell 1 (by simp)
                have x2 := hbx3.cell 2 (by simp)
                have x3 := hbx3.cell 3 (by simp)
                dsimp only [List.getElem_cons_zero, List.getElem_cons_succ] at x0 x1 x2 x3
                generalize sigTo x k = sg at hbx3 x3 HK3
                have hy := HE.out
                clear HL HE HB hbx hbb hown t1 t2 hnd hBx hcv hbx3 hb hb3 HX
                rcases hy with hy | hy
                · rw [hy] at hBy
                  clear hy
                  go_wp2_with (first
                  | (at_builtin; refine wpList_append_own _ rfl _ _ 93 rfl w.heap.size 96 i0 (.agg #[.int .i64 0, .int .i64 0, .int .u8 0, .string ⟨#[]⟩]) 4 40 Tryz.underlying93 hi hz0 hz1 hz2 rfl (by decide) _ _ _ rfl (hown3.alloc _) ⟨wr.heap.size, 0, none⟩ 1 1 [.int .i64 c0, .int .i64 v, .int .u8 d, .string sg] rfl rfl (cell_four_new _ _ _ _ _ _) (by simp [Value.oneCell']) (by unfold maxLen; omega) (by omega) (by simp; omega) ?_))
                  intro o' w4 hown' hgrow _
                  have hb4 := rowBelow (Nat.le_refl _) hown3 hbr3 hgrow
                  have Hown : Hid (w4.ownsRow w.heap.size 96 4 o' (r + 1) (rowRw (mets.take (r + 1)))) := Lib.hid (by rw [HM.out.1, rowRw_snoc, HM.out.2, ← HK3.out]; exact hown')
                  clear hown' hgrow hown3 hbr3
                  go_wp2
                  exact ⟨⟨j + 1, u, HU, by rw [HG.out.1], by rw [HG.out.2.1]; rfl, by rw [HG.out.2.2]; exact Hown.out, hb4⟩, by simp only [intOf]; omega⟩
                · rw [hy] at hBy
                  clear hy
                  go_wp2_with (first
                  | (at_builtin; refine wpList_append_own _ rfl _ _ 93 rfl w.heap.size 96 i0 (.agg #[.int .i64 0, .int .i64 0, .int .u8 0, .string ⟨#[]⟩]) 4 40 Tryz.underlying93 hi hz0 hz1 hz2 rfl (by decide) _ _ _ rfl (hown3.alloc _) ⟨wr.heap.size, 0, none⟩ 1 1 [.int .i64 c0, .int .i64 v, .int .u8 d, .string sg] rfl rfl (cell_four_new _ _ _ _ _ _) (by simp [Value.oneCell']) (by unfold maxLen; omega) (by omega) (by simp; omega) ?_))
                  intro o' w4 hown' hgrow _
                  have hb4 := rowBelow (Nat.le_refl _) hown3 hbr3 hgrow
                  have Hown : Hid (w4.ownsRow w.heap.size 96 4 o' (r + 1) (rowRw (mets.take (r + 1)))) := Lib.hid (by rw [HM.out.1, rowRw_snoc, HM.out.2, ← HK3.out]; exact hown')
                  clear hown' hgrow hown3 hbr3
                  go_wp2
                  exact ⟨⟨j + 1, u, HU, by rw [HG.out.1], by rw [HG.out.2.1]; rfl, by rw [HG.out.2.2]; exact Hown.out, hb4⟩, by simp only [intOf]; omega⟩
          · obtain ⟨g1, g2, g3, g4⟩ := HC.out rfl
            have HG : Hid (u.c = v ∧ u.p = x + 1 ∧ u.r = r) := Lib.hid ⟨by rw [g3, HK.out], g2, g4⟩
            rw [g1] at hBx
            clear HC HR hB hnd g1 g2 g3 g4 hcv
            go_wp2
            exact ⟨⟨j + 1, u, HU, by rw [HG.out.1], by rw [HG.out.2.1]; rfl, by rw [HG.out.2.2]; exact hown, hb⟩, by simp only [intOf]; omega⟩
    · obtain rfl : j = 65 := by have := HJ.out.1; omega
      obtain rfl : t = ⟨384, 384, 384, 90, 58, true⟩ := by have h := HJ.out.2; rw [rtoks_last] at h; exact (Option.some.inj h).symm
      dsimp only at hown ⊢
      clear hcv hB HJ
      go_wp2
      go_ret
      exact ⟨_, rfl, by rw [List.take_of_length_le (by rw [show mets.length = 58 from rfl]; omega)] at hown; exact hown, hb⟩
end Go.Proofs.YtkdiccedkjbpeaaGreatDoorR

/-
  The document's own Of answers as the program's; nothing that was there is changed. No condition.
-/
namespace Go.Proofs.YtkdiccedkjbpeaaGreatDoorR
open Go.RowKit

/-- the four cells of the row k -/
theorem rw_cells (l : List Met) : ∀ (k : Nat) (h : k < l.length), (rowRw l)[k * 4]? = some (.int .i64 l[k].c) ∧ (rowRw l)[k * 4 + 1]? = some (.int .i64 l[k].i) ∧ (rowRw l)[k * 4 + 2]? = some (.int .u8 (sideI l[k].s)) ∧ (rowRw l)[k * 4 + 3]? = some (.string l[k].v) := by
  induction l with
  | nil => intro k h; cases h
  | cons f l ih =>
    intro k h
    have e : rowRw (f :: l) = [.int .i64 f.c, .int .i64 f.i, .int .u8 (sideI f.s), .string f.v] ++ rowRw l := by simp [rowRw, cellsRw]
    cases k with
    | zero => rw [e]; simp
    | succ k =>
      obtain ⟨h1, h2, h3, h4⟩ := ih k (by simpa using h)
      rw [e]
      refine ⟨?_, ?_, ?_, ?_⟩
      · rw [show (k + 1) * 4 = k * 4 + 1 + 1 + 1 + 1 by omega]
        simpa using h1
      · rw [show (k + 1) * 4 + 1 = (k * 4 + 1) + 1 + 1 + 1 + 1 by omega]
        simpa using h2
      · rw [show (k + 1) * 4 + 2 = (k * 4 + 2) + 1 + 1 + 1 + 1 by omega]
        simpa using h3
      · rw [show (k + 1) * 4 + 3 = (k * 4 + 3) + 1 + 1 + 1 + 1 by omega]
        simpa using h4
theorem vals_met {w : World} {A : Option Addr} (h : ValsAt w A (rowRw mets)) (hl : (rowRw mets).length = 58 * 4) : ∃ b off, A = some ⟨b, off, none⟩ ∧ ∀ k (hk : k < mets.length),
    w.cell? ⟨b, off + k * 4, none⟩ = some (.int .i64 mets[k].c) ∧ w.cell? ⟨b, off + k * 4 + 1, none⟩ = some (.int .i64 mets[k].i) ∧ w.cell? ⟨b, off + k * 4 + 2, none⟩ = some (.int .u8 (sideI mets[k].s)) ∧ w.cell? ⟨b, off + k * 4 + 3, none⟩ = some (.string mets[k].v) := by
  obtain ⟨b, off, hA, hlt, hc⟩ := h (by omega)
  refine ⟨b, off, hA, fun k hk => ?_⟩
  obtain ⟨h1, h2, h3, h4⟩ := rw_cells mets k hk
  have g : ∀ i v, (rowRw mets)[i]? = some v → w.cell? ⟨b, off + i, none⟩ = some v := fun i v hv => by
    obtain ⟨hi, he⟩ := List.getElem?_eq_some_iff.1 hv
    rw [hc i hi, he]
  exact ⟨g _ _ h1, g _ _ h2, g _ _ h3, g _ _ h4⟩
/-- what is looked for stands at k, or it isn't among the first k -/
def NotIn (p : Met → Bool) (k : Nat) : Prop := ∀ m ∈ mets.take k, p m = false
theorem notIn_succ {p : Met → Bool} {k : Nat} (h : NotIn p k) (hk : k < mets.length) (hp : p mets[k] = false) : NotIn p (k + 1) := by
  intro m hm
  rw [List.take_add_one, List.getElem?_eq_getElem hk] at hm
  rcases List.mem_append.1 hm with h1 | h1
  · exact h m h1
  · rw [List.mem_singleton.1 h1]; exact hp
theorem first_at {p : Met → Bool} {k : Nat} (h : NotIn p k) (hk : k < mets.length) (hp : p mets[k] = true) : fst p = mets[k] ∧ mets.any p = true :=
  found_list (by rw [← List.drop_eq_getElem_cons hk, List.take_append_drop]) h hp
theorem first_none {p : Met → Bool} (h : NotIn p 58) : fst p = noMet ∧ mets.any p = false := by
  have hm : ∀ m ∈ mets, p m = false := fun m hm => h m (by rw [List.take_of_length_le (by rw [mets_length]; omega)]; exact hm)
  refine ⟨by rw [fst, List.find?_eq_none.2 (fun m hmm => by rw [hm m hmm]; simp)]; rfl, ?_⟩
  rw [List.any_eq_false]
  exact fun m hmm => by rw [hm m hmm]; simp

set_option maxRecDepth 100000 in
set_option maxHeartbeats 2000000 in
theorem rof_any (c i : Int) (w : World) :
    Calls Tryz.prog 42 #[.int .i64 c, .int .i64 i] w fun e w' => e = .returned (.tuple #[.string (sOf c i), .bool (sIs c i)]) ∧ Below w.heap.size w w' := by
  have H1 := Lib.hid (show sOf c i = (fst (isAt c i)).v from rfl)
  have H2 := Lib.hid (show sIs c i = mets.any (isAt c i) from rfl)
  go_enter Tryz.func42, Tryz.ntmps42
  go_wp2_with fail
  refine (rall_any w).mono ?_
  rintro e w1 ⟨v, rfl, hown, hb⟩
  obtain ⟨A, cap, rfl, hv, hl⟩ := vals_row hown
  obtain ⟨b, off, rfl, hc⟩ := vals_met hv hl
  clear hown hv hl
  go_wp2
  go_loop [7] (fun x => ∃ k : Nat, k ≤ 58 ∧ x = .int .i64 k ∧ Hid (NotIn (isAt c i) k)) (fun x => 58 - (intOf x).toNat)
  case atStart => exact ⟨0, Nat.zero_le _, rfl, Lib.hid (fun m hm => by cases hm)⟩
  case round =>
    obtain ⟨k, hk, rfl, HN⟩ := hrel
    by_cases hlt : k < 58
    · have hkl : k < mets.length := by rw [mets_length]; exact hlt
      obtain ⟨x0, x1, x2, x3⟩ := hc k hkl
      have HS : Hid (isAt c i mets[k] = false → NotIn (isAt c i) (k + 1)) := Lib.hid (notIn_succ HN.out hkl)
      have HF : Hid (isAt c i mets[k] = true → fst (isAt c i) = mets[k] ∧ mets.any (isAt c i) = true) := Lib.hid (first_at HN.out hkl)
      have HQ : Hid (isAt c i mets[k] = (mets[k].c == c && mets[k].i == i)) := Lib.hid rfl
      have e1 : IntKind.i64.wrap ((k : Int) + 1) = ((k + 1 : Nat) : Int) := by simp only [IntKind.wrap_i64]; omega
      clear hc HN
      generalize mets[k] = m at x0 x1 x2 x3 HS HF HQ
      obtain ⟨c1, j1, v1, s1, r1⟩ := m
      dsimp only at x0 x1 x2 x3 HQ
      cases t1 : (c1 == c)
      · have HS2 := Lib.hid (HS.out (by rw [HQ.out, t1]; rfl))
        clear HS HF HQ
        go_wp2
        exact ⟨⟨k + 1, hlt, rfl, HS2⟩, by simp only [intOf]; omega⟩
      · cases t2 : (j1 == i)
        · have HS2 := Lib.hid (HS.out (by rw [HQ.out, t1, t2]; rfl))
          clear HS HF HQ
          go_wp2
          exact ⟨⟨k + 1, hlt, rfl, HS2⟩, by simp only [intOf]; omega⟩
        · have HF2 := Lib.hid (HF.out (by rw [HQ.out, t1, t2]; rfl))
          clear HS HF HQ
          go_wp2
          go_ret2
          exact ⟨by rw [H1.out, H2.out, HF2.out.1, HF2.out.2]; rfl, hb⟩
    · obtain rfl : k = 58 := by omega
      have HF2 := Lib.hid (first_none HN.out)
      clear hc HN
      go_wp2
      go_ret2
      exact ⟨by rw [H1.out, H2.out, HF2.out.1, HF2.out.2]; rfl, hb⟩

end Go.Proofs.YtkdiccedkjbpeaaGreatDoorR
