/-
  interchangelaw06.MethodOne answers true; nothing that was there is changed. Conditions: the table of widths is as its text lays it; the values lie in old memory, each number a uint64, each text shorter than 2^47 bytes.
-/
import Derived.Deep.RegionHeld3
import Derived.Deep.DeepCutAuto
import Derived.Test.YtmpfkommeakgbaaDoorRMSame
namespace Go.Proofs.YtmpfkommeakgbaaDoor
open Go.RowKit

theorem layEr_at : ∀ (ls : List UInt8) (l : List MV), ls.length = l.length → (layEr ls l = 0 ↔ ∀ k (h1 : k < ls.length) (h2 : k < l.length), vE ls[k] l[k] = 0)
  | [], [], _ => by simp [layEr]
  | c :: ls, v :: l, h => by
    have ih := layEr_at ls l (by simpa using h)
    constructor
    · intro hz k h1 h2
      obtain ⟨g1, g2⟩ := layEr_cons hz
      cases k with
      | zero => exact g1
      | succ k => exact ih.1 g2 k (by simpa using h1) (by simpa using h2)
    · intro ha
      exact layEr_mk (ha 0 (by simp) (by simp)) (ih.2 (fun k h1 h2 => ha (k + 1) (by simpa using h1) (by simpa using h2)))
/-- with a value of another right one a method stays right -/
theorem mE_with {c j : Int} {l l2 : List MV} {q : Nat} (h1 : mE ⟨c, j, l⟩ = 0) (h2 : mE ⟨c, j, l2⟩ = 0) (hq2 : q < l2.length) : mE ⟨c, j, l.set q l2[q]⟩ = 0 := by
  obtain ⟨a1, a2, a3⟩ := mE_parts h1
  obtain ⟨-, b2, b3⟩ := mE_parts h2
  dsimp only at a1 a2 a3 b2 b3
  refine mE_mk a1 (by dsimp only; rw [List.length_set]; exact a2) ?_
  have hls : (mLs ⟨c, j, l⟩).length = l.length := by rw [mLs, ba_len]; exact a2
  have hls2 : (mLs ⟨c, j, l2⟩).length = l2.length := by rw [mLs, ba_len]; exact b2
  have g1 := (layEr_at _ _ hls).1 a3
  have g2 := (layEr_at _ _ hls2).1 b3
  refine (layEr_at _ _ (by dsimp only; rw [List.length_set]; exact hls)).2 (fun k k1 k2 => ?_)
  dsimp only at k2 ⊢
  by_cases hk : q = k
  · subst hk
    rw [List.getElem_set_self]
    exact g2 q (by rw [hls2]; exact hq2) hq2
  · rw [List.getElem_set_ne hk]
    exact g1 k (by rw [hls]; rw [List.length_set] at k2; exact k2) (by rw [List.length_set] at k2; exact k2)

theorem vals_store {W : World} {nb : Nat} {t : TypeId} {C : Option Addr} {l : List MV} {x y : Int} {z : Option Addr} {z1 z2 : Nat} (hV : ValsAt W C (rowV l)) (hb : Bx W nb t [.int .i64 x, .int .i64 y, .slice z z1 z2]) (v0 v1 v2 : Value) :
    ValsAt (((W.setCell ⟨nb, 0, none⟩ v0).setCell ⟨nb, 1, none⟩ v1).setCell ⟨nb, 2, none⟩ v2) C (rowV l) := by
  intro h0
  obtain ⟨b, off, rfl, hlt, hc⟩ := hV h0
  have hne : b ≠ nb := by
    rintro rfl
    have h1 := hc 0 h0
    cases l with
    | nil => simp [rowV] at h0
    | cons a l =>
      have e : (rowV (a :: l))[0]'h0 = .int .u64 a.n := by simp [rowV, cellsV]
      rw [e] at h1
      simp only [World.cell?, show W.heap[b]? = _ from hb, Nat.add_zero] at h1
      match off, h1 with
      | 0, h1 => simp at h1
      | 1, h1 => simp at h1
      | 2, h1 => simp at h1
      | n + 3, h1 => simp at h1
  have hh : (((W.setCell ⟨nb, 0, none⟩ v0).setCell ⟨nb, 1, none⟩ v1).setCell ⟨nb, 2, none⟩ v2).heap[b]? = W.heap[b]? :=
    ((Below.heap_setCell _ ⟨nb, 2, none⟩ v2 b hne).trans (Below.heap_setCell _ ⟨nb, 1, none⟩ v1 b hne)).trans (Below.heap_setCell _ ⟨nb, 0, none⟩ v0 b hne)
  refine ⟨b, off, rfl, by simpa using hlt, fun i hi => ?_⟩
  rw [← hc i hi]
  simp only [World.cell?, hh]
theorem le_alloc1 (w : World) (o : Obj) : w.heap.size ≤ (w.alloc o).heap.size := by rw [World.size_alloc]; exact Nat.le_succ _

set_option maxRecDepth 100000 in
set_option maxHeartbeats 4000000 in
theorem methodOne_walk (m k : Me) (A B : Option Addr) (ca cb : Nat) (i : Int) (w : World) (hw : Wid w) (hA : ValsAt w A (rowV m.l)) (hB : ValsAt w B (rowV k.l)) (h0 : A = none → m.l.length = 0 ∧ ca = 0) (hm : wfM m) (hk : wfM k) (hl : m.l.length * 24 ≤ 140737488355328) :
    Calls Tryd.prog 6 #[encM m A ca, encM k B cb, .int .i64 i] w fun e w' => e = .returned (.bool true) ∧ Below w.heap.size w w' := by
  have hRm := fun W hW h => mright_any m A ca W hW hm h
  have hRk := fun W hW h => mright_any k B cb W hW hk h
  have hArg := fun W h => arg_any k B cb i W h
  have hWith := fun W h => with_any m A ca i (argV k.l i) W h h0 hl
  have HX : Hid (mE m = 0 → mE k = 0 → m.c = k.c → m.i = k.i → ∀ q : Nat, i = q → q < m.l.length → ∃ hq2 : q < k.l.length, argV k.l i = k.l[q] ∧ mE ⟨m.c, m.i, withV m.l i (argV k.l i)⟩ = 0 ∧ withV m.l i (argV k.l i) = m.l.set q k.l[q] ∧ wfM ⟨m.c, m.i, withV m.l i (argV k.l i)⟩) := Lib.hid (fun e1 e2 e3 e4 q hi hq => by
    subst hi
    obtain ⟨c, j, l⟩ := m
    obtain ⟨c', j', l2⟩ := k
    dsimp only at e3 e4 hq ⊢
    subst e3
    subst e4
    have p1 := (mE_parts e1).2.1
    have p2 := (mE_parts e2).2.1
    dsimp only at p1 p2
    have hq2 : q < l2.length := by omega
    refine ⟨hq2, argV_at _ _ hq2, ?_, ?_, ?_⟩
    · rw [argV_at _ _ hq2, withV_at]; exact mE_with e1 e2 hq2
    · rw [argV_at _ _ hq2, withV_at]
    · rw [argV_at _ _ hq2, withV_at]
      intro u hu
      rcases List.mem_or_eq_of_mem_set hu with h | h
      · exact hm u h
      · rw [h]; exact hk _ (List.getElem_mem hq2))
  generalize hE1 : mE m = e1 at hRm HX
  generalize hE2 : mE k = e2 at hRk HX
  clear hE1 hE2
  obtain ⟨c, j, l⟩ := m
  obtain ⟨c', j', l2⟩ := k
  dsimp only at hA hB h0 hl hArg hWith HX
  simp only [encM] at hRm hRk hArg hWith ⊢
  obtain ⟨W0, hW0⟩ : ∃ W0, W0 = (w.alloc (.cells #[.int .i64 c, .int .i64 j, .slice A l.length ca] 24)).alloc (.cells #[.int .i64 c', .int .i64 j', .slice B l2.length cb] 24) := ⟨_, rfl⟩
  have hb0 : Below w.heap.size w W0 := by rw [hW0]; exact ((Below.refl _ w).alloc (Nat.le_refl _) _).alloc (by simp) _
  have hx : Bx W0 w.heap.size 24 [.int .i64 c, .int .i64 j, .slice A l.length ca] := by rw [hW0]; exact (Bx.new w 24 [.int .i64 c, .int .i64 j, .slice A l.length ca]).alloc _
  have hy : Bx W0 (w.heap.size + 1) 24 [.int .i64 c', .int .i64 j', .slice B l2.length cb] := by
    have h := Bx.new (w.alloc (.cells #[.int .i64 c, .int .i64 j, .slice A l.length ca] 24)) 24 [.int .i64 c', .int .i64 j', .slice B l2.length cb]
    rw [World.size_alloc] at h
    rw [hW0]
    exact h
  have hSh := mshown_any W0 (hw.below hb0)
  go_enter Tryd.func6, Tryd.ntmps6
  go_wp2_with fail
  rw [← hW0]
  refine hSh.mono ?_
  rintro e w1 ⟨rfl, hb1⟩
  have hB1 := hb0.trans (hb1.mono hb0.size)
  have hx1 := hx.kept hb1
  have hy1 := hy.kept hb1
  have x0 := hx1.cell 0 (by simp)
  have x1 := hx1.cell 1 (by simp)
  have x2 := hx1.cell 2 (by simp)
  dsimp only [List.getElem_cons_zero, List.getElem_cons_succ] at x0 x1 x2
  clear hSh hb0 hb1 hx hy hW0
  go_wp2_with fail
  refine (hRm w1 (hw.below hB1) (hA.below hB1)).mono ?_
  rintro e w2 ⟨rfl, hb2⟩
  have hB2 := hB1.trans (hb2.mono hB1.size)
  have hx2 := hx1.kept hb2
  have hy2 := hy1.kept hb2
  clear hRm hB1 hb2 hx1 hy1 x0 x1 x2
  by_cases he1 : e1 = 0
  · subst he1
    have y0 := hy2.cell 0 (by simp)
    have y1 := hy2.cell 1 (by simp)
    have y2 := hy2.cell 2 (by simp)
    dsimp only [List.getElem_cons_zero, List.getElem_cons_succ] at y0 y1 y2
    go_wp2_with fail
    refine (hRk w2 (hw.below hB2) (hB.below hB2)).mono ?_
    rintro e w3 ⟨rfl, hb3⟩
    have hB3 := hB2.trans (hb3.mono hB2.size)
    have hx3 := hx2.kept hb3
    have hy3 := hy2.kept hb3
    have x0 := hx3.cell 0 (by simp)
    have x1 := hx3.cell 1 (by simp)
    have x2 := hx3.cell 2 (by simp)
    have z0 := hy3.cell 0 (by simp)
    have z1 := hy3.cell 1 (by simp)
    have z2 := hy3.cell 2 (by simp)
    dsimp only [List.getElem_cons_zero, List.getElem_cons_succ] at x0 x1 x2 z0 z1 z2
    clear hRk hB2 hb3 hx2 hy2 y0 y1 y2
    by_cases hgo : e2 = 0 ∧ c = c' ∧ j = j' ∧ ∃ q : Nat, i = q ∧ q < l.length
    · obtain ⟨rfl, rfl, rfl, q, rfl, hq⟩ := hgo
      obtain ⟨hq2, ha, hE, hwv, hwf⟩ := HX.out (by first | rfl | trivial) (by first | rfl | trivial) (by first | rfl | trivial) (by first | rfl | trivial) q (by first | rfl | trivial) hq
      have t1 : decide ((q : Int) < 0) = false := by simp
      have t2 : decide ((l.length : Int) ≤ (q : Int)) = false := by simp; omega
      have HL : Hid ((withV l (q : Int) (argV l2 (q : Int))).length = l.length) := Lib.hid (withV_length _ _ _)
      have hRn := fun C cc W hW h => mright_any ⟨c, j, withV l (q : Int) (argV l2 (q : Int))⟩ C cc W hW hwf h
      rw [hE] at hRn
      simp only [encM] at hRn
      have HV := Lib.hid hwv
      unfold MeAt at hWith
      simp only [encM] at hWith
      generalize hln : withV l (q : Int) (argV l2 (q : Int)) = ln at hWith hRn HL HV
      generalize argV l2 (q : Int) = av at hArg hWith
      rw [HL.out] at hWith hRn
      obtain ⟨an, ax⟩ := av
      simp only [encV] at hArg hWith
      have hA3 := hA.below hB3
      have hB3' := hB.below hB3
      have keep : ∀ w', Below w3.heap.size w3 w' → w'.cell? ⟨w.heap.size, 0, none⟩ = some (.int .i64 c) ∧ w'.cell? ⟨w.heap.size, 1, none⟩ = some (.int .i64 j) ∧ w'.cell? ⟨w.heap.size, 2, none⟩ = some (.slice A l.length ca) ∧ w'.cell? ⟨w.heap.size + 1, 0, none⟩ = some (.int .i64 c) ∧ w'.cell? ⟨w.heap.size + 1, 1, none⟩ = some (.int .i64 j) ∧ w'.cell? ⟨w.heap.size + 1, 2, none⟩ = some (.slice B l2.length cb) := fun w' h => ⟨(hx3.kept h).cell 0 (by simp), (hx3.kept h).cell 1 (by simp), (hx3.kept h).cell 2 (by simp), (hy3.kept h).cell 0 (by simp), (hy3.kept h).cell 1 (by simp), (hy3.kept h).cell 2 (by simp)⟩
      clear HX hE hwv hwf hln ha
      go_upto_region 4 with fail
      go_cut [8] (fun p wx => ∃ nb C cc, p = .pointer (some ⟨nb, 0, none⟩) ∧ Bx wx nb 24 [.int .i64 c, .int .i64 j, .slice C l.length cc] ∧ ValsAt wx C (rowV ln) ∧ Below w3.heap.size w3 wx)
      case first =>
        go_region_held3 (fun w' => w'.cell? ⟨w.heap.size, 0, none⟩ = some (.int .i64 c) ∧ w'.cell? ⟨w.heap.size, 1, none⟩ = some (.int .i64 j) ∧ w'.cell? ⟨w.heap.size, 2, none⟩ = some (.slice A l.length ca) ∧ w'.cell? ⟨w.heap.size + 1, 0, none⟩ = some (.int .i64 c) ∧ w'.cell? ⟨w.heap.size + 1, 1, none⟩ = some (.int .i64 j) ∧ w'.cell? ⟨w.heap.size + 1, 2, none⟩ = some (.slice B l2.length cb)) (first | (exact keep _ (Below.refl _ w3).drew) | (exact keep _ ((Below.refl _ w3).drew.alloc (Nat.le_refl _) _)) | (exact keep _ hS) | (exact keep _ hf2) | (exact keep _ (hf2.alloc hf2.size _)) | (exact keep _ hf1) | (exact keep _ (hf1.alloc hf1.size _))) (first | (go_at_call 14; refine (hArg _ (hB3'.below (Below.refl _ w3).drew)).mono ?_; rintro e w4 ⟨rfl, hr⟩; have hf1 : Below w3.heap.size w3 w4 := ⟨hr.os, hr.tape, hr.output, hr.size, hr.block⟩) | (go_at_call 14; refine (hArg _ (hB3'.below ((Below.refl _ w3).drew.alloc (Nat.le_refl _) _))).mono ?_; rintro e w4 ⟨rfl, hr⟩; have hf1 : Below w3.heap.size w3 w4 := ((Below.refl _ w3).drew.alloc (Nat.le_refl _) _).trans (hr.mono (le_alloc1 _ _)); have bx : Bx w4 w3.heap.size 24 [.int .i64 0, .int .i64 0, .slice none 0 0] := (Bx.new w3.drew 24 [.int .i64 0, .int .i64 0, .slice none 0 0]).kept hr) | (go_at_call 12; refine (hWith _ (hA3.below hf1)).mono ?_; rintro e w5 ⟨C, cc, rfl, hV5, hn5, hr2⟩; have hf2 : Below w3.heap.size w3 w5 := hf1.trans (hr2.mono hf1.size); have bx2 := bx.kept hr2; obtain ⟨a0, f0, a1, f1, a2, f2, bR⟩ := bx2.store3 (.int .i64 c) (.int .i64 j) (.slice C l.length cc); have hS := below_store3 hf2 (B := w3.heap.size) (Nat.le_refl _) (.int .i64 c) (.int .i64 j) (.slice C l.length cc)) | (go_at_call 12; refine (hWith _ (hA3.below hf1)).mono ?_; rintro e w5 ⟨C, cc, rfl, hV5, hn5, hr2⟩; have hf2 : Below w3.heap.size w3 w5 := hf1.trans (hr2.mono hf1.size)) | (go_at_call 12; refine (hWith _ (hA3.below (hf1.alloc hf1.size _))).mono ?_; rintro e w5 ⟨C, cc, rfl, hV5, hn5, hr2⟩; have hf2 : Below w3.heap.size w3 w5 := (hf1.alloc hf1.size _).trans (hr2.mono (Nat.le_trans hf1.size (le_alloc1 _ _))); obtain ⟨a0, f0, a1, f1, a2, f2, bR⟩ := ((Bx.new w4 24 [.int .i64 0, .int .i64 0, .slice none 0 0]).kept hr2).store3 (.int .i64 c) (.int .i64 j) (.slice C l.length cc); have hS := below_store3 hf2 (B := w4.heap.size) hf1.size (.int .i64 c) (.int .i64 j) (.slice C l.length cc)))
        · have hB6 := hf2.alloc hf2.size (.cells #[.int .i64 c, .int .i64 j, .slice C l.length cc] 24)
          have hN := Bx.new w5 24 [.int .i64 c, .int .i64 j, .slice C l.length cc]
          have hV6 := hV5.below ((Below.refl _ w5).alloc (Nat.le_refl _) (.cells #[.int .i64 c, .int .i64 j, .slice C l.length cc] 24))
          go_wp2_with fail
          go_meet
          case rel => exact ⟨_, C, cc, rfl, hN, hV6, hB6⟩
        · have hV6 := vals_store hV5 ((Bx.new w4 24 [.int .i64 0, .int .i64 0, .slice none 0 0]).kept hr2) (.int .i64 c) (.int .i64 j) (.slice C l.length cc)
          go_wp2_with fail
          go_meet
          case rel => exact ⟨_, C, cc, rfl, bR, hV6, hS⟩
        · have hV6 := vals_store hV5 bx2 (.int .i64 c) (.int .i64 j) (.slice C l.length cc)
          go_wp2_with fail
          go_meet
          case rel => exact ⟨_, C, cc, rfl, bR, hV6, hS⟩
      obtain ⟨nb, C, cc, rfl, hN, hV, hfc⟩ := hcut
      have hBc := hB3.trans (hfc.mono hB3.size)
      have hxc := hx3.kept hfc
      have hyc := hy3.kept hfc
      have x0 := hxc.cell 0 (by simp)
      have x1 := hxc.cell 1 (by simp)
      have x2 := hxc.cell 2 (by simp)
      have n0 := hN.cell 0 (by simp)
      have n1 := hN.cell 1 (by simp)
      have n2 := hN.cell 2 (by simp)
      dsimp only [List.getElem_cons_zero, List.getElem_cons_succ] at x0 x1 x2 n0 n1 n2
      have hRc := hRn C cc wc (hw.below hBc) hV
      clear hArg hWith hRn keep hx3 hy3 hA3 hB3' z0 z1 z2 hfc hB3
      go_wp2_with fail
      refine hRc.mono ?_
      rintro e w6 ⟨rfl, hb6⟩
      have hB6 := hBc.trans (hb6.mono hBc.size)
      have hx6 := hxc.kept hb6
      have hy6 := hyc.kept hb6
      have hN6 := hN.kept hb6
      have hV6 := hV.below hb6
      have hA6 := hA.below hB6
      have hK6 := hB.below hB6
      clear hRc hxc hyc hN hV hb6 hBc x0 x1 x2 n0 n1 n2 hA hB
      go_wp2_with fail
      go_loopw [9] (fun v wr => ∃ p : Nat, p ≤ l.length ∧ v = .int .i64 p ∧ Below w6.heap.size w6 wr) (fun v _ => l.length - (intOf v).toNat)
      case atStart => exact ⟨0, Nat.zero_le _, rfl, Below.refl _ _⟩
      case round =>
        obtain ⟨p, hp, rfl, hb⟩ := hrel
        have n2 := (hN6.kept hb).cell 2 (by simp)
        have x2 := (hx6.kept hb).cell 2 (by simp)
        have y2 := (hy6.kept hb).cell 2 (by simp)
        dsimp only [List.getElem_cons_zero, List.getElem_cons_succ] at n2 x2 y2
        by_cases hlt : p < l.length
        · have e1 : IntKind.i64.wrap ((p : Int) + 1) = ((p + 1 : Nat) : Int) := by simp only [IntKind.wrap_i64]; omega
          have hpn : p < ln.length := by rw [HL.out]; exact hlt
          obtain ⟨b1, o1, rfl, hl1, g1⟩ := vals_v hV6 (by rw [HL.out]; omega)
          obtain ⟨c1, c2⟩ := g1 p hpn
          have c1 := (hb.cell (p := ⟨b1, o1 + p * 2, none⟩) hl1).trans c1
          have c2 := (hb.cell (p := ⟨b1, o1 + p * 2 + 1, none⟩) hl1).trans c2
          have hE := eqV ln[p] ln[p]
          rw [(sameV_iff _ _).2 rfl] at hE
          by_cases hpq : p = q
          · subst hpq
            have hln2 : ln[p] = l2[p] := by
              have h := HV.out
              subst h
              rw [List.getElem_set_self]
            obtain ⟨b2, o2, rfl, hl2, g2⟩ := vals_v hK6 (by omega)
            obtain ⟨d1, d2⟩ := g2 p hq2
            have d1 := (hb.cell (p := ⟨b2, o2 + p * 2, none⟩) hl2).trans d1
            have d2 := (hb.cell (p := ⟨b2, o2 + p * 2 + 1, none⟩) hl2).trans d2
            rw [← hln2] at d1 d2
            have tq : ((p : Int) != (p : Int)) = false := by simp
            have tq2 : ((p : Int) == (p : Int)) = true := by simp
            clear g1 g2 hV6 hA6 hK6 HV hln2
            generalize ln[p] = u at c1 c2 d1 d2 hE
            obtain ⟨un, us⟩ := u
            dsimp only at c1 c2 d1 d2 hE
            go_wp2
            go_quiet (fail)
            go_wp2
            go_roundw
            case rel => exact ⟨p + 1, hlt, rfl, below_drewN hb _⟩
            case measure => simp only [intOf]; omega
          · have hln2 : ln[p] = l[p] := by
              have h := HV.out
              subst h
              rw [List.getElem_set_ne (by omega)]
            obtain ⟨b2, o2, rfl, hl2, g2⟩ := vals_v hA6 (by omega)
            obtain ⟨d1, d2⟩ := g2 p hlt
            have d1 := (hb.cell (p := ⟨b2, o2 + p * 2, none⟩) hl2).trans d1
            have d2 := (hb.cell (p := ⟨b2, o2 + p * 2 + 1, none⟩) hl2).trans d2
            rw [← hln2] at d1 d2
            have tq : ((p : Int) != (q : Int)) = true := by simp; omega
            have tq2 : ((p : Int) == (q : Int)) = false := by simp; omega
            clear g1 g2 hV6 hA6 hK6 HV hln2
            generalize ln[p] = u at c1 c2 d1 d2 hE
            obtain ⟨un, us⟩ := u
            dsimp only at c1 c2 d1 d2 hE
            go_wp2
            go_quiet (fail)
            go_wp2
            go_roundw
            case rel => exact ⟨p + 1, hlt, rfl, below_drewN hb _⟩
            case measure => simp only [intOf]; omega
        · obtain rfl : p = l.length := by omega
          go_wp2
          go_ret
          exact ⟨rfl, hB6.trans (hb.mono hB6.size)⟩
    · clear HX hx3 hy3 hArg hWith hA hB
      by_cases h2 : e2 = 0
      · subst h2
        by_cases hc : c = c'
        · have tc : (c != c') = false := by simpa using hc
          by_cases hj : j = j'
          · have tj : (j != j') = false := by simpa using hj
            rcases int_cases i l.length with g | ⟨q, rfl, g⟩ | ⟨q, rfl, g⟩
            · have tg : decide (i < 0) = true := by simpa using g
              clear hgo hc hj g
              go_wp2
              go_ret
              exact ⟨rfl, hB3⟩
            · exact absurd ⟨rfl, hc, hj, q, rfl, g⟩ hgo
            · have tg : decide ((q : Int) < 0) = false := by simp
              have tg2 : decide ((l.length : Int) ≤ (q : Int)) = true := by simp; omega
              clear hgo hc hj
              go_wp2
              go_ret
              exact ⟨rfl, hB3⟩
          · have tj : (j != j') = true := by simpa using hj
            clear hgo hc hj
            go_wp2
            go_ret
            exact ⟨rfl, hB3⟩
        · have tc : (c != c') = true := by simpa using hc
          clear hgo hc
          go_wp2
          go_ret
          exact ⟨rfl, hB3⟩
      · have t2 : (e2 != 0) = true := by simpa using h2
        clear hgo h2
        go_wp2
        go_ret
        exact ⟨rfl, hB3⟩
  · have te : (e1 != 0) = true := by simpa using he1
    clear HX hx2 hy2 hRk hArg hWith hA hB he1
    go_wp2
    go_ret
    exact ⟨rfl, hB2⟩
end Go.Proofs.YtmpfkommeakgbaaDoor
