/-
  Several texts joined in one file: each says at its own head, below, what it proves, and its conditions.
-/
import Derived.Test.YtjpldfkhacchdaaDoorWPBytes
import Derived.Laws.StructEq
import Derived.BigQuiet
import Derived.Deep.QuietTactic
import Derived.Test.YtjpldfkhacchdaaDoorMSame
import Derived.Test.YtjpldfkhacchdaaDoorJMem
import Derived.Test.YtjpldfkhacchdaaDoorWPShape
/-
  props.Right and Letters, and the document's example, answer as the plain functions say; nothing that was there is changed. Conditions: as for props.Bytes.
-/
namespace Go.Proofs.YtjpldfkhacchdaaDoor
open Go.RowKit

set_option maxHeartbeats 1000000 in
theorem pright_any (h : He) (A : Option Addr) (cap : Nat) (w : World) (hw : Wid w) (hh : wfH h) (hA : ValsAt w A (rowV h.l)) :
    Calls Tryd.prog 15 #[encH h A cap] w fun e w' => e = .returned (.int .i64 (hE h)) ∧ Below w.heap.size w w' := by
  have hb0 : Below w.heap.size w (w.alloc (.cells #[.int .i64 h.c, .int .u64 h.z, .int .u64 h.f, .slice A h.l.length cap] 25)) := (Below.refl _ w).alloc (Nat.le_refl _) _
  have hBy := pbytes_any h A cap _ (hw.below hb0) hh (hA.below hb0)
  generalize hB h = r at hBy
  generalize hE h = x at hBy ⊢
  obtain ⟨c, z, f, l⟩ := h
  unfold encH at hBy ⊢
  dsimp only at *
  clear hh hA
  go_enter Tryd.func15, Tryd.ntmps15
  go_wp2_with fail
  refine hBy.mono ?_
  rintro e w1 ⟨rfl, hb1⟩
  clear hBy
  go_wp2
  go_ret
  exact ⟨rfl, hb0.trans (hb1.mono hb0.size)⟩
theorem shown_hE : hE ⟨60, 5, 0, []⟩ = 0 ∧ hB ⟨60, 5, 0, []⟩ = ⟨#[0, 60, 0, 0, 0, 0, 0, 0, 0, 0, 0, 5, 0, 0]⟩ := by
  have e : hE ⟨60, 5, 0, []⟩ = 0 := by kernel_rfl
  refine ⟨e, ?_⟩
  rw [hB, if_pos e]
  kernel_rfl
theorem pshown_any (w : World) (hw : Wid w) : Calls Tryd.prog 9 #[] w fun e w' => e = .returned (.bool true) ∧ Below w.heap.size w w' := by
  have hBy := pbytes_any ⟨60, 5, 0, []⟩ none 0 w hw ⟨by dsimp only; omega, by dsimp only; omega, fun v hv => by cases hv⟩ (fun h => by simp [rowV] at h)
  rw [shown_hE.1, shown_hE.2] at hBy
  unfold encH at hBy
  dsimp only [List.length_nil] at hBy
  go_enter Tryd.func9, Tryd.ntmps9
  go_wp2_with fail
  refine hBy.mono ?_
  rintro e w1 ⟨rfl, hb1⟩
  clear hBy
  go_wp2
  go_ret
  exact ⟨rfl, hb1⟩
end Go.Proofs.YtjpldfkhacchdaaDoor

/-
  The document's own Same of chapter 7 answers as the plain function says; nothing that was there is changed. Conditions: the values lie in old memory.
-/
namespace Go.Proofs.YtjpldfkhacchdaaDoor
open Go.RowKit

def sameH (a b : He) : Bool := a.c == b.c && a.z == b.z && a.f == b.f && sameL a.l b.l
theorem sameH_iff (a b : He) : sameH a b = true ↔ a = b := by
  obtain ⟨c, z, f, l⟩ := a
  obtain ⟨c', z', f', l'⟩ := b
  simp only [sameH, Bool.and_eq_true, beq_iff_eq, sameL_iff, He.mk.injEq, and_assoc]

set_option maxRecDepth 100000 in
set_option maxHeartbeats 2000000 in
theorem rpsame_any (a b : He) (A B : Option Addr) (ca cb : Nat) (w : World) (hA : ValsAt w A (rowV a.l)) (hB : ValsAt w B (rowV b.l)) (hl : a.l.length ≤ 9223372036854775807) :
    Calls Tryd.prog 14 #[encH a A ca, encH b B cb] w fun e w' => e = .returned (.bool (sameH a b)) ∧ Below w.heap.size w w' := by
  obtain ⟨c, z, f, l⟩ := a
  obtain ⟨c', z', f', m⟩ := b
  unfold encH sameH
  dsimp only at *
  obtain ⟨W0, hW0⟩ : ∃ W0, W0 = (w.alloc (.cells #[.int .i64 c, .int .u64 z, .int .u64 f, .slice A l.length ca] 25)).alloc (.cells #[.int .i64 c', .int .u64 z', .int .u64 f', .slice B m.length cb] 25) := ⟨_, rfl⟩
  have hb0 : Below w.heap.size w W0 := by rw [hW0]; exact ((Below.refl _ w).alloc (Nat.le_refl _) _).alloc (by simp) _
  have hx : Bx W0 w.heap.size 25 [.int .i64 c, .int .u64 z, .int .u64 f, .slice A l.length ca] := by rw [hW0]; exact (Bx.new w 25 [.int .i64 c, .int .u64 z, .int .u64 f, .slice A l.length ca]).alloc _
  have hy : Bx W0 (w.heap.size + 1) 25 [.int .i64 c', .int .u64 z', .int .u64 f', .slice B m.length cb] := by
    have h := Bx.new (w.alloc (.cells #[.int .i64 c, .int .u64 z, .int .u64 f, .slice A l.length ca] 25)) 25 [.int .i64 c', .int .u64 z', .int .u64 f', .slice B m.length cb]
    rw [World.size_alloc] at h
    rw [hW0]
    exact h
  have keep : ∀ w', Below W0.heap.size W0 w' → (w'.cell? ⟨w.heap.size, 0, none⟩ = some (.int .i64 c) ∧ w'.cell? ⟨w.heap.size, 1, none⟩ = some (.int .u64 z) ∧ w'.cell? ⟨w.heap.size, 2, none⟩ = some (.int .u64 f) ∧ w'.cell? ⟨w.heap.size, 3, none⟩ = some (.slice A l.length ca)) ∧ w'.cell? ⟨w.heap.size + 1, 0, none⟩ = some (.int .i64 c') ∧ w'.cell? ⟨w.heap.size + 1, 1, none⟩ = some (.int .u64 z') ∧ w'.cell? ⟨w.heap.size + 1, 2, none⟩ = some (.int .u64 f') ∧ w'.cell? ⟨w.heap.size + 1, 3, none⟩ = some (.slice B m.length cb) := fun w' h => ⟨⟨(hx.kept h).cell 0 (by simp), (hx.kept h).cell 1 (by simp), (hx.kept h).cell 2 (by simp), (hx.kept h).cell 3 (by simp)⟩, (hy.kept h).cell 0 (by simp), (hy.kept h).cell 1 (by simp), (hy.kept h).cell 2 (by simp), (hy.kept h).cell 3 (by simp)⟩
  obtain ⟨⟨x0, x1, x2, x3⟩, y0, y1, y2, y3⟩ := keep W0 (Below.refl _ _)
  have hA0 := hA.below hb0
  have hB0 := hB.below hb0
  clear hx hy hA hB
  cases t1 : (c == c')
  · have t1' : (c != c') = true := by rw [bne, t1]; rfl
    simp only [Bool.false_and]
    clear t1 hA0 hB0 keep
    go_enter Tryd.func14, Tryd.ntmps14
    go_wp2
    go_ret
    rw [← hW0]
    exact ⟨rfl, hb0⟩
  · have t1' : (c != c') = false := by rw [bne, t1]; rfl
    clear t1
    cases t2 : (z == z')
    · have t2' : (z != z') = true := by rw [bne, t2]; rfl
      simp only [Bool.false_and, Bool.true_and]
      clear t2 hA0 hB0 keep
      go_enter Tryd.func14, Tryd.ntmps14
      go_wp2
      go_ret
      rw [← hW0]
      exact ⟨rfl, hb0⟩
    · have t2' : (z != z') = false := by rw [bne, t2]; rfl
      clear t2
      cases t3 : (f == f')
      · have t3' : (f != f') = true := by rw [bne, t3]; rfl
        simp only [Bool.and_false, Bool.false_and]
        clear t3 hA0 hB0 keep
        go_enter Tryd.func14, Tryd.ntmps14
        go_wp2
        go_ret
        rw [← hW0]
        exact ⟨rfl, hb0⟩
      · have t3' : (f != f') = false := by rw [bne, t3]; rfl
        clear t3
        try simp only [Bool.true_and]
        by_cases hlm : l.length = m.length
        · have t3' : ((l.length : Int) != (m.length : Int)) = false := by simp; omega
          obtain ⟨q, hq⟩ : ∃ q, q = sameL l m := ⟨_, rfl⟩
          rw [← hq]
          have HQ := Lib.hid hq
          clear hq
          obtain ⟨n, hn⟩ : ∃ n, l.length = n := ⟨_, rfl⟩
          have HN := Lib.hid hn
          have HM : Hid (m.length = n) := Lib.hid (by rw [← hlm]; exact hn)
          rw [hn] at keep x3 hW0 hl t3' ⊢
          rw [HM.out] at keep y3 hW0 t3' ⊢
          clear hlm hn
          go_enter Tryd.func14, Tryd.ntmps14
          go_wp2_with fail
          rw [← hW0]
          clear hW0
          go_loopw [5] (fun v wr => ∃ k : Nat, k ≤ n ∧ v = .int .i64 k ∧ Below W0.heap.size W0 wr ∧ Hid (q = sameL (l.drop k) (m.drop k))) (fun v _ => n - (intOf v).toNat)
          case atStart => exact ⟨0, Nat.zero_le _, rfl, Below.refl _ _, Lib.hid HQ.out⟩
          case round =>
            obtain ⟨k, hk, rfl, hb, HK⟩ := hrel
            obtain ⟨⟨p0, p1, p2, p3⟩, q0, q1, q2, q3⟩ := keep wr hb
            clear keep x0 x1 x2 x3 y0 y1 y2 y3
            by_cases hlt : k < n
            · have hkl : k < l.length := by rw [HN.out]; exact hlt
              have hkm : k < m.length := by rw [HM.out]; exact hlt
              obtain ⟨b1, o1, rfl, hl1, g1⟩ := vals_v hA0 (by omega)
              obtain ⟨b2, o2, rfl, hl2, g2⟩ := vals_v hB0 (by omega)
              obtain ⟨c1, c2⟩ := g1 k hkl
              obtain ⟨d1, d2⟩ := g2 k hkm
              have c1 := (hb.cell (p := ⟨b1, o1 + k * 2, none⟩) hl1).trans c1
              have c2 := (hb.cell (p := ⟨b1, o1 + k * 2 + 1, none⟩) hl1).trans c2
              have d1 := (hb.cell (p := ⟨b2, o2 + k * 2, none⟩) hl2).trans d1
              have d2 := (hb.cell (p := ⟨b2, o2 + k * 2 + 1, none⟩) hl2).trans d2
              have HS := Lib.hid (sameL_drop k hkl hkm)
              have hE := eqV l[k] m[k]
              have e1 : IntKind.i64.wrap ((k : Int) + 1) = ((k + 1 : Nat) : Int) := by simp only [IntKind.wrap_i64]; omega
              clear g1 g2 hA0 hB0
              generalize l[k] = u at *
              generalize m[k] = v at *
              generalize sameV u v = z at hE HS
              obtain ⟨un, us⟩ := u
              obtain ⟨vn, vs⟩ := v
              dsimp only at *
              cases z
              · have HF : Hid (q = false) := Lib.hid (by rw [HK.out, HS.out]; rfl)
                clear HK HS
                go_wp2
                go_quiet (fail)
                go_wp2
                go_ret
                exact ⟨by rw [HF.out]; rfl, below_drewN (hb0.trans (hb.mono hb0.size)) _⟩
              · have HF : Hid (q = sameL (l.drop (k + 1)) (m.drop (k + 1))) := Lib.hid (by rw [HK.out, HS.out, Bool.true_and])
                clear HK HS
                go_wp2
                go_quiet (fail)
                go_wp2
                go_roundw
                case rel => exact ⟨k + 1, hlt, rfl, below_drewN hb _, HF⟩
                case measure => simp only [intOf]; omega
            · obtain rfl : k = n := by omega
              have HF : Hid (q = true) := Lib.hid (by rw [HK.out, List.drop_of_length_le (by rw [HN.out]; exact Nat.le_refl _), List.drop_of_length_le (by rw [HM.out]; exact Nat.le_refl _)]; rfl)
              clear HK hA0 hB0
              go_wp2
              go_ret
              exact ⟨by rw [HF.out]; rfl, hb0.trans (hb.mono hb0.size)⟩
        · have t3' : ((l.length : Int) != (m.length : Int)) = true := by simp; omega
          rw [sameL_len hlm]
          clear hlm hA0 hB0 keep
          go_enter Tryd.func14, Tryd.ntmps14
          go_wp2
          go_ret
          rw [← hW0]
          exact ⟨rfl, hb0⟩
end Go.Proofs.YtjpldfkhacchdaaDoor

/-
  slices.Equal of two rows of values, and props.Same, answer as the plain functions say; nothing that was there is changed. Conditions: the values lie in old memory.
-/
namespace Go.Proofs.YtjpldfkhacchdaaDoor
open Go.RowKit

set_option maxRecDepth 100000 in
set_option maxHeartbeats 2000000 in
theorem equalV_any (l m : List MV) (A B : Option Addr) (ca cb : Nat) (w : World) (hA : ValsAt w A (rowV l)) (hB : ValsAt w B (rowV m)) (hl : l.length ≤ 9223372036854775807) :
    Calls Tryd.prog 38 #[.slice A l.length ca, .slice B m.length cb] w fun e w' => e = .returned (.bool (sameL l m)) ∧ Below w.heap.size w w' := by
  by_cases hlm : l.length = m.length
  · have t3' : ((l.length : Int) != (m.length : Int)) = false := by simp; omega
    obtain ⟨q, hq⟩ : ∃ q, q = sameL l m := ⟨_, rfl⟩
    rw [← hq]
    have HQ := Lib.hid hq
    clear hq
    obtain ⟨n, hn⟩ : ∃ n, l.length = n := ⟨_, rfl⟩
    have HN := Lib.hid hn
    have HM : Hid (m.length = n) := Lib.hid (by rw [← hlm]; exact hn)
    rw [hn] at hl t3' ⊢
    rw [HM.out] at t3' ⊢
    clear hlm hn
    go_enter Tryd.func38, Tryd.ntmps38
    go_wp2_with fail
    go_loopw [13] (fun v wr => ∃ k : Nat, k ≤ n ∧ v = .int .i64 k ∧ Below w.heap.size w wr ∧ Hid (q = sameL (l.drop k) (m.drop k))) (fun v _ => n - (intOf v).toNat)
    case atStart => exact ⟨0, Nat.zero_le _, rfl, Below.refl _ _, Lib.hid HQ.out⟩
    case round =>
      obtain ⟨k, hk, rfl, hb, HK⟩ := hrel
      by_cases hlt : k < n
      · have hkl : k < l.length := by rw [HN.out]; exact hlt
        have hkm : k < m.length := by rw [HM.out]; exact hlt
        obtain ⟨b1, o1, rfl, hl1, g1⟩ := vals_v hA (by omega)
        obtain ⟨b2, o2, rfl, hl2, g2⟩ := vals_v hB (by omega)
        obtain ⟨c1, c2⟩ := g1 k hkl
        obtain ⟨d1, d2⟩ := g2 k hkm
        have c1 := (hb.cell (p := ⟨b1, o1 + k * 2, none⟩) hl1).trans c1
        have c2 := (hb.cell (p := ⟨b1, o1 + k * 2 + 1, none⟩) hl1).trans c2
        have d1 := (hb.cell (p := ⟨b2, o2 + k * 2, none⟩) hl2).trans d1
        have d2 := (hb.cell (p := ⟨b2, o2 + k * 2 + 1, none⟩) hl2).trans d2
        have HS := Lib.hid (sameL_drop k hkl hkm)
        have hE := eqV l[k] m[k]
        have e1 : IntKind.i64.wrap ((k : Int) + 1) = ((k + 1 : Nat) : Int) := by simp only [IntKind.wrap_i64]; omega
        clear g1 g2 hA hB
        generalize l[k] = u at *
        generalize m[k] = v at *
        generalize sameV u v = z at hE HS
        obtain ⟨un, us⟩ := u
        obtain ⟨vn, vs⟩ := v
        dsimp only at *
        cases z
        · have HF : Hid (q = false) := Lib.hid (by rw [HK.out, HS.out]; rfl)
          clear HK HS
          go_wp2
          go_quiet (fail)
          go_wp2
          go_ret
          exact ⟨by rw [HF.out]; rfl, below_drewN hb _⟩
        · have HF : Hid (q = sameL (l.drop (k + 1)) (m.drop (k + 1))) := Lib.hid (by rw [HK.out, HS.out, Bool.true_and])
          clear HK HS
          go_wp2
          go_quiet (fail)
          go_wp2
          go_roundw
          case rel => exact ⟨k + 1, hlt, rfl, below_drewN hb _, HF⟩
          case measure => simp only [intOf]; omega
      · obtain rfl : k = n := by omega
        have HF : Hid (q = true) := Lib.hid (by rw [HK.out, List.drop_of_length_le (by rw [HN.out]; exact Nat.le_refl _), List.drop_of_length_le (by rw [HM.out]; exact Nat.le_refl _)]; rfl)
        clear HK hA hB
        go_wp2
        go_ret
        exact ⟨by rw [HF.out]; rfl, hb⟩
  · have t3' : ((l.length : Int) != (m.length : Int)) = true := by simp; omega
    rw [sameL_len hlm]
    clear hlm hA hB
    go_enter Tryd.func38, Tryd.ntmps38
    go_wp2
    go_ret
    exact ⟨rfl, Below.refl _ _⟩

set_option maxRecDepth 100000 in
set_option maxHeartbeats 2000000 in
theorem psame_any (a b : He) (A B : Option Addr) (ca cb : Nat) (w : World) (hA : ValsAt w A (rowV a.l)) (hB : ValsAt w B (rowV b.l)) (hl : a.l.length ≤ 9223372036854775807) :
    Calls Tryd.prog 16 #[encH a A ca, encH b B cb] w fun e w' => e = .returned (.bool (sameH a b)) ∧ Below w.heap.size w w' := by
  obtain ⟨c, z, f, l⟩ := a
  obtain ⟨c', z', f', m⟩ := b
  unfold encH sameH
  dsimp only at *
  obtain ⟨W0, hW0⟩ : ∃ W0, W0 = (w.alloc (.cells #[.int .i64 c, .int .u64 z, .int .u64 f, .slice A l.length ca] 25)).alloc (.cells #[.int .i64 c', .int .u64 z', .int .u64 f', .slice B m.length cb] 25) := ⟨_, rfl⟩
  have hb0 : Below w.heap.size w W0 := by rw [hW0]; exact ((Below.refl _ w).alloc (Nat.le_refl _) _).alloc (by simp) _
  have hx : Bx W0 w.heap.size 25 [.int .i64 c, .int .u64 z, .int .u64 f, .slice A l.length ca] := by rw [hW0]; exact (Bx.new w 25 [.int .i64 c, .int .u64 z, .int .u64 f, .slice A l.length ca]).alloc _
  have hy : Bx W0 (w.heap.size + 1) 25 [.int .i64 c', .int .u64 z', .int .u64 f', .slice B m.length cb] := by
    have h := Bx.new (w.alloc (.cells #[.int .i64 c, .int .u64 z, .int .u64 f, .slice A l.length ca] 25)) 25 [.int .i64 c', .int .u64 z', .int .u64 f', .slice B m.length cb]
    rw [World.size_alloc] at h
    rw [hW0]
    exact h
  have x0 := hx.cell 0 (by simp)
  have x1 := hx.cell 1 (by simp)
  have x2 := hx.cell 2 (by simp)
  have x3 := hx.cell 3 (by simp)
  have y0 := hy.cell 0 (by simp)
  have y1 := hy.cell 1 (by simp)
  have y2 := hy.cell 2 (by simp)
  have y3 := hy.cell 3 (by simp)
  dsimp only [List.getElem_cons_zero, List.getElem_cons_succ] at x0 x1 x2 x3 y0 y1 y2 y3
  have hE := equalV_any l m A B ca cb W0 (hA.below hb0) (hB.below hb0) hl
  clear hx hy hA hB
  cases t1 : (c == c')
  · simp only [Bool.false_and]
    clear hE
    go_enter Tryd.func16, Tryd.ntmps16
    go_wp2_with fail
    rw [← hW0]
    go_wp2
    go_ret
    exact ⟨rfl, hb0⟩
  · cases t2 : (z == z')
    · simp only [Bool.false_and, Bool.true_and]
      clear hE
      go_enter Tryd.func16, Tryd.ntmps16
      go_wp2_with fail
      rw [← hW0]
      go_wp2
      go_ret
      exact ⟨rfl, hb0⟩
    · cases t3 : (f == f')
      · simp only [Bool.and_false, Bool.false_and]
        clear hE
        go_enter Tryd.func16, Tryd.ntmps16
        go_wp2_with fail
        rw [← hW0]
        go_wp2
        go_ret
        exact ⟨rfl, hb0⟩
      · simp only [Bool.true_and]
        generalize sameL l m = q at *
        go_enter Tryd.func16, Tryd.ntmps16
        go_wp2_with fail
        rw [← hW0]
        go_wp2_with fail
        refine hE.mono ?_
        rintro e w1 ⟨rfl, hb1⟩
        go_wp2
        go_ret
        exact ⟨rfl, hb0.trans (hb1.mono hb0.size)⟩
end Go.Proofs.YtjpldfkhacchdaaDoor
