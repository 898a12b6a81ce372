/-
  Several texts joined in one file: each says at its own head, below, what it proves, and its conditions.
-/
import Derived.Test.YtllgkohgcicbhaaGreatDoorZE
import Derived.Test.YtllgkohgcicbhaaGreatDoorZJ
import Derived.Test.YtllgkohgcicbhaaGreatDoorZF
/-
  slices.Equal of two rows of values answers as the plain function says; nothing that was there is changed. Conditions: the values lie in old memory.
-/
namespace Go.Proofs.YtllgkohgcicbhaaGreatDoor
open Go.RowKit

set_option maxRecDepth 100000 in
set_option maxHeartbeats 2000000 in
theorem equalV_any (l m : List MV) (A B : Option Addr) (ca cb : Nat) (w : World) (hA : ValsAt w A (rowV l)) (hB : ValsAt w B (rowV m)) (hl : l.length ≤ 9223372036854775807) :
    Calls Tryz.prog 62 #[.slice A l.length ca, .slice B m.length cb] w fun e w' => e = .returned (.bool (sameL l m)) ∧ Below w.heap.size w w' := by
  by_cases hlm : l.length = m.length
  · have t3' : ((l.length : Int) != (m.length : Int)) = false := by simp; omega
    obtain ⟨q, hq⟩ : ∃ q, q = sameL l m := ⟨_, rfl⟩
    rw [← hq]
    have HQ := Lib.hid hq
    clear hq
    obtain ⟨n, hn⟩ : ∃ n, l.length = n := ⟨_, rfl⟩
    have HN := Lib.hid hn
    have HM : Hid (m.length = n) := Lib.hid (by rw [← hlm]; exact hn)
    rw [hn] at hl t3' ⊢
    rw [HM.out] at t3' ⊢
    clear hlm hn
    go_enter Tryz.func62, Tryz.ntmps62
    go_wp2_with fail
    go_loopw [13] (fun v wr => ∃ k : Nat, k ≤ n ∧ v = .int .i64 k ∧ Below w.heap.size w wr ∧ Hid (q = sameL (l.drop k) (m.drop k))) (fun v _ => n - (intOf v).toNat)
    case atStart => exact ⟨0, Nat.zero_le _, rfl, Below.refl _ _, Lib.hid HQ.out⟩
    case round =>
      obtain ⟨k, hk, rfl, hb, HK⟩ := hrel
      by_cases hlt : k < n
      · have hkl : k < l.length := by rw [HN.out]; exact hlt
        have hkm : k < m.length := by rw [HM.out]; exact hlt
        obtain ⟨b1, o1, rfl, hl1, g1⟩ := vals_v hA (by omega)
        obtain ⟨b2, o2, rfl, hl2, g2⟩ := vals_v hB (by omega)
        obtain ⟨c1, c2⟩ := g1 k hkl
        obtain ⟨d1, d2⟩ := g2 k hkm
        have c1 := (hb.cell (p := ⟨b1, o1 + k * 2, none⟩) hl1).trans c1
        have c2 := (hb.cell (p := ⟨b1, o1 + k * 2 + 1, none⟩) hl1).trans c2
        have d1 := (hb.cell (p := ⟨b2, o2 + k * 2, none⟩) hl2).trans d1
        have d2 := (hb.cell (p := ⟨b2, o2 + k * 2 + 1, none⟩) hl2).trans d2
        have HS := Lib.hid (sameL_drop k hkl hkm)
        have hE := eqV l[k] m[k]
        have e1 : IntKind.i64.wrap ((k : Int) + 1) = ((k + 1 : Nat) : Int) := by simp only [IntKind.wrap_i64]; omega
        clear g1 g2 hA hB
        generalize l[k] = u at *
        generalize m[k] = v at *
        generalize sameV u v = z at hE HS
        obtain ⟨un, us⟩ := u
        obtain ⟨vn, vs⟩ := v
        dsimp only at *
        cases z
        · have HF : Hid (q = false) := Lib.hid (by rw [HK.out, HS.out]; rfl)
          clear HK HS
          go_wp2
          go_quiet (fail)
          go_wp2
          go_ret
          exact ⟨by rw [HF.out]; rfl, below_drewN hb _⟩
        · have HF : Hid (q = sameL (l.drop (k + 1)) (m.drop (k + 1))) := Lib.hid (by rw [HK.out, HS.out, Bool.true_and])
          clear HK HS
          go_wp2
          go_quiet (fail)
          go_wp2
          go_roundw
          case rel => exact ⟨k + 1, hlt, rfl, below_drewN hb _, HF⟩
          case measure => simp only [intOf]; omega
      · obtain rfl : k = n := by omega
        have HF : Hid (q = true) := Lib.hid (by rw [HK.out, List.drop_of_length_le (by rw [HN.out]; exact Nat.le_refl _), List.drop_of_length_le (by rw [HM.out]; exact Nat.le_refl _)]; rfl)
        clear HK hA hB
        go_wp2
        go_ret
        exact ⟨by rw [HF.out]; rfl, hb⟩
  · have t3' : ((l.length : Int) != (m.length : Int)) = true := by simp; omega
    rw [sameL_len hlm]
    clear hlm hA hB
    go_enter Tryz.func62, Tryz.ntmps62
    go_wp2
    go_ret
    exact ⟨rfl, Below.refl _ _⟩

end Go.Proofs.YtllgkohgcicbhaaGreatDoor

/-
  method.Same answers as the plain function says; nothing that was there is changed. Conditions: the values lie in old memory.
-/
namespace Go.Proofs.YtllgkohgcicbhaaGreatDoor
open Go.RowKit

set_option maxRecDepth 100000 in
set_option maxHeartbeats 2000000 in
theorem msame_any (a b : Me) (A B : Option Addr) (ca cb : Nat) (w : World) (hA : ValsAt w A (rowV a.l)) (hB : ValsAt w B (rowV b.l)) (hl : a.l.length ≤ 9223372036854775807) :
    Calls Tryz.prog 36 #[encM a A ca, encM b B cb] w fun e w' => e = .returned (.bool (sameM a b)) ∧ Below w.heap.size w w' := by
  obtain ⟨c, i, l⟩ := a
  obtain ⟨c', i', m⟩ := b
  unfold encM sameM
  dsimp only at *
  obtain ⟨W0, hW0⟩ : ∃ W0, W0 = (w.alloc (.cells #[.int .i64 c, .int .i64 i, .slice A l.length ca] 24)).alloc (.cells #[.int .i64 c', .int .i64 i', .slice B m.length cb] 24) := ⟨_, rfl⟩
  have hb0 : Below w.heap.size w W0 := by rw [hW0]; exact ((Below.refl _ w).alloc (Nat.le_refl _) _).alloc (by simp) _
  have hx : Bx W0 w.heap.size 24 [.int .i64 c, .int .i64 i, .slice A l.length ca] := by rw [hW0]; exact (Bx.new w 24 [.int .i64 c, .int .i64 i, .slice A l.length ca]).alloc _
  have hy : Bx W0 (w.heap.size + 1) 24 [.int .i64 c', .int .i64 i', .slice B m.length cb] := by
    have h := Bx.new (w.alloc (.cells #[.int .i64 c, .int .i64 i, .slice A l.length ca] 24)) 24 [.int .i64 c', .int .i64 i', .slice B m.length cb]
    rw [World.size_alloc] at h
    rw [hW0]
    exact h
  have x0 := hx.cell 0 (by simp)
  have x1 := hx.cell 1 (by simp)
  have x2 := hx.cell 2 (by simp)
  have y0 := hy.cell 0 (by simp)
  have y1 := hy.cell 1 (by simp)
  have y2 := hy.cell 2 (by simp)
  dsimp only [List.getElem_cons_zero, List.getElem_cons_succ] at x0 x1 x2 y0 y1 y2
  have hE := equalV_any l m A B ca cb W0 (hA.below hb0) (hB.below hb0) hl
  clear hx hy hA hB
  cases t1 : (c == c')
  · simp only [Bool.false_and]
    clear hE
    go_enter Tryz.func36, Tryz.ntmps36
    go_wp2_with fail
    rw [← hW0]
    go_wp2
    go_ret
    exact ⟨rfl, hb0⟩
  · cases t2 : (i == i')
    · simp only [Bool.false_and, Bool.true_and]
      clear hE
      go_enter Tryz.func36, Tryz.ntmps36
      go_wp2_with fail
      rw [← hW0]
      go_wp2
      go_ret
      exact ⟨rfl, hb0⟩
    · simp only [Bool.true_and]
      generalize sameL l m = q at *
      go_enter Tryz.func36, Tryz.ntmps36
      go_wp2_with fail
      rw [← hW0]
      go_wp2_with fail
      refine hE.mono ?_
      rintro e w1 ⟨rfl, hb1⟩
      go_wp2
      go_ret
      exact ⟨rfl, hb0.trans (hb1.mono hb0.size)⟩
end Go.Proofs.YtllgkohgcicbhaaGreatDoor

/-
  props.Same answers as the plain function says; nothing that was there is changed. Conditions: the values lie in old memory.
-/
namespace Go.Proofs.YtllgkohgcicbhaaGreatDoor
open Go.RowKit

set_option maxRecDepth 100000 in
set_option maxHeartbeats 2000000 in
theorem psame_any (a b : He) (A B : Option Addr) (ca cb : Nat) (w : World) (hA : ValsAt w A (rowV a.l)) (hB : ValsAt w B (rowV b.l)) (hl : a.l.length ≤ 9223372036854775807) :
    Calls Tryz.prog 37 #[encH a A ca, encH b B cb] w fun e w' => e = .returned (.bool (sameH a b)) ∧ Below w.heap.size w w' := by
  obtain ⟨c, z, f, l⟩ := a
  obtain ⟨c', z', f', m⟩ := b
  unfold encH sameH
  dsimp only at *
  obtain ⟨W0, hW0⟩ : ∃ W0, W0 = (w.alloc (.cells #[.int .i64 c, .int .u64 z, .int .u64 f, .slice A l.length ca] 27)).alloc (.cells #[.int .i64 c', .int .u64 z', .int .u64 f', .slice B m.length cb] 27) := ⟨_, rfl⟩
  have hb0 : Below w.heap.size w W0 := by rw [hW0]; exact ((Below.refl _ w).alloc (Nat.le_refl _) _).alloc (by simp) _
  have hx : Bx W0 w.heap.size 27 [.int .i64 c, .int .u64 z, .int .u64 f, .slice A l.length ca] := by rw [hW0]; exact (Bx.new w 27 [.int .i64 c, .int .u64 z, .int .u64 f, .slice A l.length ca]).alloc _
  have hy : Bx W0 (w.heap.size + 1) 27 [.int .i64 c', .int .u64 z', .int .u64 f', .slice B m.length cb] := by
    have h := Bx.new (w.alloc (.cells #[.int .i64 c, .int .u64 z, .int .u64 f, .slice A l.length ca] 27)) 27 [.int .i64 c', .int .u64 z', .int .u64 f', .slice B m.length cb]
    rw [World.size_alloc] at h
    rw [hW0]
    exact h
  have x0 := hx.cell 0 (by simp)
  have x1 := hx.cell 1 (by simp)
  have x2 := hx.cell 2 (by simp)
  have x3 := hx.cell 3 (by simp)
  have y0 := hy.cell 0 (by simp)
  have y1 := hy.cell 1 (by simp)
  have y2 := hy.cell 2 (by simp)
  have y3 := hy.cell 3 (by simp)
  dsimp only [List.getElem_cons_zero, List.getElem_cons_succ] at x0 x1 x2 x3 y0 y1 y2 y3
  have hE := equalV_any l m A B ca cb W0 (hA.below hb0) (hB.below hb0) hl
  clear hx hy hA hB
  cases t1 : (c == c')
  · simp only [Bool.false_and]
    clear hE
    go_enter Tryz.func37, Tryz.ntmps37
    go_wp2_with fail
    rw [← hW0]
    go_wp2
    go_ret
    exact ⟨rfl, hb0⟩
  · cases t2 : (z == z')
    · simp only [Bool.false_and, Bool.true_and]
      clear hE
      go_enter Tryz.func37, Tryz.ntmps37
      go_wp2_with fail
      rw [← hW0]
      go_wp2
      go_ret
      exact ⟨rfl, hb0⟩
    · cases t3 : (f == f')
      · simp only [Bool.and_false, Bool.false_and]
        clear hE
        go_enter Tryz.func37, Tryz.ntmps37
        go_wp2_with fail
        rw [← hW0]
        go_wp2
        go_ret
        exact ⟨rfl, hb0⟩
      · simp only [Bool.true_and]
        generalize sameL l m = q at *
        go_enter Tryz.func37, Tryz.ntmps37
        go_wp2_with fail
        rw [← hW0]
        go_wp2_with fail
        refine hE.mono ?_
        rintro e w1 ⟨rfl, hb1⟩
        go_wp2
        go_ret
        exact ⟨rfl, hb0.trans (hb1.mono hb0.size)⟩
end Go.Proofs.YtllgkohgcicbhaaGreatDoor
