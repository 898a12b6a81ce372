/-
  Several texts joined in one file: each says at its own head, below, what it proves, and its conditions.
-/
import Derived.Laws.StructEq
import Derived.Test.YtllgkohgcicbhaaGreatDoorZE
import Derived.BigQuiet
import Derived.Deep.QuietTactic
import Derived.Test.YtllgkohgcicbhaaGreatDoorZJ
import Derived.Test.YtllgkohgcicbhaaGreatDoorZA
import Derived.Test.YtllgkohgcicbhaaGreatDoorZF
import Derived.Test.YtllgkohgcicbhaaGreatDoorJC1
import Derived.Laws.OwnMore
/-
  The document's own Same, Arg and With of chapter 6 answer as the plain functions say; nothing that was there is changed. Conditions: the values lie in old memory, of at most 2^47 bytes.
-/
namespace Go.Proofs.YtllgkohgcicbhaaGreatDoor
open Go.RowKit

set_option maxRecDepth 100000 in
set_option maxHeartbeats 2000000 in
theorem rsame_any (a b : Me) (A B : Option Addr) (ca cb : Nat) (w : World) (hA : ValsAt w A (rowV a.l)) (hB : ValsAt w B (rowV b.l)) (hl : a.l.length ≤ 9223372036854775807) :
    Calls Tryz.prog 30 #[encM a A ca, encM b B cb] w fun e w' => e = .returned (.bool (sameM a b)) ∧ Below w.heap.size w w' := by
  obtain ⟨c, i, l⟩ := a
  obtain ⟨c', i', m⟩ := b
  unfold encM sameM
  dsimp only at *
  obtain ⟨W0, hW0⟩ : ∃ W0, W0 = (w.alloc (.cells #[.int .i64 c, .int .i64 i, .slice A l.length ca] 24)).alloc (.cells #[.int .i64 c', .int .i64 i', .slice B m.length cb] 24) := ⟨_, rfl⟩
  have hb0 : Below w.heap.size w W0 := by rw [hW0]; exact ((Below.refl _ w).alloc (Nat.le_refl _) _).alloc (by simp) _
  have hx : Bx W0 w.heap.size 24 [.int .i64 c, .int .i64 i, .slice A l.length ca] := by rw [hW0]; exact (Bx.new w 24 [.int .i64 c, .int .i64 i, .slice A l.length ca]).alloc _
  have hy : Bx W0 (w.heap.size + 1) 24 [.int .i64 c', .int .i64 i', .slice B m.length cb] := by
    have h := Bx.new (w.alloc (.cells #[.int .i64 c, .int .i64 i, .slice A l.length ca] 24)) 24 [.int .i64 c', .int .i64 i', .slice B m.length cb]
    rw [World.size_alloc] at h
    rw [hW0]
    exact h
  have keep : ∀ w', Below W0.heap.size W0 w' → w'.cell? ⟨w.heap.size, 0, none⟩ = some (.int .i64 c) ∧ w'.cell? ⟨w.heap.size, 1, none⟩ = some (.int .i64 i) ∧ w'.cell? ⟨w.heap.size, 2, none⟩ = some (.slice A l.length ca) ∧ w'.cell? ⟨w.heap.size + 1, 0, none⟩ = some (.int .i64 c') ∧ w'.cell? ⟨w.heap.size + 1, 1, none⟩ = some (.int .i64 i') ∧ w'.cell? ⟨w.heap.size + 1, 2, none⟩ = some (.slice B m.length cb) := fun w' h => ⟨(hx.kept h).cell 0 (by simp), (hx.kept h).cell 1 (by simp), (hx.kept h).cell 2 (by simp), (hy.kept h).cell 0 (by simp), (hy.kept h).cell 1 (by simp), (hy.kept h).cell 2 (by simp)⟩
  obtain ⟨x0, x1, x2, y0, y1, y2⟩ := keep W0 (Below.refl _ _)
  have hA0 := hA.below hb0
  have hB0 := hB.below hb0
  clear hx hy hA hB
  cases t1 : (c == c')
  · have t1' : (c != c') = true := by rw [bne, t1]; rfl
    clear t1 hA0 hB0 keep
    rw [Bool.false_and, Bool.false_and]
    go_enter Tryz.func30, Tryz.ntmps30
    go_wp2
    go_ret
    rw [← hW0]
    exact ⟨rfl, hb0⟩
  · have t1' : (c != c') = false := by rw [bne, t1]; rfl
    clear t1
    rw [Bool.true_and]
    cases t2 : (i == i')
    · have t2' : (i != i') = true := by rw [bne, t2]; rfl
      clear t2 hA0 hB0 keep
      rw [Bool.false_and]
      go_enter Tryz.func30, Tryz.ntmps30
      go_wp2
      go_ret
      rw [← hW0]
      exact ⟨rfl, hb0⟩
    · have t2' : (i != i') = false := by rw [bne, t2]; rfl
      clear t2
      rw [Bool.true_and]
      by_cases hlm : l.length = m.length
      · have t3' : ((l.length : Int) != (m.length : Int)) = false := by simp; omega
        obtain ⟨q, hq⟩ : ∃ q, q = sameL l m := ⟨_, rfl⟩
        rw [← hq]
        have HQ := Lib.hid hq
        clear hq
        obtain ⟨n, hn⟩ : ∃ n, l.length = n := ⟨_, rfl⟩
        have HN := Lib.hid hn
        have HM : Hid (m.length = n) := Lib.hid (by rw [← hlm]; exact hn)
        rw [hn] at keep x2 hW0 hl t3' ⊢
        rw [HM.out] at keep y2 hW0 t3' ⊢
        clear hlm hn
        go_enter Tryz.func30, Tryz.ntmps30
        go_wp2_with fail
        rw [← hW0]
        clear hW0
        go_loopw [5] (fun v wr => ∃ k : Nat, k ≤ n ∧ v = .int .i64 k ∧ Below W0.heap.size W0 wr ∧ Hid (q = sameL (l.drop k) (m.drop k))) (fun v _ => n - (intOf v).toNat)
        case atStart => exact ⟨0, Nat.zero_le _, rfl, Below.refl _ _, Lib.hid HQ.out⟩
        case round =>
          obtain ⟨k, hk, rfl, hb, HK⟩ := hrel
          obtain ⟨p0, p1, p2, q0, q1, q2⟩ := keep wr hb
          clear keep x0 x1 x2 y0 y1 y2
          by_cases hlt : k < n
          · have hkl : k < l.length := by rw [HN.out]; exact hlt
            have hkm : k < m.length := by rw [HM.out]; exact hlt
            obtain ⟨b1, o1, rfl, hl1, g1⟩ := vals_v hA0 (by omega)
            obtain ⟨b2, o2, rfl, hl2, g2⟩ := vals_v hB0 (by omega)
            obtain ⟨c1, c2⟩ := g1 k hkl
            obtain ⟨d1, d2⟩ := g2 k hkm
            have c1 := (hb.cell (p := ⟨b1, o1 + k * 2, none⟩) hl1).trans c1
            have c2 := (hb.cell (p := ⟨b1, o1 + k * 2 + 1, none⟩) hl1).trans c2
            have d1 := (hb.cell (p := ⟨b2, o2 + k * 2, none⟩) hl2).trans d1
            have d2 := (hb.cell (p := ⟨b2, o2 + k * 2 + 1, none⟩) hl2).trans d2
            have HS := Lib.hid (sameL_drop k hkl hkm)
            have hE := eqV l[k] m[k]
            have e1 : IntKind.i64.wrap ((k : Int) + 1) = ((k + 1 : Nat) : Int) := by simp only [IntKind.wrap_i64]; omega
            clear g1 g2 hA0 hB0
            generalize l[k] = u at *
            generalize m[k] = v at *
            generalize sameV u v = z at hE HS
            obtain ⟨un, us⟩ := u
            obtain ⟨vn, vs⟩ := v
            dsimp only at *
            cases z
            · have HF : Hid (q = false) := Lib.hid (by rw [HK.out, HS.out]; rfl)
              clear HK HS
              go_wp2
              go_quiet (fail)
              go_wp2
              go_ret
              exact ⟨by rw [HF.out]; rfl, below_drewN (hb0.trans (hb.mono hb0.size)) _⟩
            · have HF : Hid (q = sameL (l.drop (k + 1)) (m.drop (k + 1))) := Lib.hid (by rw [HK.out, HS.out, Bool.true_and])
              clear HK HS
              go_wp2
              go_quiet (fail)
              go_wp2
              go_roundw
              case rel => exact ⟨k + 1, hlt, rfl, below_drewN hb _, HF⟩
              case measure => simp only [intOf]; omega
          · obtain rfl : k = n := by omega
            have HF : Hid (q = true) := Lib.hid (by rw [HK.out, List.drop_of_length_le (by rw [HN.out]; exact Nat.le_refl _), List.drop_of_length_le (by rw [HM.out]; exact Nat.le_refl _)]; rfl)
            clear HK hA0 hB0
            go_wp2
            go_ret
            exact ⟨by rw [HF.out]; rfl, hb0.trans (hb.mono hb0.size)⟩
      · have t3' : ((l.length : Int) != (m.length : Int)) = true := by simp; omega
        rw [sameL_len hlm]
        clear hlm hA0 hB0 keep
        go_enter Tryz.func30, Tryz.ntmps30
        go_wp2
        go_ret
        rw [← hW0]
        exact ⟨rfl, hb0⟩
end Go.Proofs.YtllgkohgcicbhaaGreatDoor

/-
  The document's own Same of chapter 7 answers as the plain function says; nothing that was there is changed. Conditions: the values lie in old memory.
-/
namespace Go.Proofs.YtllgkohgcicbhaaGreatDoor
open Go.RowKit

set_option maxRecDepth 100000 in
set_option maxHeartbeats 2000000 in
theorem rpsame_any (a b : He) (A B : Option Addr) (ca cb : Nat) (w : World) (hA : ValsAt w A (rowV a.l)) (hB : ValsAt w B (rowV b.l)) (hl : a.l.length ≤ 9223372036854775807) :
    Calls Tryz.prog 31 #[encH a A ca, encH b B cb] w fun e w' => e = .returned (.bool (sameH a b)) ∧ Below w.heap.size w w' := by
  obtain ⟨c, z, f, l⟩ := a
  obtain ⟨c', z', f', m⟩ := b
  unfold encH sameH
  dsimp only at *
  obtain ⟨W0, hW0⟩ : ∃ W0, W0 = (w.alloc (.cells #[.int .i64 c, .int .u64 z, .int .u64 f, .slice A l.length ca] 27)).alloc (.cells #[.int .i64 c', .int .u64 z', .int .u64 f', .slice B m.length cb] 27) := ⟨_, rfl⟩
  have hb0 : Below w.heap.size w W0 := by rw [hW0]; exact ((Below.refl _ w).alloc (Nat.le_refl _) _).alloc (by simp) _
  have hx : Bx W0 w.heap.size 27 [.int .i64 c, .int .u64 z, .int .u64 f, .slice A l.length ca] := by rw [hW0]; exact (Bx.new w 27 [.int .i64 c, .int .u64 z, .int .u64 f, .slice A l.length ca]).alloc _
  have hy : Bx W0 (w.heap.size + 1) 27 [.int .i64 c', .int .u64 z', .int .u64 f', .slice B m.length cb] := by
    have h := Bx.new (w.alloc (.cells #[.int .i64 c, .int .u64 z, .int .u64 f, .slice A l.length ca] 27)) 27 [.int .i64 c', .int .u64 z', .int .u64 f', .slice B m.length cb]
    rw [World.size_alloc] at h
    rw [hW0]
    exact h
  have keep : ∀ w', Below W0.heap.size W0 w' → (w'.cell? ⟨w.heap.size, 0, none⟩ = some (.int .i64 c) ∧ w'.cell? ⟨w.heap.size, 1, none⟩ = some (.int .u64 z) ∧ w'.cell? ⟨w.heap.size, 2, none⟩ = some (.int .u64 f) ∧ w'.cell? ⟨w.heap.size, 3, none⟩ = some (.slice A l.length ca)) ∧ w'.cell? ⟨w.heap.size + 1, 0, none⟩ = some (.int .i64 c') ∧ w'.cell? ⟨w.heap.size + 1, 1, none⟩ = some (.int .u64 z') ∧ w'.cell? ⟨w.heap.size + 1, 2, none⟩ = some (.int .u64 f') ∧ w'.cell? ⟨w.heap.size + 1, 3, none⟩ = some (.slice B m.length cb) := fun w' h => ⟨⟨(hx.kept h).cell 0 (by simp), (hx.kept h).cell 1 (by simp), (hx.kept h).cell 2 (by simp), (hx.kept h).cell 3 (by simp)⟩, (hy.kept h).cell 0 (by simp), (hy.kept h).cell 1 (by simp), (hy.kept h).cell 2 (by simp), (hy.kept h).cell 3 (by simp)⟩
  obtain ⟨⟨x0, x1, x2, x3⟩, y0, y1, y2, y3⟩ := keep W0 (Below.refl _ _)
  have hA0 := hA.below hb0
  have hB0 := hB.below hb0
  clear hx hy hA hB
  cases t1 : (c == c')
  · have t1' : (c != c') = true := by rw [bne, t1]; rfl
    simp only [Bool.false_and]
    clear t1 hA0 hB0 keep
    go_enter Tryz.func31, Tryz.ntmps31
    go_wp2
    go_ret
    rw [← hW0]
    exact ⟨rfl, hb0⟩
  · have t1' : (c != c') = false := by rw [bne, t1]; rfl
    clear t1
    cases t2 : (z == z')
    · have t2' : (z != z') = true := by rw [bne, t2]; rfl
      simp only [Bool.false_and, Bool.true_and]
      clear t2 hA0 hB0 keep
      go_enter Tryz.func31, Tryz.ntmps31
      go_wp2
      go_ret
      rw [← hW0]
      exact ⟨rfl, hb0⟩
    · have t2' : (z != z') = false := by rw [bne, t2]; rfl
      clear t2
      cases t3 : (f == f')
      · have t3' : (f != f') = true := by rw [bne, t3]; rfl
        simp only [Bool.and_false, Bool.false_and]
        clear t3 hA0 hB0 keep
        go_enter Tryz.func31, Tryz.ntmps31
        go_wp2
        go_ret
        rw [← hW0]
        exact ⟨rfl, hb0⟩
      · have t3' : (f != f') = false := by rw [bne, t3]; rfl
        clear t3
        try simp only [Bool.true_and]
        by_cases hlm : l.length = m.length
        · have t3' : ((l.length : Int) != (m.length : Int)) = false := by simp; omega
          obtain ⟨q, hq⟩ : ∃ q, q = sameL l m := ⟨_, rfl⟩
          rw [← hq]
          have HQ := Lib.hid hq
          clear hq
          obtain ⟨n, hn⟩ : ∃ n, l.length = n := ⟨_, rfl⟩
          have HN := Lib.hid hn
          have HM : Hid (m.length = n) := Lib.hid (by rw [← hlm]; exact hn)
          rw [hn] at keep x3 hW0 hl t3' ⊢
          rw [HM.out] at keep y3 hW0 t3' ⊢
          clear hlm hn
          go_enter Tryz.func31, Tryz.ntmps31
          go_wp2_with fail
          rw [← hW0]
          clear hW0
          go_loopw [5] (fun v wr => ∃ k : Nat, k ≤ n ∧ v = .int .i64 k ∧ Below W0.heap.size W0 wr ∧ Hid (q = sameL (l.drop k) (m.drop k))) (fun v _ => n - (intOf v).toNat)
          case atStart => exact ⟨0, Nat.zero_le _, rfl, Below.refl _ _, Lib.hid HQ.out⟩
          case round =>
            obtain ⟨k, hk, rfl, hb, HK⟩ := hrel
            obtain ⟨⟨p0, p1, p2, p3⟩, q0, q1, q2, q3⟩ := keep wr hb
            clear keep x0 x1 x2 x3 y0 y1 y2 y3
            by_cases hlt : k < n
            · have hkl : k < l.length := by rw [HN.out]; exact hlt
              have hkm : k < m.length := by rw [HM.out]; exact hlt
              obtain ⟨b1, o1, rfl, hl1, g1⟩ := vals_v hA0 (by omega)
              obtain ⟨b2, o2, rfl, hl2, g2⟩ := vals_v hB0 (by omega)
              obtain ⟨c1, c2⟩ := g1 k hkl
              obtain ⟨d1, d2⟩ := g2 k hkm
              have c1 := (hb.cell (p := ⟨b1, o1 + k * 2, none⟩) hl1).trans c1
              have c2 := (hb.cell (p := ⟨b1, o1 + k * 2 + 1, none⟩) hl1).trans c2
              have d1 := (hb.cell (p := ⟨b2, o2 + k * 2, none⟩) hl2).trans d1
              have d2 := (hb.cell (p := ⟨b2, o2 + k * 2 + 1, none⟩) hl2).trans d2
              have HS := Lib.hid (sameL_drop k hkl hkm)
              have hE := eqV l[k] m[k]
              have e1 : IntKind.i64.wrap ((k : Int) + 1) = ((k + 1 : Nat) : Int) := by simp only [IntKind.wrap_i64]; omega
              clear g1 g2 hA0 hB0
              generalize l[k] = u at *
              generalize m[k] = v at *
              generalize sameV u v = z at hE HS
              obtain ⟨un, us⟩ := u
              obtain ⟨vn, vs⟩ := v
              dsimp only at *
              cases z
              · have HF : Hid (q = false) := Lib.hid (by rw [HK.out, HS.out]; rfl)
                clear HK HS
                go_wp2
                go_quiet (fail)
                go_wp2
                go_ret
                exact ⟨by rw [HF.out]; rfl, below_drewN (hb0.trans (hb.mono hb0.size)) _⟩
              · have HF : Hid (q = sameL (l.drop (k + 1)) (m.drop (k + 1))) := Lib.hid (by rw [HK.out, HS.out, Bool.true_and])
                clear HK HS
                go_wp2
                go_quiet (fail)
                go_wp2
                go_roundw
                case rel => exact ⟨k + 1, hlt, rfl, below_drewN hb _, HF⟩
                case measure => simp only [intOf]; omega
            · obtain rfl : k = n := by omega
              have HF : Hid (q = true) := Lib.hid (by rw [HK.out, List.drop_of_length_le (by rw [HN.out]; exact Nat.le_refl _), List.drop_of_length_le (by rw [HM.out]; exact Nat.le_refl _)]; rfl)
              clear HK hA0 hB0
              go_wp2
              go_ret
              exact ⟨by rw [HF.out]; rfl, hb0.trans (hb.mono hb0.size)⟩
        · have t3' : ((l.length : Int) != (m.length : Int)) = true := by simp; omega
          rw [sameL_len hlm]
          clear hlm hA0 hB0 keep
          go_enter Tryz.func31, Tryz.ntmps31
          go_wp2
          go_ret
          rw [← hW0]
          exact ⟨rfl, hb0⟩
end Go.Proofs.YtllgkohgcicbhaaGreatDoor

/-
  The document's own Same of chapter 8 answers as the plain function says; nothing that was there is changed. Conditions: the values lie in old memory.
-/
namespace Go.Proofs.YtllgkohgcicbhaaGreatDoor
open Go.RowKit

set_option maxRecDepth 100000 in
set_option maxHeartbeats 2000000 in
theorem rcsame_any (a b : Cm) (A B A' B' : Option Addr) (ca cb ca' cb' : Nat) (w : World) (ha : CmAt w a A B ca cb) (hb : CmAt w b A' B' ca' cb') (hl : shortC a) :
    Calls Tryz.prog 13 #[encC a A B ca cb, encC b A' B' ca' cb'] w fun e w' => e = .returned (.bool (sameC a b)) ∧ Below w.heap.size w w' := by
  obtain ⟨W0, hW0⟩ : ∃ W0, W0 = (w.alloc (.cells (cellsC a A B ca cb).toArray 29)).alloc (.cells (cellsC b A' B' ca' cb').toArray 29) := ⟨_, rfl⟩
  have hb0 : Below w.heap.size w W0 := by rw [hW0]; exact ((Below.refl _ w).alloc (Nat.le_refl _) _).alloc (by simp) _
  have hx : Bx W0 w.heap.size 29 (cellsC a A B ca cb) := by rw [hW0]; exact (Bx.new w 29 (cellsC a A B ca cb)).alloc _
  have hy : Bx W0 (w.heap.size + 1) 29 (cellsC b A' B' ca' cb') := by
    have h := Bx.new (w.alloc (.cells (cellsC a A B ca cb).toArray 29)) 29 (cellsC b A' B' ca' cb')
    rw [World.size_alloc] at h
    rw [hW0]
    exact h
  have hM := fun W hA hB => rsame_any a.m b.m A A' ca ca' W hA hB hl.1
  have hH := fun W hA hB => rpsame_any a.h b.h B B' cb cb' W hA hB hl.2
  have HC : Hid (sameC a b = ((sameM a.m b.m && sameH a.h b.h) && (a.b.toList == b.b.toList))) := Lib.hid rfl
  generalize sameC a b = q at HC ⊢
  generalize sameM a.m b.m = q1 at hM HC
  generalize sameH a.h b.h = q2 at hH HC
  have va := ha.va
  have vb := ha.vb
  have va' := hb.va
  have vb' := hb.vb
  unfold encM at hM
  unfold encH at hH
  unfold cellsC at hx hy hW0
  unfold encC
  clear ha hb hl
  obtain ⟨⟨mc, mi, ml⟩, ⟨hc, hz, hf, hl⟩, sb⟩ := a
  obtain ⟨⟨mc', mi', ml'⟩, ⟨hc', hz', hf', hl'⟩, sb'⟩ := b
  dsimp only at *
  go_enter Tryz.func13, Tryz.ntmps13
  go_wp2_with fail
  rw [← hW0]
  clear hW0
  obtain ⟨x0, x1, x2, x3, x4, x5, x6, x7⟩ := hx.eight
  obtain ⟨y0, y1, y2, y3, y4, y5, y6, y7⟩ := hy.eight
  go_wp2_with fail
  with_reducible refine (hM _ (va.below hb0) (va'.below hb0)).mono ?_
  rintro e w1 ⟨rfl, hb1⟩
  have hB1 := hb0.trans (hb1.mono hb0.size)
  have hx1 := hx.kept hb1
  have hy1 := hy.kept hb1
  clear hM hx hy hb1 hb0 x0 x1 x2 x3 x4 x5 x6 x7 y0 y1 y2 y3 y4 y5 y6 y7
  obtain ⟨x0, x1, x2, x3, x4, x5, x6, x7⟩ := hx1.eight
  obtain ⟨y0, y1, y2, y3, y4, y5, y6, y7⟩ := hy1.eight
  go_wp2_with fail
  with_reducible refine (hH _ (vb.below hB1) (vb'.below hB1)).mono ?_
  rintro e w2 ⟨rfl, hb2⟩
  have hB2 := hB1.trans (hb2.mono hB1.size)
  have hx2 := hx1.kept hb2
  have hy2 := hy1.kept hb2
  clear hH hx1 hy1 hb2 hB1 x0 x1 x2 x3 x4 x5 x6 x7 y0 y1 y2 y3 y4 y5 y6 y7
  have x7 := hx2.eight.2.2.2.2.2.2.2
  have y7 := hy2.eight.2.2.2.2.2.2.2
  generalize hq3 : (sb.toList == sb'.toList) = q3 at HC
  cases q1
  · have HF : Hid (q = false) := Lib.hid (by rw [HC.out]; rfl)
    clear HC hq3 hx2 hy2
    go_wp2
    go_ret
    exact ⟨by rw [HF.out]; rfl, hB2⟩
  · cases q2
    · have HF : Hid (q = false) := Lib.hid (by rw [HC.out]; rfl)
      clear HC hq3 hx2 hy2
      go_wp2
      go_ret
      exact ⟨by rw [HF.out]; rfl, hB2⟩
    · have HF : Hid (q = q3) := Lib.hid (by rw [HC.out]; rfl)
      clear HC hx2 hy2
      cases q3
      · go_wp2
        go_ret
        exact ⟨by rw [HF.out]; rfl, hB2⟩
      · go_wp2
        go_ret
        exact ⟨by rw [HF.out]; rfl, hB2⟩
end Go.Proofs.YtllgkohgcicbhaaGreatDoor

/-
  The document's own Content answers as the program's; nothing that was there is changed. No condition.
-/
namespace Go.Proofs.YtllgkohgcicbhaaGreatDoor
open Go.RowKit

set_option maxHeartbeats 2000000 in
theorem rcontent_any (c i : Int) (w : World) :
    Calls Tryz.prog 44 #[.int .i64 c, .int .i64 i] w fun e w' => e = .returned (.bool (sCont c i)) ∧ w = w' := by
  go_enter Tryz.func44, Tryz.ntmps44
  go_wp2
  all_goals (go_ret; refine ⟨?_, rfl⟩; simp_all [sCont])
end Go.Proofs.YtllgkohgcicbhaaGreatDoor
