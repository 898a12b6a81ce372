/-
  DialWrong: a method at a wrong time, or of another class, is the broker's fault, but close: the law returns true, and changes nothing that was there. Conditions: the table of widths is as its text lays it; the method's values are numbers and texts of fewer than 2^47 bytes, and lie in old memory; user and word have fewer than 2^60 bytes; the state is a number of 64 bits.
-/
import Derived.Test.YtkdiccedkjbpeaaGreatDoorRKE
import Derived.Test.YtkdiccedkjbpeaaGreatDoorRWDial6
import Derived.Test.YtkdiccedkjbpeaaGreatDoorRKK
namespace Go.Proofs.YtkdiccedkjbpeaaGreatDoorR
open Go.RowKit

theorem dsaid_none {n : Nat} {w : World} {A : Option Addr} {k : Nat} (h : DSaid n w A k []) : A = none ∧ k = 0 := h
theorem dsaid_one {n : Nat} {w : World} {A : Option Addr} {k : Nat} {m : Me} (h : DSaid n w A k [m]) : k = 1 ∧ ∃ b A' c, A = some ⟨b, 0, none⟩ ∧ n ≤ b ∧ Bx w b 39 [.int .i64 m.c, .int .i64 m.i, .slice A' m.l.length c] ∧ RowAt n w A' m.l := h
set_option maxRecDepth 100000 in
set_option maxHeartbeats 4000000 in
theorem dialWrong_walk (h : Hd) (m : Me) (A : Option Addr) (cap : Nat) (w : World) (hw : Wid w) (hv : wfM m) (hA : ValsAt w A (rowV m.l)) (hb : -9223372036854775808 ≤ h.st ∧ h.st ≤ 9223372036854775807) (hus : h.us.size < 1152921504606846976) (hwo : h.wo.size < 1152921504606846976) : Calls Tryz.prog 5 #[encHd h, encM m A cap] w fun e w' => e = .returned (.bool true) ∧ Below w.heap.size w w' := by
  have hk := dTake_wrong h m
  have hTk := fun W (hb1 : Below w.heap.size w W) => dTake_any h m A cap W (hw.below hb1) hv (hA.below hb1) hb hus hwo (fun k => by have h := (argV_wf hv k).2.2; omega)
  have hSh := fun W (_ : Below w.heap.size w W) => dshown_any W
  generalize dTake h m = r at *
  unfold DnPost encHd encM at hTk
  unfold encHd encM
  unfold DWr at hk
  obtain ⟨st, ch, fr, bt, us, wo, ho⟩ := h
  obtain ⟨mc, mi, ml⟩ := m
  obtain ⟨⟨p0, p1, p2, p3, p4, p5, p6⟩, ps, pe⟩ := r
  dsimp only at *
  obtain ⟨W0, hW0⟩ : ∃ W0, W0 = (w.alloc (.cells #[.int .i64 st, .int .i64 ch, .int .i64 fr, .int .i64 bt, .string us, .string wo, .string ho] 28)).alloc (.cells #[.int .i64 mc, .int .i64 mi, .slice A ml.length cap] 39) := ⟨_, rfl⟩
  have hb0 : Below w.heap.size w W0 := by rw [hW0]; exact ((Below.refl _ w).alloc (Nat.le_refl _) _).alloc (by simp) _
  have hx : Bx W0 w.heap.size 28 [.int .i64 st, .int .i64 ch, .int .i64 fr, .int .i64 bt, .string us, .string wo, .string ho] := by rw [hW0]; exact (Bx.new w 28 [.int .i64 st, .int .i64 ch, .int .i64 fr, .int .i64 bt, .string us, .string wo, .string ho]).alloc _
  have hm : Bx W0 (w.heap.size + 1) 39 [.int .i64 mc, .int .i64 mi, .slice A ml.length cap] := by
    have h := Bx.new (w.alloc (.cells #[.int .i64 st, .int .i64 ch, .int .i64 fr, .int .i64 bt, .string us, .string wo, .string ho] 28)) 39 [.int .i64 mc, .int .i64 mi, .slice A ml.length cap]
    rw [World.size_alloc] at h
    rw [hW0]; exact h
  have hSh0 := hSh W0 hb0
  clear hw hv hA hSh hb hus hwo
  go_enter Tryz.func5, Tryz.ntmps5
  go_wp2_with fail
  rw [← hW0]
  clear hW0
  with_reducible refine hSh0.mono ?_
  rintro e w1 ⟨rfl, hb1⟩
  have hB := hb0.trans (hb1.mono hb0.size)
  replace hx := hx.kept hb1
  replace hm := hm.kept hb1
  clear hSh0 hb0 hb1
  have hT1 := hTk w1 hB
  obtain ⟨x0, x1, x2, x3, x4, x5, x6⟩ := hx.seven
  obtain ⟨m0, m1, m2⟩ := hm.three
  go_wp2_with fail
  with_reducible refine hT1.mono ?_
  rintro e w2 ⟨A2, k2, c2, rfl, hS, hb2⟩
  have hB2 := hB.trans (hb2.mono hB.size)
  replace hx := hx.kept hb2
  replace hm := hm.kept hb2
  clear hTk hT1 hB x0 x1 x2 x3 x4 x5 x6 m0 m1 m2
  obtain ⟨W3, hW3⟩ : ∃ W3, W3 = w2.alloc (.cells #[.int .i64 p0, .int .i64 p1, .int .i64 p2, .int .i64 p3, .string p4, .string p5, .string p6] 28) := ⟨_, rfl⟩
  have hb3 : Below w2.heap.size w2 W3 := by rw [hW3]; exact (Below.refl _ w2).alloc (Nat.le_refl _) _
  have hk3 : Bx W3 w2.heap.size 28 [.int .i64 p0, .int .i64 p1, .int .i64 p2, .int .i64 p3, .string p4, .string p5, .string p6] := by rw [hW3]; exact Bx.new w2 _ _
  have hS3 := hS.below (Nat.zero_le _) hb3
  have hB3 := hB2.trans (hb3.mono hB2.size)
  replace hx := hx.kept hb3
  replace hm := hm.kept hb3
  obtain ⟨x0, x1, x2, x3, x4, x5, x6⟩ := hx.seven
  obtain ⟨m0, m1, m2⟩ := hm.three
  obtain ⟨q0, q1, q2, q3, q4, q5, q6⟩ := hk3.seven
  clear hb2 hB2 hb3 hx hm hk3 hS
  go_upto_region 3 with fail
  rw [← hW3]
  clear hW3
  rcases hk with hk | hk | hk | ⟨⟨hl, hh⟩, h7, hk⟩
  · clear hS3
    go_wp2
    all_goals
      go_ret
      exact ⟨rfl, hB3⟩
  · clear hS3
    have hl : ¬ st < 1 := by omega
    go_wp2
    all_goals
      go_ret
      exact ⟨rfl, hB3⟩
  · clear hS3
    subst hk
    by_cases h1 : st < 1
    · go_wp2
      all_goals
        go_ret
        exact ⟨rfl, hB3⟩
    · by_cases h2 : 4 < st
      · go_wp2
        all_goals
          go_ret
          exact ⟨rfl, hB3⟩
      · go_wp2
        all_goals
          go_ret
          exact ⟨rfl, hB3⟩
  · have hl2 : ¬ st < 1 := by omega
    have hh2 : ¬ 4 < st := by omega
    have e7 : (pe == 7) = false := beq_eq_false_iff_ne.2 h7
    rcases hk with ⟨hc, rfl, hk, rfl⟩ | ⟨rfl, rfl, rfl, rfl, rfl⟩ | ⟨rfl, hi, he, hk⟩ | ⟨rfl, hi, rfl, rfl⟩ | ⟨rfl, hi, rfl, rfl, hk⟩
    · cases hk
      obtain ⟨rfl, rfl⟩ := dsaid_none hS3
      clear hS3 h7 e7
      have e1 : (mc != 10) = true := bne_iff_ne.2 hc
      go_wp2
      all_goals
        go_ret
        exact ⟨rfl, hB3⟩
    · obtain ⟨rfl, b9, A9, c9, rfl, -, bx, -⟩ := dsaid_one hS3
      obtain ⟨s0, s1, s2⟩ := bx.three
      clear hS3 h7 e7 bx
      go_wp2
      all_goals
        go_ret
        exact ⟨rfl, hB3⟩
    · cases hk
      clear hS3
      have e1 : (mi == 50) = false := beq_eq_false_iff_ne.2 hi
      have e3 : (pe != 0) = true := bne_iff_ne.2 he
      have e4 : (pe == 0) = false := beq_eq_false_iff_ne.2 he
      go_wp2
      all_goals
        go_ret
        exact ⟨rfl, hB3⟩
    · clear hS3 h7 e7
      have e1 : (mi == 50) = false := beq_eq_false_iff_ne.2 hi
      go_wp2
      all_goals
        go_ret
        exact ⟨rfl, hB3⟩
    · cases hk
      clear hS3 h7 e7
      have e1 : (mi == 50) = false := beq_eq_false_iff_ne.2 hi
      go_wp2
      all_goals
        go_ret
        exact ⟨rfl, hB3⟩
end Go.Proofs.YtkdiccedkjbpeaaGreatDoorR
