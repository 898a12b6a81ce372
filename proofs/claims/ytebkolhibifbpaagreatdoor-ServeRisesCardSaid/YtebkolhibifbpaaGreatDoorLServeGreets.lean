/-
  ServeGreets: a connection is greeted once: the law returns true, and changes nothing that was there. Condition: the table of widths is as its text lays it.
-/
import Derived.Test.YtebkolhibifbpaaGreatDoorRSRights
namespace Go.Proofs.YtebkolhibifbpaaGreatDoor
open Go.RowKit

def grM : Me := ⟨10, 10, [numV 0, numV 9, wordV emptyS, wordV plainS, wordV enS]⟩
theorem gr_right : mE grM = 0 := by kernel_rfl
theorem gr_ok : saidOk (some grM) = true := by
  show (mE grM == 0) = true
  rw [gr_right]
  rfl
theorem gr_wf : wfM grM := by
  intro v hv
  simp only [grM, List.mem_cons, List.not_mem_nil, or_false] at hv
  rcases hv with rfl | rfl | rfl | rfl | rfl <;> exact ⟨by decide, by decide, by decide⟩
theorem greet_yes {h : Hd} (h0 : h.st = 0) : hGreet h = ⟨⟨1, h.ch, h.fr, h.bt, h.us, h.wo, h.ho⟩, some grM, 0⟩ := by
  unfold hGreet
  rw [if_pos h0]
  rfl
theorem greet_no {h : Hd} (h0 : ¬ h.st = 0) : hGreet h = ⟨h, none, 8⟩ := by
  unfold hGreet
  rw [if_neg h0]
  rfl
set_option maxRecDepth 100000 in
set_option maxHeartbeats 4000000 in
theorem serveGreets_walk (h : Hd) (w : World) (hw : Wid w) : Calls Tryz.prog 4 #[encHd h] w fun e w' => e = .returned (.bool true) ∧ Below w.heap.size w w' := by
  have hG := fun h W => greet_any h W
  have hSh := fun W (hb : Below w.heap.size w W) => shown_any W (hw.below hb)
  obtain ⟨st, ch, fr, bt, us, wo, ho⟩ := h
  unfold TnPost encHd at hG
  unfold encHd
  dsimp only
  obtain ⟨W0, hW0⟩ : ∃ W0, W0 = w.alloc (.cells #[.int .i64 st, .int .i64 ch, .int .i64 fr, .int .i64 bt, .string us, .string wo, .string ho] 27) := ⟨_, rfl⟩
  have hb0 : Below w.heap.size w W0 := by rw [hW0]; exact (Below.refl _ w).alloc (Nat.le_refl _) _
  have hx : Bx W0 w.heap.size 27 [.int .i64 st, .int .i64 ch, .int .i64 fr, .int .i64 bt, .string us, .string wo, .string ho] := by rw [hW0]; exact Bx.new w _ _
  have hSh0 := hSh W0 hb0
  clear hSh hw
  by_cases h0 : st = 0
  · have hG1 := fun W => hG ⟨st, ch, fr, bt, us, wo, ho⟩ W
    have hG2 := fun W => hG ⟨1, ch, fr, bt, us, wo, ho⟩ W
    rw [greet_yes h0] at hG1
    rw [greet_no (h := ⟨1, ch, fr, bt, us, wo, ho⟩) (show ¬ (1 : Int) = 0 by decide)] at hG2
    dsimp only at hG1 hG2
    subst h0
    clear hG
    go_enter Tryz.func4, Tryz.ntmps4
    go_wp2_with fail
    rw [← hW0]
    clear hW0
    with_reducible refine hSh0.mono ?_
    rintro e w1 ⟨rfl, hb1⟩
    have hB := hb0.trans (hb1.mono hb0.size)
    replace hx := hx.kept hb1
    replace hG1 := hG1 w1
    obtain ⟨x0, x1, x2, x3, x4, x5, x6⟩ := hx.seven
    clear hSh0 hb0 hb1
    go_wp2_with fail
    with_reducible refine hG1.mono ?_
    rintro e w2 ⟨A2, k2, c2, rfl, hS, hb2⟩
    have hB2 := hB.trans (hb2.mono hB.size)
    replace hx := hx.kept hb2
    clear hG1 hB hb2 x0 x1 x2 x3 x4 x5 x6 
    obtain ⟨W3, hW3⟩ : ∃ W3, W3 = w2.alloc (.cells #[.int .i64 1, .int .i64 ch, .int .i64 fr, .int .i64 bt, .string us, .string wo, .string ho] 27) := ⟨_, rfl⟩
    have hb3 : Below w2.heap.size w2 W3 := by rw [hW3]; exact (Below.refl _ w2).alloc (Nat.le_refl _) _
    have hk : Bx W3 w2.heap.size 27 [.int .i64 1, .int .i64 ch, .int .i64 fr, .int .i64 bt, .string us, .string wo, .string ho] := by rw [hW3]; exact Bx.new w2 _ _
    have hS3 := hS.below (Nat.zero_le _) hb3
    have hB3 := hB2.trans (hb3.mono hB2.size)
    replace hx := hx.kept hb3
    have hG3 := hG2 W3
    obtain ⟨q0, q1, q2, q3, q4, q5, q6⟩ := hk.seven
    clear hG2 hb3 hB2 hS
    go_upto_region 3 with fail
    rw [← hW3]
    clear hW3
    go_wp2_with fail
    with_reducible refine hG3.mono ?_
    rintro e w4 ⟨A4, k4, c4, rfl, -, hb4⟩
    have hB4 := hB3.trans (hb4.mono hB3.size)
    replace hx := hx.kept hb4
    replace hk := hk.kept hb4
    replace hS3 := hS3.below (Nat.zero_le _) hb4
    clear hG3 hB3 hb4 q0 q1 q2 q3 q4 q5 q6
    obtain ⟨W5, hW5⟩ : ∃ W5, W5 = w4.alloc (.cells #[.int .i64 1, .int .i64 ch, .int .i64 fr, .int .i64 bt, .string us, .string wo, .string ho] 27) := ⟨_, rfl⟩
    have hb5 : Below w4.heap.size w4 W5 := by rw [hW5]; exact (Below.refl _ w4).alloc (Nat.le_refl _) _
    have hB := hB4.trans (hb5.mono hB4.size)
    replace hx := hx.kept hb5
    replace hk := hk.kept hb5
    replace hS3 := hS3.below (Nat.zero_le _) hb5
    clear hB4 hb5
    go_upto_region 4 with fail
    rw [← hW5]
    clear hW5
    obtain ⟨x0, x1, x2, x3, x4, x5, x6⟩ := hx.seven
    obtain ⟨q0, q1, q2, q3, q4, q5, q6⟩ := hk.seven
    have hR := rights_said (some grM) _ A2 k2 c2 W5 gr_wf hS3
    rw [gr_ok] at hR
    obtain ⟨rfl, b9, A9, c9, rfl, -, bx, -⟩ := said_parts hS3
    clear hS3 bx
    go_wp2_with fail
    with_reducible refine hR.mono ?_
    rintro e w6 ⟨rfl, hb6⟩
    have hB6 := hB.trans (hb6.mono hB.size)
    replace hx := hx.kept hb6
    replace hk := hk.kept hb6
    clear hR hB hb6 x0 x1 x2 x3 x4 x5 x6 q0 q1 q2 q3 q4 q5 q6
    obtain ⟨x0, x1, x2, x3, x4, x5, x6⟩ := hx.seven
    obtain ⟨q0, q1, q2, q3, q4, q5, q6⟩ := hk.seven
    go_wp2
    go_ret
    exact ⟨rfl, hB6⟩
  · have hG1 := fun W => hG ⟨st, ch, fr, bt, us, wo, ho⟩ W
    rw [greet_no h0] at hG1
    dsimp only at hG1
    have hG2 := hG1
    have e1 : (st != 0) = true := bne_iff_ne.2 h0
    clear hG
    go_enter Tryz.func4, Tryz.ntmps4
    go_wp2_with fail
    rw [← hW0]
    clear hW0
    with_reducible refine hSh0.mono ?_
    rintro e w1 ⟨rfl, hb1⟩
    have hB := hb0.trans (hb1.mono hb0.size)
    replace hx := hx.kept hb1
    replace hG1 := hG1 w1
    obtain ⟨x0, x1, x2, x3, x4, x5, x6⟩ := hx.seven
    clear hSh0 hb0 hb1
    go_wp2_with fail
    with_reducible refine hG1.mono ?_
    rintro e w2 ⟨A2, k2, c2, rfl, hS, hb2⟩
    have hB2 := hB.trans (hb2.mono hB.size)
    replace hx := hx.kept hb2
    clear hG1 hB hb2 x0 x1 x2 x3 x4 x5 x6 
    obtain ⟨W3, hW3⟩ : ∃ W3, W3 = w2.alloc (.cells #[.int .i64 st, .int .i64 ch, .int .i64 fr, .int .i64 bt, .string us, .string wo, .string ho] 27) := ⟨_, rfl⟩
    have hb3 : Below w2.heap.size w2 W3 := by rw [hW3]; exact (Below.refl _ w2).alloc (Nat.le_refl _) _
    have hk : Bx W3 w2.heap.size 27 [.int .i64 st, .int .i64 ch, .int .i64 fr, .int .i64 bt, .string us, .string wo, .string ho] := by rw [hW3]; exact Bx.new w2 _ _
    have hS3 := hS.below (Nat.zero_le _) hb3
    have hB3 := hB2.trans (hb3.mono hB2.size)
    replace hx := hx.kept hb3
    have hG3 := hG2 W3
    obtain ⟨q0, q1, q2, q3, q4, q5, q6⟩ := hk.seven
    clear hG2 hb3 hB2 hS
    go_upto_region 3 with fail
    rw [← hW3]
    clear hW3
    go_wp2_with fail
    with_reducible refine hG3.mono ?_
    rintro e w4 ⟨A4, k4, c4, rfl, -, hb4⟩
    have hB4 := hB3.trans (hb4.mono hB3.size)
    replace hx := hx.kept hb4
    replace hk := hk.kept hb4
    replace hS3 := hS3.below (Nat.zero_le _) hb4
    clear hG3 hB3 hb4 q0 q1 q2 q3 q4 q5 q6
    obtain ⟨W5, hW5⟩ : ∃ W5, W5 = w4.alloc (.cells #[.int .i64 st, .int .i64 ch, .int .i64 fr, .int .i64 bt, .string us, .string wo, .string ho] 27) := ⟨_, rfl⟩
    have hb5 : Below w4.heap.size w4 W5 := by rw [hW5]; exact (Below.refl _ w4).alloc (Nat.le_refl _) _
    have hB := hB4.trans (hb5.mono hB4.size)
    replace hx := hx.kept hb5
    replace hk := hk.kept hb5
    replace hS3 := hS3.below (Nat.zero_le _) hb5
    clear hB4 hb5
    go_upto_region 4 with fail
    rw [← hW5]
    clear hW5
    obtain ⟨x0, x1, x2, x3, x4, x5, x6⟩ := hx.seven
    obtain ⟨q0, q1, q2, q3, q4, q5, q6⟩ := hk.seven
    obtain ⟨rfl, rfl⟩ := said_none hS3
    clear hS3
    go_wp2
    go_ret
    exact ⟨rfl, hB⟩
end Go.Proofs.YtebkolhibifbpaaGreatDoor
