/-
  ServeAgrees where what is asked for is agreed on: the law returns true (channels asked for, frame of no wish). Condition: the table of widths is as its text lays it.
-/
import Derived.Test.YtebkolhibifbpaaDoorPServeA
import Derived.Test.YtebkolhibifbpaaDoorWServe9
namespace Go.Proofs.YtebkolhibifbpaaDoor
open Go.RowKit

set_option maxRecDepth 100000 in
set_option maxHeartbeats 4000000 in
theorem serveAgrees_011 (h : Hd) (c f b : Int) (w : World) (hw : Wid w) (hst : h.st = 2) (hq : tRight h.ch h.fr h.bt = true) (hc : 0 ≤ c ∧ c ≤ 65535) (hf : 0 ≤ f ∧ f ≤ 2147483648) (hb : 0 ≤ b ∧ b ≤ 65535) (hok : agOk h c f = true) (k1 : ¬ c = 0) (k2 : f = 0) (k3 : agB h b = b) : Calls Tryd.prog 3 #[.agg #[.int .i64 h.st, .int .i64 h.ch, .int .i64 h.fr, .int .i64 h.bt, .string h.us, .string h.wo, .string h.ho, .int .i64 c, .int .i64 f, .int .i64 b]] w fun e w' => e = .returned (.bool true) ∧ Below w.heap.size w w' := by
  have hTk := fun m A W (hb : Below w.heap.size w W) (hv : wfM m) (hA : ValsAt W A (rowV m.l)) => sTake_any h m A 3 W (hw.below hb) hv hA
  have hSh := fun W (hb : Below w.heap.size w W) => shown_any W (hw.below hb)
  have HCq := Lib.hid (And.intro hq (And.intro hc (And.intro hf (And.intro hb (And.intro hok (And.intro k1 (And.intro k2 k3)))))))
  clear hq hc hf hb hok k1 k2 k3
  unfold TnPost encHd encM at hTk
  obtain ⟨st, ch, fr, bt, us, wo, ho⟩ := h
  dsimp only at *
  subst hst
  obtain ⟨W0, hW0⟩ : ∃ W0, W0 = (w.alloc (.cells #[.int .i64 2, .int .i64 ch, .int .i64 fr, .int .i64 bt, .string us, .string wo, .string ho, .int .i64 c, .int .i64 f, .int .i64 b] 27)).alloc (.cells #[.int .i64 2, .int .i64 ch, .int .i64 fr, .int .i64 bt, .string us, .string wo, .string ho] 25) := ⟨_, rfl⟩
  have hb0 : Below w.heap.size w W0 := by rw [hW0]; exact ((Below.refl _ w).alloc (Nat.le_refl _) _).alloc (by simp) _
  have hi : Bx W0 w.heap.size 27 [.int .i64 2, .int .i64 ch, .int .i64 fr, .int .i64 bt, .string us, .string wo, .string ho, .int .i64 c, .int .i64 f, .int .i64 b] := by rw [hW0]; exact (Bx.new w 27 [.int .i64 2, .int .i64 ch, .int .i64 fr, .int .i64 bt, .string us, .string wo, .string ho, .int .i64 c, .int .i64 f, .int .i64 b]).alloc _
  have hx : Bx W0 (w.heap.size + 1) 25 [.int .i64 2, .int .i64 ch, .int .i64 fr, .int .i64 bt, .string us, .string wo, .string ho] := by
    have h := Bx.new (w.alloc (.cells #[.int .i64 2, .int .i64 ch, .int .i64 fr, .int .i64 bt, .string us, .string wo, .string ho, .int .i64 c, .int .i64 f, .int .i64 b] 27)) 25 [.int .i64 2, .int .i64 ch, .int .i64 fr, .int .i64 bt, .string us, .string wo, .string ho]
    rw [World.size_alloc] at h
    rw [hW0]; exact h
  have i7 := hi.cell 7 (by simp)
  have i8 := hi.cell 8 (by simp)
  have i9 := hi.cell 9 (by simp)
  dsimp only [List.getElem_cons_zero, List.getElem_cons_succ] at i7 i8 i9
  have hSh0 := hSh W0 hb0
  clear hw hSh hi
  go_enter Tryd.func3, Tryd.ntmps3
  go_upto_region 2 with fail
  rw [← hW0]
  clear hW0
  go_wp2_with fail
  with_reducible refine hSh0.mono ?_
  rintro e w1 ⟨rfl, hb1⟩
  have hB := hb0.trans (hb1.mono hb0.size)
  replace hx := hx.kept hb1
  clear hSh0 hb0 hb1 i7 i8 i9
  obtain ⟨x0, x1, x2, x3, x4, x5, x6⟩ := hx.seven
  have hR1 := sRight_any ch fr bt w1
  go_wp2_with fail
  with_reducible refine hR1.mono ?_
  rintro e w2 ⟨rfl, hb2⟩
  have hB2 := hB.trans (hb2.mono hB.size)
  replace hx := hx.kept hb2
  clear hR1 hB hb2 x0 x1 x2 x3 x4 x5 x6 
  have hB := hB2
  clear hB2
  obtain ⟨x0, x1, x2, x3, x4, x5, x6⟩ := hx.seven
  obtain ⟨hq, hc, hf, hb, hok, k1, k2, k3⟩ := HCq.out
  clear HCq
  try dsimp only at hq hok k3
  rw [hq]
  have c0 : ¬ c < 0 := by omega
  have c1 : ¬ 65535 < c := by omega
  have f0 : ¬ f < 0 := by omega
  have f1 : ¬ 2147483648 < f := by omega
  have b0 : ¬ b < 0 := by omega
  have b1 : ¬ 65535 < b := by omega
  have HK := Lib.hid (And.intro k1 (And.intro k2 k3))
  clear k1 k2 k3
  have hE := tune_right hc hf hb
  have u1 : IntKind.u64.wrap c = c := by simp [IntKind.wrap, IntKind.signed, IntKind.bits]; omega
  have u2 : IntKind.u64.wrap f = f := by simp [IntKind.wrap, IntKind.signed, IntKind.bits]; omega
  have u3 : IntKind.u64.wrap b = b := by simp [IntKind.wrap, IntKind.signed, IntKind.bits]; omega
  obtain ⟨W3, hW3⟩ : ∃ W3, W3 = w2.alloc (.cells #[.int .u64 c, .string ⟨#[]⟩, .int .u64 f, .string ⟨#[]⟩, .int .u64 b, .string ⟨#[]⟩] 36) := ⟨_, rfl⟩
  have hb3 : Below w2.heap.size w2 W3 := by rw [hW3]; exact (Below.refl _ w2).alloc (Nat.le_refl _) _
  have hv : Bx W3 w2.heap.size 36 [.int .u64 c, .string ⟨#[]⟩, .int .u64 f, .string ⟨#[]⟩, .int .u64 b, .string ⟨#[]⟩] := by rw [hW3]; exact Bx.new w2 _ _
  have hB3 := hB.trans (hb3.mono hB.size)
  have hT3 := hTk ⟨10, 31, [⟨c, ⟨#[]⟩⟩, ⟨f, ⟨#[]⟩⟩, ⟨b, ⟨#[]⟩⟩]⟩ (some ⟨w2.heap.size, 0, none⟩) W3 hB3 (fun v hv => by
    simp only [List.mem_cons, List.not_mem_nil, or_false] at hv
    rcases hv with rfl | rfl | rfl
    · exact ⟨hc.1, by dsimp only; omega, (show (0 : Nat) < 140737488355328 by decide)⟩
    · exact ⟨hf.1, by dsimp only; omega, (show (0 : Nat) < 140737488355328 by decide)⟩
    · exact ⟨hb.1, by dsimp only; omega, (show (0 : Nat) < 140737488355328 by decide)⟩) (fun _ => ⟨w2.heap.size, 0, rfl, hv.lt, fun i hi => by rw [Nat.zero_add]; exact hv.cell i hi⟩)
  have hYes2 := agrees_yes (h := ⟨2, ch, fr, bt, us, wo, ho⟩) rfl hq hc hf hb hE hok
  clear hTk hE hv
  generalize hTake ⟨2, ch, fr, bt, us, wo, ho⟩ ⟨10, 31, [⟨c, ⟨#[]⟩⟩, ⟨f, ⟨#[]⟩⟩, ⟨b, ⟨#[]⟩⟩]⟩ = r at *
  generalize agB ⟨2, ch, fr, bt, us, wo, ho⟩ b = z at *
  obtain ⟨⟨p0, p1, p2, p3, p4, p5, p6⟩, ps, pe⟩ := r
  dsimp only [List.length_cons, List.length_nil, Nat.reduceAdd] at *
  have HY : Hid _ := Lib.hid hYes2
  clear hYes2 hc hf hb hq hok
  go_upto_region 8 with fail
  go_cut [8, 10] (fun p e wx => e = .int .i64 pe ∧ (∃ nb, p = .pointer (some ⟨nb, 0, none⟩) ∧ Bx wx nb 25 [.int .i64 p0, .int .i64 p1, .int .i64 p2, .int .i64 p3, .string p4, .string p5, .string p6]) ∧ Below w2.heap.size w2 wx)
  case first =>
    go_wp2_with fail
    rw [← hW3]
    clear hW3
    with_reducible refine hT3.mono ?_
    rintro e w4 ⟨A4, k4, c4, rfl, -, hb4⟩
    have hk := Bx.new w4 25 [.int .i64 p0, .int .i64 p1, .int .i64 p2, .int .i64 p3, .string p4, .string p5, .string p6]
    have hf := (hb3.trans (hb4.mono hb3.size))
    clear hT3 hb3 hb4 hB hB3 x0 x1 x2 x3 x4 x5 x6 u1 u2 u3
    go_wp2_with fail
    go_meet
    case rel => exact ⟨rfl, ⟨_, rfl, hk⟩, hf.alloc hf.size _⟩
  case rest =>
  obtain ⟨rfl, ⟨nb, rfl, hk⟩, hc⟩ := hcut
  have hBc := hB.trans (hc.mono hB.size)
  replace hx := hx.kept hc
  clear hT3 hb3 hB hB3 hW3 hc x0 x1 x2 x3 x4 x5 x6 u1 u2 u3
  have hB := hBc
  clear hBc
  obtain ⟨x0, x1, x2, x3, x4, x5, x6⟩ := hx.seven
  obtain ⟨x, y, hp, hR, g1, g2, g3, g4, g5, g6, g7⟩ := HY.out
  injection hp with hp1 hp2 hp3
  injection hp1 with hq0 hq1 hq2 hq3 hq4 hq5 hq6
  subst hq0 hq1 hq2 hq3 hq4 hq5 hq6 hp2 hp3
  clear HY
  obtain ⟨q0, q1, q2, q3, q4, q5, q6⟩ := hk.seven
  have hR5 := sRight_any p1 p2 p3 wc
  rw [hR] at hR5
  have G := Lib.hid (And.intro g2 (And.intro g4 g7))
  clear hR g2 g4 g7
  go_wp2_with fail
  with_reducible refine hR5.mono ?_
  rintro e w6 ⟨rfl, hb6⟩
  have hB6 := hB.trans (hb6.mono hB.size)
  replace hx := hx.kept hb6
  replace hk := hk.kept hb6
  clear hR5 hB hb6 x0 x1 x2 x3 x4 x5 x6 q0 q1 q2 q3 q4 q5 q6
  have hB := hB6
  clear hB6
  obtain ⟨x0, x1, x2, x3, x4, x5, x6⟩ := hx.seven
  obtain ⟨q0, q1, q2, q3, q4, q5, q6⟩ := hk.seven
  clear hx hk
  obtain ⟨g2, g4, g7⟩ := G.out
  obtain ⟨k1, k2, k3⟩ := HK.out
  clear HK G f0 f1 c0 c1 b0 b1
  obtain rfl := g2.resolve_left k1
  subst k2
  obtain rfl := k3
  clear g2 g4 g7
  go_wp2
  go_ret
  exact ⟨rfl, hB⟩
set_option maxRecDepth 100000 in
set_option maxHeartbeats 4000000 in
theorem serveAgrees_010 (h : Hd) (c f b : Int) (w : World) (hw : Wid w) (hst : h.st = 2) (hq : tRight h.ch h.fr h.bt = true) (hc : 0 ≤ c ∧ c ≤ 65535) (hf : 0 ≤ f ∧ f ≤ 2147483648) (hb : 0 ≤ b ∧ b ≤ 65535) (hok : agOk h c f = true) (k1 : ¬ c = 0) (k2 : f = 0) (k3 : ¬ agB h b = b) : Calls Tryd.prog 3 #[.agg #[.int .i64 h.st, .int .i64 h.ch, .int .i64 h.fr, .int .i64 h.bt, .string h.us, .string h.wo, .string h.ho, .int .i64 c, .int .i64 f, .int .i64 b]] w fun e w' => e = .returned (.bool true) ∧ Below w.heap.size w w' := by
  have hTk := fun m A W (hb : Below w.heap.size w W) (hv : wfM m) (hA : ValsAt W A (rowV m.l)) => sTake_any h m A 3 W (hw.below hb) hv hA
  have hSh := fun W (hb : Below w.heap.size w W) => shown_any W (hw.below hb)
  have HCq := Lib.hid (And.intro hq (And.intro hc (And.intro hf (And.intro hb (And.intro hok (And.intro k1 (And.intro k2 k3)))))))
  clear hq hc hf hb hok k1 k2 k3
  unfold TnPost encHd encM at hTk
  obtain ⟨st, ch, fr, bt, us, wo, ho⟩ := h
  dsimp only at *
  subst hst
  obtain ⟨W0, hW0⟩ : ∃ W0, W0 = (w.alloc (.cells #[.int .i64 2, .int .i64 ch, .int .i64 fr, .int .i64 bt, .string us, .string wo, .string ho, .int .i64 c, .int .i64 f, .int .i64 b] 27)).alloc (.cells #[.int .i64 2, .int .i64 ch, .int .i64 fr, .int .i64 bt, .string us, .string wo, .string ho] 25) := ⟨_, rfl⟩
  have hb0 : Below w.heap.size w W0 := by rw [hW0]; exact ((Below.refl _ w).alloc (Nat.le_refl _) _).alloc (by simp) _
  have hi : Bx W0 w.heap.size 27 [.int .i64 2, .int .i64 ch, .int .i64 fr, .int .i64 bt, .string us, .string wo, .string ho, .int .i64 c, .int .i64 f, .int .i64 b] := by rw [hW0]; exact (Bx.new w 27 [.int .i64 2, .int .i64 ch, .int .i64 fr, .int .i64 bt, .string us, .string wo, .string ho, .int .i64 c, .int .i64 f, .int .i64 b]).alloc _
  have hx : Bx W0 (w.heap.size + 1) 25 [.int .i64 2, .int .i64 ch, .int .i64 fr, .int .i64 bt, .string us, .string wo, .string ho] := by
    have h := Bx.new (w.alloc (.cells #[.int .i64 2, .int .i64 ch, .int .i64 fr, .int .i64 bt, .string us, .string wo, .string ho, .int .i64 c, .int .i64 f, .int .i64 b] 27)) 25 [.int .i64 2, .int .i64 ch, .int .i64 fr, .int .i64 bt, .string us, .string wo, .string ho]
    rw [World.size_alloc] at h
    rw [hW0]; exact h
  have i7 := hi.cell 7 (by simp)
  have i8 := hi.cell 8 (by simp)
  have i9 := hi.cell 9 (by simp)
  dsimp only [List.getElem_cons_zero, List.getElem_cons_succ] at i7 i8 i9
  have hSh0 := hSh W0 hb0
  clear hw hSh hi
  go_enter Tryd.func3, Tryd.ntmps3
  go_upto_region 2 with fail
  rw [← hW0]
  clear hW0
  go_wp2_with fail
  with_reducible refine hSh0.mono ?_
  rintro e w1 ⟨rfl, hb1⟩
  have hB := hb0.trans (hb1.mono hb0.size)
  replace hx := hx.kept hb1
  clear hSh0 hb0 hb1 i7 i8 i9
  obtain ⟨x0, x1, x2, x3, x4, x5, x6⟩ := hx.seven
  have hR1 := sRight_any ch fr bt w1
  go_wp2_with fail
  with_reducible refine hR1.mono ?_
  rintro e w2 ⟨rfl, hb2⟩
  have hB2 := hB.trans (hb2.mono hB.size)
  replace hx := hx.kept hb2
  clear hR1 hB hb2 x0 x1 x2 x3 x4 x5 x6 
  have hB := hB2
  clear hB2
  obtain ⟨x0, x1, x2, x3, x4, x5, x6⟩ := hx.seven
  obtain ⟨hq, hc, hf, hb, hok, k1, k2, k3⟩ := HCq.out
  clear HCq
  try dsimp only at hq hok k3
  rw [hq]
  have c0 : ¬ c < 0 := by omega
  have c1 : ¬ 65535 < c := by omega
  have f0 : ¬ f < 0 := by omega
  have f1 : ¬ 2147483648 < f := by omega
  have b0 : ¬ b < 0 := by omega
  have b1 : ¬ 65535 < b := by omega
  have HK := Lib.hid (And.intro k1 (And.intro k2 k3))
  clear k1 k2 k3
  have hE := tune_right hc hf hb
  have u1 : IntKind.u64.wrap c = c := by simp [IntKind.wrap, IntKind.signed, IntKind.bits]; omega
  have u2 : IntKind.u64.wrap f = f := by simp [IntKind.wrap, IntKind.signed, IntKind.bits]; omega
  have u3 : IntKind.u64.wrap b = b := by simp [IntKind.wrap, IntKind.signed, IntKind.bits]; omega
  obtain ⟨W3, hW3⟩ : ∃ W3, W3 = w2.alloc (.cells #[.int .u64 c, .string ⟨#[]⟩, .int .u64 f, .string ⟨#[]⟩, .int .u64 b, .string ⟨#[]⟩] 36) := ⟨_, rfl⟩
  have hb3 : Below w2.heap.size w2 W3 := by rw [hW3]; exact (Below.refl _ w2).alloc (Nat.le_refl _) _
  have hv : Bx W3 w2.heap.size 36 [.int .u64 c, .string ⟨#[]⟩, .int .u64 f, .string ⟨#[]⟩, .int .u64 b, .string ⟨#[]⟩] := by rw [hW3]; exact Bx.new w2 _ _
  have hB3 := hB.trans (hb3.mono hB.size)
  have hT3 := hTk ⟨10, 31, [⟨c, ⟨#[]⟩⟩, ⟨f, ⟨#[]⟩⟩, ⟨b, ⟨#[]⟩⟩]⟩ (some ⟨w2.heap.size, 0, none⟩) W3 hB3 (fun v hv => by
    simp only [List.mem_cons, List.not_mem_nil, or_false] at hv
    rcases hv with rfl | rfl | rfl
    · exact ⟨hc.1, by dsimp only; omega, (show (0 : Nat) < 140737488355328 by decide)⟩
    · exact ⟨hf.1, by dsimp only; omega, (show (0 : Nat) < 140737488355328 by decide)⟩
    · exact ⟨hb.1, by dsimp only; omega, (show (0 : Nat) < 140737488355328 by decide)⟩) (fun _ => ⟨w2.heap.size, 0, rfl, hv.lt, fun i hi => by rw [Nat.zero_add]; exact hv.cell i hi⟩)
  have hYes2 := agrees_yes (h := ⟨2, ch, fr, bt, us, wo, ho⟩) rfl hq hc hf hb hE hok
  clear hTk hE hv
  generalize hTake ⟨2, ch, fr, bt, us, wo, ho⟩ ⟨10, 31, [⟨c, ⟨#[]⟩⟩, ⟨f, ⟨#[]⟩⟩, ⟨b, ⟨#[]⟩⟩]⟩ = r at *
  generalize agB ⟨2, ch, fr, bt, us, wo, ho⟩ b = z at *
  obtain ⟨⟨p0, p1, p2, p3, p4, p5, p6⟩, ps, pe⟩ := r
  dsimp only [List.length_cons, List.length_nil, Nat.reduceAdd] at *
  have HY : Hid _ := Lib.hid hYes2
  clear hYes2 hc hf hb hq hok
  go_upto_region 8 with fail
  go_cut [8, 10] (fun p e wx => e = .int .i64 pe ∧ (∃ nb, p = .pointer (some ⟨nb, 0, none⟩) ∧ Bx wx nb 25 [.int .i64 p0, .int .i64 p1, .int .i64 p2, .int .i64 p3, .string p4, .string p5, .string p6]) ∧ Below w2.heap.size w2 wx)
  case first =>
    go_wp2_with fail
    rw [← hW3]
    clear hW3
    with_reducible refine hT3.mono ?_
    rintro e w4 ⟨A4, k4, c4, rfl, -, hb4⟩
    have hk := Bx.new w4 25 [.int .i64 p0, .int .i64 p1, .int .i64 p2, .int .i64 p3, .string p4, .string p5, .string p6]
    have hf := (hb3.trans (hb4.mono hb3.size))
    clear hT3 hb3 hb4 hB hB3 x0 x1 x2 x3 x4 x5 x6 u1 u2 u3
    go_wp2_with fail
    go_meet
    case rel => exact ⟨rfl, ⟨_, rfl, hk⟩, hf.alloc hf.size _⟩
  case rest =>
  obtain ⟨rfl, ⟨nb, rfl, hk⟩, hc⟩ := hcut
  have hBc := hB.trans (hc.mono hB.size)
  replace hx := hx.kept hc
  clear hT3 hb3 hB hB3 hW3 hc x0 x1 x2 x3 x4 x5 x6 u1 u2 u3
  have hB := hBc
  clear hBc
  obtain ⟨x0, x1, x2, x3, x4, x5, x6⟩ := hx.seven
  obtain ⟨x, y, hp, hR, g1, g2, g3, g4, g5, g6, g7⟩ := HY.out
  injection hp with hp1 hp2 hp3
  injection hp1 with hq0 hq1 hq2 hq3 hq4 hq5 hq6
  subst hq0 hq1 hq2 hq3 hq4 hq5 hq6 hp2 hp3
  clear HY
  obtain ⟨q0, q1, q2, q3, q4, q5, q6⟩ := hk.seven
  have hR5 := sRight_any p1 p2 p3 wc
  rw [hR] at hR5
  have G := Lib.hid (And.intro g2 (And.intro g4 g7))
  clear hR g2 g4 g7
  go_wp2_with fail
  with_reducible refine hR5.mono ?_
  rintro e w6 ⟨rfl, hb6⟩
  have hB6 := hB.trans (hb6.mono hB.size)
  replace hx := hx.kept hb6
  replace hk := hk.kept hb6
  clear hR5 hB hb6 x0 x1 x2 x3 x4 x5 x6 q0 q1 q2 q3 q4 q5 q6
  have hB := hB6
  clear hB6
  obtain ⟨x0, x1, x2, x3, x4, x5, x6⟩ := hx.seven
  obtain ⟨q0, q1, q2, q3, q4, q5, q6⟩ := hk.seven
  clear hx hk
  obtain ⟨g2, g4, g7⟩ := G.out
  obtain ⟨k1, k2, k3⟩ := HK.out
  clear HK G f0 f1 c0 c1 b0 b1
  obtain rfl := g2.resolve_left k1
  subst k2
  obtain rfl := g7.resolve_left k3
  clear g2 g4 g7
  go_wp2
  go_ret
  exact ⟨rfl, hB⟩
end Go.Proofs.YtebkolhibifbpaaDoor
