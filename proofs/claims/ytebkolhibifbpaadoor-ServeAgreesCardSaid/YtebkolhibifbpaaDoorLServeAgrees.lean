/-
  ServeAgrees: what is agreed on is never more than was offered, nor than was asked for: the law returns true, and changes nothing that was there. Condition: the table of widths is as its text lays it.
-/
import Derived.Test.YtebkolhibifbpaaDoorLServeAgM0
import Derived.Test.YtebkolhibifbpaaDoorLServeAgM1
import Derived.Test.YtebkolhibifbpaaDoorLServeAgM2
import Derived.Test.YtebkolhibifbpaaDoorLServeAgM3
namespace Go.Proofs.YtebkolhibifbpaaDoor
open Go.RowKit

set_option maxRecDepth 100000 in
set_option maxHeartbeats 4000000 in
theorem serveAgrees_rest (h : Hd) (c f b : Int) (w : World) (hw : Wid w) (hn : ¬ (h.st = 2 ∧ tRight h.ch h.fr h.bt = true ∧ (0 ≤ c ∧ c ≤ 65535) ∧ (0 ≤ f ∧ f ≤ 2147483648) ∧ (0 ≤ b ∧ b ≤ 65535) ∧ agOk h c f = true)) : Calls Tryd.prog 3 #[.agg #[.int .i64 h.st, .int .i64 h.ch, .int .i64 h.fr, .int .i64 h.bt, .string h.us, .string h.wo, .string h.ho, .int .i64 c, .int .i64 f, .int .i64 b]] w fun e w' => e = .returned (.bool true) ∧ Below w.heap.size w w' := by
  have hTk := fun m A W (hb : Below w.heap.size w W) (hv : wfM m) (hA : ValsAt W A (rowV m.l)) => sTake_any h m A 3 W (hw.below hb) hv hA
  have HNN := Lib.hid hn
  clear hn
  have hSh := fun W (hb : Below w.heap.size w W) => shown_any W (hw.below hb)
  have hAg : Hid (∀ _ : Unit, agOk h c f = (!(decide (c > h.ch)) && !(decide (f > h.fr)) && !(decide (0 < f) && decide (f < 4096)))) := Lib.hid (fun _ => rfl)
  unfold TnPost encHd encM at hTk
  obtain ⟨st, ch, fr, bt, us, wo, ho⟩ := h
  dsimp only at *
  obtain ⟨W0, hW0⟩ : ∃ W0, W0 = (w.alloc (.cells #[.int .i64 st, .int .i64 ch, .int .i64 fr, .int .i64 bt, .string us, .string wo, .string ho, .int .i64 c, .int .i64 f, .int .i64 b] 27)).alloc (.cells #[.int .i64 st, .int .i64 ch, .int .i64 fr, .int .i64 bt, .string us, .string wo, .string ho] 25) := ⟨_, rfl⟩
  have hb0 : Below w.heap.size w W0 := by rw [hW0]; exact ((Below.refl _ w).alloc (Nat.le_refl _) _).alloc (by simp) _
  have hi : Bx W0 w.heap.size 27 [.int .i64 st, .int .i64 ch, .int .i64 fr, .int .i64 bt, .string us, .string wo, .string ho, .int .i64 c, .int .i64 f, .int .i64 b] := by rw [hW0]; exact (Bx.new w 27 [.int .i64 st, .int .i64 ch, .int .i64 fr, .int .i64 bt, .string us, .string wo, .string ho, .int .i64 c, .int .i64 f, .int .i64 b]).alloc _
  have hx : Bx W0 (w.heap.size + 1) 25 [.int .i64 st, .int .i64 ch, .int .i64 fr, .int .i64 bt, .string us, .string wo, .string ho] := by
    have h := Bx.new (w.alloc (.cells #[.int .i64 st, .int .i64 ch, .int .i64 fr, .int .i64 bt, .string us, .string wo, .string ho, .int .i64 c, .int .i64 f, .int .i64 b] 27)) 25 [.int .i64 st, .int .i64 ch, .int .i64 fr, .int .i64 bt, .string us, .string wo, .string ho]
    rw [World.size_alloc] at h
    rw [hW0]; exact h
  have i7 := hi.cell 7 (by simp)
  have i8 := hi.cell 8 (by simp)
  have i9 := hi.cell 9 (by simp)
  dsimp only [List.getElem_cons_zero, List.getElem_cons_succ] at i7 i8 i9
  have hSh0 := hSh W0 hb0
  clear hw hSh hi
  go_enter Tryd.func3, Tryd.ntmps3
  go_upto_region 2 with fail
  rw [← hW0]
  clear hW0
  go_wp2_with fail
  with_reducible refine hSh0.mono ?_
  rintro e w1 ⟨rfl, hb1⟩
  have hB := hb0.trans (hb1.mono hb0.size)
  replace hx := hx.kept hb1
  clear hSh0 hb0 hb1 i7 i8 i9
  obtain ⟨x0, x1, x2, x3, x4, x5, x6⟩ := hx.seven
  by_cases h2 : st = 2
  · subst h2
    have hR1 := sRight_any ch fr bt w1
    go_wp2_with fail
    with_reducible refine hR1.mono ?_
    rintro e w2 ⟨rfl, hb2⟩
    have hB2 := hB.trans (hb2.mono hB.size)
    replace hx := hx.kept hb2
    clear hR1 hB hb2 x0 x1 x2 x3 x4 x5 x6 
    have hB := hB2
    clear hB2
    obtain ⟨x0, x1, x2, x3, x4, x5, x6⟩ := hx.seven
    cases hq : tRight ch fr bt
    · clear hAg hTk HNN
      go_wp2
      all_goals
        go_ret
        exact ⟨rfl, hB⟩
    by_cases c0 : c < 0
    · clear hAg hTk HNN
      go_wp2
      all_goals
        go_ret
        exact ⟨rfl, hB⟩
    by_cases c1 : 65535 < c
    · clear hAg hTk HNN
      go_wp2
      all_goals
        go_ret
        exact ⟨rfl, hB⟩
    by_cases f0 : f < 0
    · clear hAg hTk HNN
      go_wp2
      all_goals
        go_ret
        exact ⟨rfl, hB⟩
    by_cases f1 : 2147483648 < f
    · clear hAg hTk HNN
      go_wp2
      all_goals
        go_ret
        exact ⟨rfl, hB⟩
    by_cases b0 : b < 0
    · clear hAg hTk HNN
      go_wp2
      all_goals
        go_ret
        exact ⟨rfl, hB⟩
    by_cases b1 : 65535 < b
    · clear hAg hTk HNN
      go_wp2
      all_goals
        go_ret
        exact ⟨rfl, hB⟩
    have hc : 0 ≤ c ∧ c ≤ 65535 := ⟨by omega, by omega⟩
    have hf : 0 ≤ f ∧ f ≤ 2147483648 := ⟨by omega, by omega⟩
    have hb : 0 ≤ b ∧ b ≤ 65535 := ⟨by omega, by omega⟩
    have hE := tune_right hc hf hb
    have u1 : IntKind.u64.wrap c = c := by simp [IntKind.wrap, IntKind.signed, IntKind.bits]; omega
    have u2 : IntKind.u64.wrap f = f := by simp [IntKind.wrap, IntKind.signed, IntKind.bits]; omega
    have u3 : IntKind.u64.wrap b = b := by simp [IntKind.wrap, IntKind.signed, IntKind.bits]; omega
    obtain ⟨W3, hW3⟩ : ∃ W3, W3 = w2.alloc (.cells #[.int .u64 c, .string ⟨#[]⟩, .int .u64 f, .string ⟨#[]⟩, .int .u64 b, .string ⟨#[]⟩] 36) := ⟨_, rfl⟩
    have hb3 : Below w2.heap.size w2 W3 := by rw [hW3]; exact (Below.refl _ w2).alloc (Nat.le_refl _) _
    have hv : Bx W3 w2.heap.size 36 [.int .u64 c, .string ⟨#[]⟩, .int .u64 f, .string ⟨#[]⟩, .int .u64 b, .string ⟨#[]⟩] := by rw [hW3]; exact Bx.new w2 _ _
    have hB3 := hB.trans (hb3.mono hB.size)
    have hT3 := hTk ⟨10, 31, [⟨c, ⟨#[]⟩⟩, ⟨f, ⟨#[]⟩⟩, ⟨b, ⟨#[]⟩⟩]⟩ (some ⟨w2.heap.size, 0, none⟩) W3 hB3 (fun v hv => by
      simp only [List.mem_cons, List.not_mem_nil, or_false] at hv
      rcases hv with rfl | rfl | rfl
      · exact ⟨hc.1, by dsimp only; omega, (show (0 : Nat) < 140737488355328 by decide)⟩
      · exact ⟨hf.1, by dsimp only; omega, (show (0 : Nat) < 140737488355328 by decide)⟩
      · exact ⟨hb.1, by dsimp only; omega, (show (0 : Nat) < 140737488355328 by decide)⟩) (fun _ => ⟨w2.heap.size, 0, rfl, hv.lt, fun i hi => by rw [Nat.zero_add]; exact hv.cell i hi⟩)
    have hNo2 := fun (g : agOk ⟨2, ch, fr, bt, us, wo, ho⟩ c f = false) => agrees_no (h := ⟨2, ch, fr, bt, us, wo, ho⟩) (b := b) rfl hE g
    have hYN := fun (g : agOk ⟨2, ch, fr, bt, us, wo, ho⟩ c f = true) => HNN.out ⟨(by first | exact rfl | trivial), hq, hc, hf, hb, g⟩
    clear hTk hE hv
    generalize hTake ⟨2, ch, fr, bt, us, wo, ho⟩ ⟨10, 31, [⟨c, ⟨#[]⟩⟩, ⟨f, ⟨#[]⟩⟩, ⟨b, ⟨#[]⟩⟩]⟩ = r at *
    have hAg2 := Lib.hid (hAg.out ())
    generalize agOk ⟨2, ch, fr, bt, us, wo, ho⟩ c f = ok at *
    obtain ⟨⟨p0, p1, p2, p3, p4, p5, p6⟩, ps, pe⟩ := r
    dsimp only [List.length_cons, List.length_nil, Nat.reduceAdd] at *
    have HN : Hid _ := Lib.hid hNo2
    have HYN : Hid _ := Lib.hid hYN
    clear hNo2 hYN hAg hc hf hb hq HNN
    go_upto_region 8 with fail
    go_cut [8, 10] (fun p e wx => e = .int .i64 pe ∧ (∃ nb, p = .pointer (some ⟨nb, 0, none⟩) ∧ Bx wx nb 25 [.int .i64 p0, .int .i64 p1, .int .i64 p2, .int .i64 p3, .string p4, .string p5, .string p6]) ∧ Below w2.heap.size w2 wx)
    case first =>
      go_wp2_with fail
      rw [← hW3]
      clear hW3
      with_reducible refine hT3.mono ?_
      rintro e w4 ⟨A4, k4, c4, rfl, -, hb4⟩
      have hk := Bx.new w4 25 [.int .i64 p0, .int .i64 p1, .int .i64 p2, .int .i64 p3, .string p4, .string p5, .string p6]
      have hf := (hb3.trans (hb4.mono hb3.size))
      clear hT3 hb3 hb4 hB hB3 x0 x1 x2 x3 x4 x5 x6 u1 u2 u3
      go_wp2_with fail
      go_meet
      case rel => exact ⟨rfl, ⟨_, rfl, hk⟩, hf.alloc hf.size _⟩
    case rest =>
    obtain ⟨rfl, ⟨nb, rfl, hk⟩, hc⟩ := hcut
    have hBc := hB.trans (hc.mono hB.size)
    replace hx := hx.kept hc
    clear hT3 hb3 hB hB3 hW3 hc x0 x1 x2 x3 x4 x5 x6 u1 u2 u3
    have hB := hBc
    clear hBc
    obtain ⟨x0, x1, x2, x3, x4, x5, x6⟩ := hx.seven
    cases ok
    · cases HN.out rfl
      clear HN HYN hk hx
      by_cases h1 : ch < c
      · go_wp2
        all_goals
          go_ret
          exact ⟨rfl, hB⟩
      have e1 : (!(decide (c > ch))) = true := by rw [decide_eq_false h1]; rfl
      by_cases h2 : fr < f
      · go_wp2
        all_goals
          go_ret
          exact ⟨rfl, hB⟩
      have e2 : (!(decide (f > fr))) = true := by rw [decide_eq_false h2]; rfl
      have ho := hAg2.out
      rw [e1, e2, Bool.true_and, Bool.true_and] at ho
      have h34 : 0 < f ∧ f < 4096 := by simpa using ho
      obtain ⟨h3, h4⟩ := h34
      clear ho e1 e2 hAg2
      go_wp2
      all_goals
        go_ret
        exact ⟨rfl, hB⟩
    · exact (HYN.out rfl).elim
  · have e1 : (st != 2) = true := bne_iff_ne.2 h2
    clear hAg hTk HNN
    go_wp2
    all_goals
      go_ret
      exact ⟨rfl, hB⟩
theorem serveAgrees_walk (h : Hd) (c f b : Int) (w : World) (hw : Wid w) : Calls Tryd.prog 3 #[.agg #[.int .i64 h.st, .int .i64 h.ch, .int .i64 h.fr, .int .i64 h.bt, .string h.us, .string h.wo, .string h.ho, .int .i64 c, .int .i64 f, .int .i64 b]] w fun e w' => e = .returned (.bool true) ∧ Below w.heap.size w w' := by
  by_cases hn : h.st = 2 ∧ tRight h.ch h.fr h.bt = true ∧ (0 ≤ c ∧ c ≤ 65535) ∧ (0 ≤ f ∧ f ≤ 2147483648) ∧ (0 ≤ b ∧ b ≤ 65535) ∧ agOk h c f = true
  · obtain ⟨h1, h2, h3, h4, h5, h6⟩ := hn
    by_cases k1 : c = 0
    · by_cases k2 : f = 0
      · by_cases k3 : agB h b = b
        · exact serveAgrees_111 h c f b w hw h1 h2 h3 h4 h5 h6 k1 k2 k3
        · exact serveAgrees_110 h c f b w hw h1 h2 h3 h4 h5 h6 k1 k2 k3
      · by_cases k3 : agB h b = b
        · exact serveAgrees_101 h c f b w hw h1 h2 h3 h4 h5 h6 k1 k2 k3
        · exact serveAgrees_100 h c f b w hw h1 h2 h3 h4 h5 h6 k1 k2 k3
    · by_cases k2 : f = 0
      · by_cases k3 : agB h b = b
        · exact serveAgrees_011 h c f b w hw h1 h2 h3 h4 h5 h6 k1 k2 k3
        · exact serveAgrees_010 h c f b w hw h1 h2 h3 h4 h5 h6 k1 k2 k3
      · by_cases k3 : agB h b = b
        · exact serveAgrees_001 h c f b w hw h1 h2 h3 h4 h5 h6 k1 k2 k3
        · exact serveAgrees_000 h c f b w hw h1 h2 h3 h4 h5 h6 k1 k2 k3
  · exact serveAgrees_rest h c f b w hw hn
end Go.Proofs.YtebkolhibifbpaaDoor
