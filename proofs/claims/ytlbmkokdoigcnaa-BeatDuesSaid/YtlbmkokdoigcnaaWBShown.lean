/-
  Chapter 12's example, at the head of each statement: it answers true; nothing that was there is changed. No condition.
-/
import Derived.Test.YtlbmkokdoigcnaaWBeatN
namespace Go.Proofs.Ytlbmkokdoigcnaa
open Go.RowKit Go.Shelf

theorem shown_set1 : setF [] ⟨5, 1⟩ = [⟨5, 1⟩] := rfl
theorem shown_set2 : setF [⟨5, 1⟩] ⟨3, 2⟩ = [⟨3, 2⟩, ⟨5, 1⟩] := rfl
theorem shown_first : firstF [⟨3, 2⟩, ⟨5, 1⟩] = ⟨3, 2⟩ := rfl
theorem shown_off : offF (laterF 4) (srt [⟨3, 2⟩, ⟨5, 1⟩]) = [⟨3, 2⟩] := rfl
theorem shown_ids : intVals (idsOf [⟨3, 2⟩]) = [.int .i64 2] := rfl
theorem ind_nil (w : World) : InD w none 0 [] := ⟨fun h => by simp [rowD] at h, fun _ => ⟨rfl, rfl⟩⟩

set_option maxRecDepth 100000 in
set_option maxHeartbeats 2000000 in
theorem bshown_any (w : World) : Calls Try.prog 10 #[] w fun e w' => e = .returned (.bool true) ∧ Below w.heap.size w w' := by
  have h1 : Calls Try.prog 16 #[.slice none 0 0, .agg #[.int .i64 5, .int .i64 1]] w fun e w' => ∃ u, e = .returned u ∧ w'.ownsRow w.heap.size 24 2 u 1 (rowD [⟨5, 1⟩]) ∧ Below w.heap.size w w' :=
    set_any none 0 [] ⟨5, 1⟩ w (ind_nil w) (by decide)
  go_enter Try.func10, Try.ntmps10
  go_wp2_with fail
  with_reducible refine h1.mono ?_
  rintro e w1 ⟨u, rfl, ho, hb1⟩
  obtain ⟨A1, c1, rfl, hi⟩ := InD.of_own (l := [⟨5, 1⟩]) ho
  have h2 : Calls Try.prog 16 #[.slice A1 1 c1, .agg #[.int .i64 3, .int .i64 2]] w1 fun e w' => ∃ u, e = .returned u ∧ w'.ownsRow w1.heap.size 24 2 u 2 (rowD [⟨3, 2⟩, ⟨5, 1⟩]) ∧ Below w1.heap.size w1 w' :=
    set_any A1 c1 [⟨5, 1⟩] ⟨3, 2⟩ w1 hi (by decide)
  clear h1 ho
  dsimp only [List.length_cons, List.length_nil]
  go_wp2_with fail
  refine h2.mono ?_
  rintro e w2 ⟨u, rfl, ho, hb2⟩
  have hB2 := hb1.trans (hb2.mono hb1.size)
  obtain ⟨A2, c2, rfl, hi2⟩ := InD.of_own (l := [⟨3, 2⟩, ⟨5, 1⟩]) ho
  have h3 : Calls Try.prog 13 #[.slice A2 2 c2] w2 fun e w' => e = .returned (.tuple #[.agg #[.int .i64 3, .int .i64 2], .bool true]) ∧ Below w2.heap.size w2 w' :=
    next_any A2 c2 [⟨3, 2⟩, ⟨5, 1⟩] w2 hi2 (by decide)
  clear h2 ho hb1 hb2 hi
  dsimp only [List.length_cons, List.length_nil]
  go_wp2_with fail
  refine h3.mono ?_
  rintro e w3 ⟨rfl, hb3⟩
  have hB3 := hB2.trans (hb3.mono hB2.size)
  have hb4 : Below w3.heap.size w3 (w3.alloc (.cells #[.int .i64 3, .int .i64 2] 24)) := (Below.refl _ w3).alloc (Nat.le_refl _) _
  have hB4 := hB3.trans (hb4.mono hB3.size)
  have hx4 := Bx.new w3 24 [.int .i64 3, .int .i64 2]
  have h4 : Calls Try.prog 11 #[.slice A2 2 c2, .int .i64 4] (w3.alloc (.cells #[.int .i64 3, .int .i64 2] 24)) fun e w' => ∃ u v, e = .returned (.tuple #[u, v]) ∧ w'.ownsRow (w3.heap.size + 1) 3 1 v 1 [.int .i64 2] ∧ Below (w3.heap.size + 1) (w3.alloc (.cells #[.int .i64 3, .int .i64 2] 24)) w' := by
    have h := take_any A2 c2 [⟨3, 2⟩, ⟨5, 1⟩] 4 (w3.alloc (.cells #[.int .i64 3, .int .i64 2] 24)) ((hi2.below hb3).below hb4) (by decide)
    rw [World.size_alloc, shown_off, shown_ids] at h
    refine h.mono ?_
    rintro e w' ⟨u, v, he, -, ho, hb⟩
    exact ⟨u, v, he, ho, hb⟩
  clear h3 hB2 hb3 hi2
  go_wp2_with fail
  refine h4.mono ?_
  rintro e w5 ⟨u, v, rfl, ho, hb5⟩
  have hB5 := hB4.trans (hb5.mono (by have := hB3.size; omega))
  have hx5 := hx4.below hb5 (by omega)
  have x1 := hx5.cell 1 (by simp)
  dsimp only [List.getElem_cons_zero, List.getElem_cons_succ] at x1
  obtain ⟨A5, c5, rfl, hv, -⟩ := vals_row ho
  obtain ⟨g, o, rfl, -, hc⟩ := hv (by decide)
  have y0 := hc 0 (by decide)
  dsimp only [List.getElem_cons_zero, List.getElem_cons_succ, Nat.add_zero] at y0
  clear h4 hB4 hB3 hb4 hx4 ho hb5 hx5 hc hv
  go_wp2
  go_ret
  exact ⟨rfl, hB5⟩
end Go.Proofs.Ytlbmkokdoigcnaa
