/-
  interchangelaw04.FrameTakes answers true; nothing that was there is changed. Conditions: the tables of widths and kinds are as their texts lay them; a text of at most 1048576 bytes.
-/
import Derived.Deep.RegionHeld3
import Derived.Test.YtjpijggbkiihhaaDoorWFShown
import Derived.Test.YtjpijggbkiihhaaDoorRFSplit
namespace Go.Proofs.YtjpijggbkiihhaaDoor
open Go.RowKit

set_option maxRecDepth 100000 in
set_option maxHeartbeats 4000000 in
theorem frameTakes_walk (t c : Int) (d s : ByteArray) (m : Int) (w : World) (hw : Wid w) (hk : Kin w) (hs : s.size ≤ 1048576) :
    Calls Tryd.prog 3 #[.agg #[.int .i64 t, .int .i64 c, .string d], .string s, .int .i64 m] w fun e w' => e = .returned (.bool true) ∧ Below w.heap.size w w' := by
  have hlen : (frs s m).1.length ≤ 1048576 := by have := (frs_facts m s.size s (Nat.le_refl _)).1; omega
  have x0 := Bx.new w 23 [.int .i64 t, .int .i64 c, .string d]
  have hb0 : Below w.heap.size w (w.alloc (.cells [.int .i64 t, .int .i64 c, .string d].toArray 23)) := (Below.refl _ _).alloc (Nat.le_refl _) _
  go_enter Tryd.func3, Tryd.ntmps3
  go_wp2_with fail
  refine (frShown_any _ (hw.below hb0) (hk.below hb0)).mono ?_
  rintro e w1 ⟨rfl, hb⟩
  have x1 := x0.kept hb
  have hb1 := hb0.trans (hb.mono hb0.size)
  clear x0 hb0 hb
  have a0 := x1.cell 0 (by simp)
  have a1 := x1.cell 1 (by simp)
  have a2 := x1.cell 2 (by simp)
  dsimp only [List.getElem_cons_zero, List.getElem_cons_succ] at a0 a1 a2
  have B := frbytes_any ⟨t, c, d⟩ w1 (hw.below hb1) (hk.below hb1)
  unfold encFr at B
  dsimp only at B
  go_wp2_with fail
  refine B.mono ?_
  rintro e w2 ⟨rfl, hb⟩
  have x2 := x1.kept hb
  have hb2 := hb1.trans (hb.mono hb1.size)
  clear x1 hb1 hb a0 a1 a2 B
  have a0 := x2.cell 0 (by simp)
  have a1 := x2.cell 1 (by simp)
  have a2 := x2.cell 2 (by simp)
  dsimp only [List.getElem_cons_zero, List.getElem_cons_succ] at a0 a1 a2
  have B := rbytes_any ⟨t, c, d⟩ w2
  unfold encFr at B
  dsimp only at B
  go_wp2_with fail
  refine B.mono ?_
  rintro e w3 ⟨rfl, hb⟩
  have x3 := x2.kept hb
  have hb3 := hb2.trans (hb.mono hb2.size)
  clear x2 hb2 hb a0 a1 a2 B
  generalize frBytes ⟨t, c, d⟩ = fb
  generalize frBytesE ⟨t, c, d⟩ = fe
  obtain ⟨ft, hft⟩ : ∃ f : Fr, frF s m = f := ⟨_, rfl⟩
  have T1 := frtake_any s m w3 (hw.below hb3) (hk.below hb3) (by omega)
  have T2 := fun w => rftake_any s m w (by omega)
  unfold frTakeV encFr at T1 T2
  rw [hft] at T1 T2
  clear hft
  generalize frR s m = tr at *
  generalize frE s m = te at *
  obtain ⟨u, v, x⟩ := ft
  dsimp only at T1 T2
  go_wp2_with fail
  refine T1.mono ?_
  rintro e w4 ⟨rfl, hb⟩
  have x4 := (x3.kept hb).alloc (.cells #[.int .i64 u, .int .i64 v, .string x] 23)
  have hb4' := hb3.trans (hb.mono hb3.size)
  have hb4 := hb4'.alloc hb4'.size (.cells #[.int .i64 u, .int .i64 v, .string x] 23)
  have y4 := Bx.new w4 23 [.int .i64 u, .int .i64 v, .string x]
  clear x3 hb3 hb4' hb T1
  go_wp2_with fail
  refine (T2 _).mono ?_
  rintro e w5 ⟨rfl, hb⟩
  have x5 := (x4.kept hb).alloc (.cells #[.int .i64 u, .int .i64 v, .string x] 23)
  have y5 := (y4.kept hb).alloc (.cells #[.int .i64 u, .int .i64 v, .string x] 23)
  have hb5' := hb4.trans (hb.mono hb4.size)
  have hb5 := hb5'.alloc hb5'.size (.cells #[.int .i64 u, .int .i64 v, .string x] 23)
  have z5 := Bx.new w5 23 [.int .i64 u, .int .i64 v, .string x]
  clear x4 y4 hb4 hb5' hb T2
  have S1 := split_any s m _ (hw.below hb5) (hk.below hb5) (by omega)
  have S2 := fun w => rsplit_any s m w (by omega)
  generalize (frs s m).1 = l at *
  generalize spR s m = sr at *
  generalize spE s m = se at *
  go_wp2_with fail
  refine S1.mono ?_
  rintro e w6 ⟨v1, rfl, row1, hb⟩
  have x6 := x5.kept hb
  have y6 := y5.kept hb
  have z6 := z5.kept hb
  have hb6 := hb5.trans (hb.mono hb5.size)
  clear x5 y5 z5 hb5 hb S1
  obtain ⟨A1, q1, rfl, va1, -, -⟩ := vals_of_row3 row1
  clear row1
  go_wp2_with fail
  refine (S2 _).mono ?_
  rintro e w7 ⟨v2, rfl, row2, hb⟩
  have x7 := x6.kept hb
  have y7 := y6.kept hb
  have z7 := z6.kept hb
  have va1 := va1.below hb
  have hb7 := hb6.trans (hb.mono hb6.size)
  clear x6 y6 z6 hb6 hb S2
  obtain ⟨A2, q2, rfl, va2, -, -⟩ := vals_of_row3 row2
  clear row2
  have G1 := begins_any s
  have G2 := rbegins_any s
  generalize bgR s = br at *
  generalize bgE s = be at *
  go_wp2_with fail
  refine (G1 _).mono ?_
  rintro e w8 ⟨rfl, rfl⟩
  go_wp2_with fail
  refine (G2 _).mono ?_
  rintro e w8 ⟨rfl, hb⟩
  have x8 := x7.kept hb
  have y8 := y7.kept hb
  have z8 := z7.kept hb
  have va1 := va1.below hb
  have va2 := va2.below hb
  have hb8 := hb7.trans (hb.mono hb7.size)
  clear x7 y7 z7 hb7 hb G1 G2
  go_wp2_with fail
  refine (same_any A1 A2 q1 q2 l w8 va1 va2 (by omega)).mono ?_
  rintro e w9 ⟨rfl, hb⟩
  have x9 := x8.kept hb
  have y9 := y8.kept hb
  have z9 := z8.kept hb
  have hb9 := hb8.trans (hb.mono hb8.size)
  clear x8 y8 z8 hb8 hb va1 va2
  have keep : ∀ w', Below w9.heap.size w9 w' → w'.cell? ⟨w.heap.size, 0, none⟩ = some (.int .i64 t) ∧ w'.cell? ⟨w.heap.size, 1, none⟩ = some (.int .i64 c) ∧ w'.cell? ⟨w.heap.size, 2, none⟩ = some (.string d) ∧ w'.cell? ⟨w4.heap.size, 0, none⟩ = some (.int .i64 u) ∧ w'.cell? ⟨w4.heap.size, 1, none⟩ = some (.int .i64 v) ∧ w'.cell? ⟨w4.heap.size, 2, none⟩ = some (.string x) ∧ w'.cell? ⟨w5.heap.size, 0, none⟩ = some (.int .i64 u) ∧ w'.cell? ⟨w5.heap.size, 1, none⟩ = some (.int .i64 v) ∧ w'.cell? ⟨w5.heap.size, 2, none⟩ = some (.string x) := fun w' h => ⟨(x9.kept h).cell 0 (by simp), (x9.kept h).cell 1 (by simp), (x9.kept h).cell 2 (by simp), (y9.kept h).cell 0 (by simp), (y9.kept h).cell 1 (by simp), (y9.kept h).cell 2 (by simp), (z9.kept h).cell 0 (by simp), (z9.kept h).cell 1 (by simp), (z9.kept h).cell 2 (by simp)⟩
  have R1 := fun W (h : Kin W) => right_any ⟨t, c, d⟩ W h
  have R2 := rright_any ⟨t, c, d⟩
  unfold encFr at R1 R2
  dsimp only at R1 R2
  generalize frRight ⟨t, c, d⟩ = rr at R1 R2
  have kk := hk.below hb9
  have hbs := hb9.size
  obtain ⟨x0, x1, x2, y0, y1, y2, z0, z1, z2⟩ := keep w9 (Below.refl _ _)
  clear x9 y9 z9
  go_wp2
  go_region_held3 (fun w' => w'.cell? ⟨w.heap.size, 0, none⟩ = some (.int .i64 t) ∧ w'.cell? ⟨w.heap.size, 1, none⟩ = some (.int .i64 c) ∧ w'.cell? ⟨w.heap.size, 2, none⟩ = some (.string d) ∧ w'.cell? ⟨w4.heap.size, 0, none⟩ = some (.int .i64 u) ∧ w'.cell? ⟨w4.heap.size, 1, none⟩ = some (.int .i64 v) ∧ w'.cell? ⟨w4.heap.size, 2, none⟩ = some (.string x) ∧ w'.cell? ⟨w5.heap.size, 0, none⟩ = some (.int .i64 u) ∧ w'.cell? ⟨w5.heap.size, 1, none⟩ = some (.int .i64 v) ∧ w'.cell? ⟨w5.heap.size, 2, none⟩ = some (.string x)) (first | go_keep | (exact keep _ ⟨hq.os, hq.tape, hq.output, hq.size, hq.block⟩) | (exact keep _ (Below.trans ⟨hq.os, hq.tape, hq.output, hq.size, hq.block⟩ (hq2.mono hq.size)))) (first | (go_at_call 20; refine (R1 _ (kk.below ((Below.refl _ w9).drew))).mono ?_; rintro e w10 ⟨rfl, hq⟩) | (go_at_call 21; refine (R2 _).mono ?_; rintro e w11 ⟨rfl, hq2⟩))
  have hf : Below w9.heap.size w9 w11 := Below.trans ⟨hq.os, hq.tape, hq.output, hq.size, hq.block⟩ (hq2.mono hq.size)
  go_wp2
  go_ret
  exact ⟨rfl, hb9.trans (hf.mono hbs)⟩
end Go.Proofs.YtjpijggbkiihhaaDoor
