/-
  PropsTakes' walk: heads' bytes, which are right, and the heads of bytes, are as the document says. Conditions: the package num's table of widths holds 1, 2, 4, 8; the values lie in old memory, each number a uint64, each text shorter than 2^47 bytes.
-/
import Derived.Test.YtjpldfkhacchdaaDoorRPTk
import Derived.Test.YtjpldfkhacchdaaDoorRPBytes
import Derived.Test.YtjpldfkhacchdaaDoorJPSame
namespace Go.Proofs.YtjpldfkhacchdaaDoor
open Go.RowKit

def tpM (s : ByteArray) : He := if tpErr s = 0 then tpH s else ⟨0, 0, 0, []⟩
/-- what either Take answers, right or not -/
def TpAny (s : ByteArray) (w : World) (e : Ending) (w' : World) : Prop := ∃ A cap, e = .returned (.tuple #[encH (tpM s) A cap, .int .i64 (tpErr s)]) ∧ ValsAt w' A (rowV (tpM s).l) ∧ Below w.heap.size w w'
theorem tpAny_of {s : ByteArray} {w : World} {e : Ending} {w' : World} (h : TpPost s w e w') : TpAny s w e w' := by
  rcases h with ⟨h0, A, cap, rfl, hV, -, hb⟩ | ⟨h0, rfl, hb⟩
  · refine ⟨A, cap, ?_, ?_, hb⟩
    · rw [tpM, if_pos h0, h0]
    · rw [tpM, if_pos h0]; exact hV
  · refine ⟨none, 0, ?_, ?_, hb⟩
    · rw [tpM, if_neg h0]; rfl
    · rw [tpM, if_neg h0]; exact fun h => by simp [rowV] at h
theorem tpM_length (s : ByteArray) : (tpM s).l.length ≤ 14 := by
  rw [tpM]
  split
  · rw [tp_hl, tkVs_length, hLs_length]; exact wh_le _
  · exact Nat.zero_le _

set_option maxRecDepth 100000 in
set_option maxHeartbeats 4000000 in
theorem propsTakes_walk (h o : He) (A B : Option Addr) (ca cb : Nat) (s : ByteArray) (w : World) (hw : Wid w) (hA : ValsAt w A (rowV h.l)) (hBo : ValsAt w B (rowV o.l)) (hh : wfH h) (hl : h.l.length ≤ 9223372036854775807) (hs : s.size < 140737488355328) :
    Calls Tryd.prog 3 #[encH h A ca, .string s, encH o B cb] w fun e w' => e = .returned (.bool true) ∧ Below w.heap.size w w' := by
  have hB1 := fun W hW h' => pbytes_any h A ca W hW hh h'
  have hB2 := fun W h' => rbytes7_any h A ca W hh h'
  have hR := fun W hW h' => pright_any h A ca W hW hh h'
  have hT1 := fun W hW => (pTake_any s W hW (by omega)).mono (fun e w' h => tpAny_of h)
  have hT2 := fun W => (rTake7_any s W (by omega)).mono (fun e w' h => tpAny_of h)
  have hS0 := fun A B ca cb W h1 h2 => rpsame_any (tpM s) (tpM s) A B ca cb W h1 h2 (by have := tpM_length s; omega)
  rw [(sameH_iff _ _).2 rfl] at hS0
  have hS1 := fun W h1 h2 => psame_any h o A B ca cb W h1 h2 hl
  have hS2 := fun W h1 h2 => rpsame_any h o A B ca cb W h1 h2 hl
  unfold TpAny at hT1 hT2
  generalize hB h = bb at hB1 hB2
  generalize hE h = be at hB1 hB2 hR
  generalize tpM s = m at hT1 hT2 hS0
  generalize tpErr s = er at hT1 hT2
  generalize sameH h o = sm at hS1 hS2
  obtain ⟨W0, hW0⟩ : ∃ W0, W0 = (w.alloc (.cells #[.int .i64 h.c, .int .u64 h.z, .int .u64 h.f, .slice A h.l.length ca] 25)).alloc (.cells #[.int .i64 o.c, .int .u64 o.z, .int .u64 o.f, .slice B o.l.length cb] 25) := ⟨_, rfl⟩
  have hb0 : Below w.heap.size w W0 := by rw [hW0]; exact ((Below.refl _ w).alloc (Nat.le_refl _) _).alloc (by simp) _
  have hx : Bx W0 w.heap.size 25 [.int .i64 h.c, .int .u64 h.z, .int .u64 h.f, .slice A h.l.length ca] := by rw [hW0]; exact (Bx.new w 25 [.int .i64 h.c, .int .u64 h.z, .int .u64 h.f, .slice A h.l.length ca]).alloc _
  have hy : Bx W0 (w.heap.size + 1) 25 [.int .i64 o.c, .int .u64 o.z, .int .u64 o.f, .slice B o.l.length cb] := by
    have h := Bx.new (w.alloc (.cells #[.int .i64 h.c, .int .u64 h.z, .int .u64 h.f, .slice A h.l.length ca] 25)) 25 [.int .i64 o.c, .int .u64 o.z, .int .u64 o.f, .slice B o.l.length cb]
    rw [World.size_alloc] at h
    rw [hW0]
    exact h
  have hSh := pshown_any W0 (hw.below hb0)
  simp only [encH] at hB1 hB2 hR hT1 hT2 hS0 hS1 hS2 ⊢
  generalize h.l.length = hn at *
  generalize o.l.length = on at *
  generalize h.c = c1 at *
  generalize h.z = z1 at *
  generalize h.f = f1 at *
  generalize o.c = c2 at *
  generalize o.z = z2 at *
  generalize o.f = f2 at *
  go_enter Tryd.func3, Tryd.ntmps3
  go_wp2_with fail
  rw [← hW0]
  clear hW0
  go_wp2_with fail
  refine hSh.mono ?_
  rintro e w1 ⟨rfl, hb1⟩
  have hX1 := hb0.trans (hb1.mono hb0.size)
  have hx1 := hx.kept hb1
  have hy1 := hy.kept hb1
  clear hSh hx hy hb1 hb0
  have x0 := hx1.cell 0 (by simp)
  have x1 := hx1.cell 1 (by simp)
  have x2 := hx1.cell 2 (by simp)
  have x3 := hx1.cell 3 (by simp)
  dsimp only [List.getElem_cons_zero, List.getElem_cons_succ] at x0 x1 x2 x3
  go_wp2_with fail
  refine (hB1 w1 (hw.below hX1) (hA.below hX1)).mono ?_
  rintro e w2 ⟨rfl, hb2⟩
  have hX2 := hX1.trans (hb2.mono hX1.size)
  have hx2 := hx1.kept hb2
  have hy2 := hy1.kept hb2
  clear hB1 hx1 hy1 hb2 hX1 x0 x1 x2 x3
  have x0 := hx2.cell 0 (by simp)
  have x1 := hx2.cell 1 (by simp)
  have x2 := hx2.cell 2 (by simp)
  have x3 := hx2.cell 3 (by simp)
  dsimp only [List.getElem_cons_zero, List.getElem_cons_succ] at x0 x1 x2 x3
  go_wp2_with fail
  refine (hB2 w2 (hA.below hX2)).mono ?_
  rintro e w3 ⟨rfl, hb3⟩
  have hX3 := hX2.trans (hb3.mono hX2.size)
  have hx3 := hx2.kept hb3
  have hy3 := hy2.kept hb3
  clear hB2 hx2 hy2 hb3 hX2 x0 x1 x2 x3
  go_wp2_with fail
  refine (hT1 w3 (hw.below hX3)).mono ?_
  rintro e w4 ⟨A4, q4, rfl, hV4, hb4⟩
  have hX4 := hX3.trans (hb4.mono hX3.size)
  obtain ⟨W4, hW4⟩ : ∃ W4, W4 = w4.alloc (.cells #[.int .i64 m.c, .int .u64 m.z, .int .u64 m.f, .slice A4 m.l.length q4] 25) := ⟨_, rfl⟩
  have hbn : Below w4.heap.size w4 W4 := by rw [hW4]; exact (Below.refl _ w4).alloc (Nat.le_refl _) _
  have hp4 : Bx W4 w4.heap.size 25 [.int .i64 m.c, .int .u64 m.z, .int .u64 m.f, .slice A4 m.l.length q4] := by rw [hW4]; exact Bx.new w4 25 _
  have hx4 := (hx3.kept hb4).kept hbn
  have hy4 := (hy3.kept hb4).kept hbn
  have hY4 := hX4.trans (hbn.mono hX4.size)
  have hV4' := hV4.below hbn
  clear hT1 hx3 hy3 hX3 hb4 hV4
  go_wp2_with fail
  rw [← hW4]
  refine (hT2 W4).mono ?_
  clear hW4
  rintro e w5 ⟨A5, q5, rfl, hV5, hb5⟩
  have hX5 := hY4.trans (hb5.mono hY4.size)
  obtain ⟨W5, hW5⟩ : ∃ W5, W5 = w5.alloc (.cells #[.int .i64 m.c, .int .u64 m.z, .int .u64 m.f, .slice A5 m.l.length q5] 25) := ⟨_, rfl⟩
  have hbn5 : Below w5.heap.size w5 W5 := by rw [hW5]; exact (Below.refl _ w5).alloc (Nat.le_refl _) _
  have hp5 : Bx W5 w5.heap.size 25 [.int .i64 m.c, .int .u64 m.z, .int .u64 m.f, .slice A5 m.l.length q5] := by rw [hW5]; exact Bx.new w5 25 _
  have hx5 := (hx4.kept hb5).kept hbn5
  have hy5 := (hy4.kept hb5).kept hbn5
  have hp4' := (hp4.kept hb5).kept hbn5
  have hY5 := hX5.trans (hbn5.mono hX5.size)
  have hV4'' := (hV4'.below hb5).below hbn5
  have hV5' := hV5.below hbn5
  clear hT2 hx4 hy4 hY4 hb5 hV4' hV5 hp4 hX5 hbn hX4
  have p0 := hp4'.cell 0 (by simp)
  have p1 := hp4'.cell 1 (by simp)
  have p2 := hp4'.cell 2 (by simp)
  have p3 := hp4'.cell 3 (by simp)
  have q0 := hp5.cell 0 (by simp)
  have q1 := hp5.cell 1 (by simp)
  have q2 := hp5.cell 2 (by simp)
  have q3 := hp5.cell 3 (by simp)
  dsimp only [List.getElem_cons_zero, List.getElem_cons_succ] at p0 p1 p2 p3 q0 q1 q2 q3
  subst hW5
  go_wp2_with fail
  refine (hS0 A4 A5 q4 q5 _ hV4'' hV5').mono ?_
  rintro e w6 ⟨rfl, hb6⟩
  have hX6 := hY5.trans (hb6.mono hY5.size)
  have hx6 := hx5.kept hb6
  have hy6 := hy5.kept hb6
  clear hS0 hx5 hy5 hY5 hb6 hV4'' hV5' hp4' hp5 p0 p1 p2 p3 q0 q1 q2 q3 hbn5
  have keep : ∀ w', Below w6.heap.size w6 w' → w'.cell? ⟨w.heap.size, 0, none⟩ = some (.int .i64 c1) ∧ w'.cell? ⟨w.heap.size, 1, none⟩ = some (.int .u64 z1) ∧ w'.cell? ⟨w.heap.size, 2, none⟩ = some (.int .u64 f1) ∧ w'.cell? ⟨w.heap.size, 3, none⟩ = some (.slice A hn ca) ∧ w'.cell? ⟨w.heap.size + 1, 0, none⟩ = some (.int .i64 c2) ∧ w'.cell? ⟨w.heap.size + 1, 1, none⟩ = some (.int .u64 z2) ∧ w'.cell? ⟨w.heap.size + 1, 2, none⟩ = some (.int .u64 f2) ∧ w'.cell? ⟨w.heap.size + 1, 3, none⟩ = some (.slice B on cb) := fun w' h => ⟨(hx6.kept h).cell 0 (by simp), (hx6.kept h).cell 1 (by simp), (hx6.kept h).cell 2 (by simp), (hx6.kept h).cell 3 (by simp), (hy6.kept h).cell 0 (by simp), (hy6.kept h).cell 1 (by simp), (hy6.kept h).cell 2 (by simp), (hy6.kept h).cell 3 (by simp)⟩
  have wid6 : ∀ w', Below w6.heap.size w6 w' → Wid w' := fun w' h => hw.below (hX6.trans (h.mono hX6.size))
  have vA : ∀ w', Below w6.heap.size w6 w' → ValsAt w' A _ := fun w' h' => hA.below (hX6.trans (h'.mono hX6.size))
  have vB : ∀ w', Below w6.heap.size w6 w' → ValsAt w' B _ := fun w' h' => hBo.below (hX6.trans (h'.mono hX6.size))
  obtain ⟨x0, x1, x2, x3, y0, y1, y2, y3⟩ := keep w6 (Below.refl _ _)
  have hbs := hX6.size
  clear hx6 hy6
  go_wp2
  go_region_held3 (fun w' => w'.cell? ⟨w.heap.size, 0, none⟩ = some (.int .i64 c1) ∧ w'.cell? ⟨w.heap.size, 1, none⟩ = some (.int .u64 z1) ∧ w'.cell? ⟨w.heap.size, 2, none⟩ = some (.int .u64 f1) ∧ w'.cell? ⟨w.heap.size, 3, none⟩ = some (.slice A hn ca) ∧ w'.cell? ⟨w.heap.size + 1, 0, none⟩ = some (.int .i64 c2) ∧ w'.cell? ⟨w.heap.size + 1, 1, none⟩ = some (.int .u64 z2) ∧ w'.cell? ⟨w.heap.size + 1, 2, none⟩ = some (.int .u64 f2) ∧ w'.cell? ⟨w.heap.size + 1, 3, none⟩ = some (.slice B on cb)) (first | go_keep | (exact keep _ ⟨hq.os, hq.tape, hq.output, hq.size, hq.block⟩) | (exact keep _ (Below.trans ⟨hq.os, hq.tape, hq.output, hq.size, hq.block⟩ (hq2.mono hq.size))) | (exact keep _ (Below.trans (Below.trans ⟨hq.os, hq.tape, hq.output, hq.size, hq.block⟩ (hq2.mono hq.size)) (hq3.mono (Nat.le_trans hq.size hq2.size))))) (first | (go_at_call 15; refine (hR _ (wid6 _ (Below.refl _ w6).drew) (vA _ (Below.refl _ w6).drew)).mono ?_; rintro e w10 ⟨rfl, hq⟩) | (go_at_call 16; refine (hS1 _ (vA _ ⟨hq.os, hq.tape, hq.output, hq.size, hq.block⟩) (vB _ ⟨hq.os, hq.tape, hq.output, hq.size, hq.block⟩)).mono ?_; rintro e w11 ⟨rfl, hq2⟩) | (go_at_call 14; refine (hS2 _ (vA _ (Below.trans ⟨hq.os, hq.tape, hq.output, hq.size, hq.block⟩ (hq2.mono hq.size))) (vB _ (Below.trans ⟨hq.os, hq.tape, hq.output, hq.size, hq.block⟩ (hq2.mono hq.size)))).mono ?_; rintro e w12 ⟨rfl, hq3⟩))
  have hf : Below w6.heap.size w6 w12 := Below.trans (Below.trans ⟨hq.os, hq.tape, hq.output, hq.size, hq.block⟩ (hq2.mono hq.size)) (hq3.mono (Nat.le_trans hq.size hq2.size))
  go_wp2
  go_ret
  exact ⟨rfl, hX6.trans (hf.mono hbs)⟩
end Go.Proofs.YtjpldfkhacchdaaDoor
