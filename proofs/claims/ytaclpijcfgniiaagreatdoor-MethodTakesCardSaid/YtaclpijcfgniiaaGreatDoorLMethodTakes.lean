/-
  MethodTakes' walk: methods' bytes, which are right, and the methods of bytes, are as the document says. Conditions: the package num's table of widths holds 1, 2, 4, 8; the values lie in old memory, each number a uint64, each text shorter than 2^47 bytes.
-/
import Derived.Test.YtaclpijcfgniiaaGreatDoorRMSame
import Derived.Test.YtaclpijcfgniiaaGreatDoorJMB
import Derived.Test.YtaclpijcfgniiaaGreatDoorRMTake
import Derived.Test.YtaclpijcfgniiaaGreatDoorJRMBytes
import Derived.Test.YtaclpijcfgniiaaGreatDoorWMMake
import Derived.Test.YtaclpijcfgniiaaGreatDoorWMSame
namespace Go.Proofs.YtaclpijcfgniiaaGreatDoor
open Go.RowKit

def tmM (s : ByteArray) : Me := (tm s).getD ⟨0, 0, []⟩
def tmE (s : ByteArray) : Int := if (tm s).isSome = true then 0 else 7
/-- what either Take answers, right or not -/
def TmAny (s : ByteArray) (w : World) (e : Ending) (w' : World) : Prop := ∃ A cap, e = .returned (.tuple #[encM (tmM s) A cap, .int .i64 (tmE s)]) ∧ ValsAt w' A (rowV (tmM s).l) ∧ Below w.heap.size w w'
theorem tmAny_of {s : ByteArray} {w : World} {e : Ending} {w' : World} (h : TmPost s w e w') : TmAny s w e w' := by
  rcases h with ⟨m, A, cap, h0, rfl, hV, -, hb⟩ | ⟨h0, rfl, hb⟩
  · refine ⟨A, cap, ?_, ?_, hb⟩
    · rw [tmM, tmE, h0]; rfl
    · rw [tmM, h0]; exact hV
  · refine ⟨none, 0, ?_, ?_, hb⟩
    · rw [tmM, tmE, h0]; rfl
    · rw [tmM, h0]; exact fun h => by simp [rowV] at h
theorem tmM_length (s : ByteArray) : (tmM s).l.length ≤ 16 := by
  rw [tmM]
  cases h : tm s with
  | none => exact Nat.zero_le _
  | some m =>
    obtain ⟨g1, g2, -⟩ := mE_parts (tm_forth h).1
    have := (met_facts g1).2.1
    show m.l.length ≤ 16
    omega
/-- what Make answers, right or not -/
def mkM (m : Me) (q : Int) : Me := if q = 0 then m else ⟨0, 0, []⟩
def MkAny (m : Me) (q : Int) (w : World) (e : Ending) (w' : World) : Prop := ∃ A cap, e = .returned (.tuple #[encM (mkM m q) A cap, .int .i64 q]) ∧ ValsAt w' A (rowV (mkM m q).l) ∧ Below w.heap.size w w'
theorem mkAny_of {m : Me} {q : Int} {w : World} {e : Ending} {w' : World} (h : MkP m q w e w') : MkAny m q w e w' := by
  rcases h with ⟨h0, A, cap, rfl, hV, -, hb⟩ | ⟨h0, rfl, hb⟩
  · refine ⟨A, cap, ?_, ?_, hb⟩
    · rw [mkM, if_pos h0, h0]
    · rw [mkM, if_pos h0]; exact hV
  · refine ⟨none, 0, ?_, ?_, hb⟩
    · rw [mkM, if_neg h0]; rfl
    · rw [mkM, if_neg h0]; exact fun h => by simp [rowV] at h

set_option maxRecDepth 100000 in
set_option maxHeartbeats 8000000 in
theorem methodTakes_walk (m o : Me) (A B : Option Addr) (ca cb : Nat) (s : ByteArray) (w : World) (hw : Wid w) (hA : ValsAt w A (rowV m.l)) (hA0 : A = none → m.l.length = 0 ∧ ca = 0) (hBo : ValsAt w B (rowV o.l)) (hm : wfM m) (hl : m.l.length * 24 ≤ 140737488355328) (hs : s.size < 140737488355328) :
    Calls Tryz.prog 3 #[encM m A ca, .string s, encM o B cb] w fun e w' => e = .returned (.bool true) ∧ Below w.heap.size w w' := by
  have hB1 := fun W hW h' => mbytes_any m A ca W hW hm h'
  have hB2 := fun W h' => rbytes6_any m A ca W hm h'
  have hR := fun W hW h' => mright_any m A ca W hW hm h'
  have hT1 := fun W hW => (mTake_any s W hW (by omega)).mono (fun e w' h => tmAny_of h)
  have hT2 := fun W => (rTake6_any s W (by omega)).mono (fun e w' h => tmAny_of h)
  have hMk := fun W hW h' => (mmake_any m A ca W hW hm h' hA0 hl).mono (fun e w' h => mkAny_of h)
  have hS0 := fun A B ca cb W h1 h2 => rsame_any (tmM s) (tmM s) A B ca cb W h1 h2 (by have := tmM_length s; omega)
  rw [(sameM_iff _ _).2 rfl] at hS0
  have hS1 := fun W h1 h2 => msame_any m o A B ca cb W h1 h2 (by omega)
  have hS2 := fun W h1 h2 => rsame_any m o A B ca cb W h1 h2 (by omega)
  have hSk := fun C cc W h1 h2 => rsame_any m m C A cc ca W h1 h2 (by omega)
  rw [(sameM_iff _ _).2 rfl] at hSk
  unfold TmAny at hT1 hT2
  unfold MkAny at hMk
  generalize mB m = bb at hB1 hB2
  have HK : Hid (∀ q, ¬ q = 0 → mkM m q = ⟨0, 0, []⟩) := Lib.hid (fun q hq => by rw [mkM, if_neg hq])
  have HK0 : Hid (mkM m 0 = m) := Lib.hid rfl
  generalize mE m = be at hB1 hB2 hR hMk
  generalize tmM s = t at hT1 hT2 hS0
  generalize tmE s = er at hT1 hT2
  generalize sameM m o = sm at hS1 hS2
  obtain ⟨W0, hW0⟩ : ∃ W0, W0 = (w.alloc (.cells #[.int .i64 m.c, .int .i64 m.i, .slice A m.l.length ca] 24)).alloc (.cells #[.int .i64 o.c, .int .i64 o.i, .slice B o.l.length cb] 24) := ⟨_, rfl⟩
  have hb0 : Below w.heap.size w W0 := by rw [hW0]; exact ((Below.refl _ w).alloc (Nat.le_refl _) _).alloc (by simp) _
  have hx : Bx W0 w.heap.size 24 [.int .i64 m.c, .int .i64 m.i, .slice A m.l.length ca] := by rw [hW0]; exact (Bx.new w 24 [.int .i64 m.c, .int .i64 m.i, .slice A m.l.length ca]).alloc _
  have hy : Bx W0 (w.heap.size + 1) 24 [.int .i64 o.c, .int .i64 o.i, .slice B o.l.length cb] := by
    have h := Bx.new (w.alloc (.cells #[.int .i64 m.c, .int .i64 m.i, .slice A m.l.length ca] 24)) 24 [.int .i64 o.c, .int .i64 o.i, .slice B o.l.length cb]
    rw [World.size_alloc] at h
    rw [hW0]
    exact h
  have hSh := mshown_any W0 (hw.below hb0)
  simp only [encM] at hB1 hB2 hR hT1 hT2 hS0 hS1 hS2 hMk hSk ⊢
  clear hm hl hA0
  go_enter Tryz.func3, Tryz.ntmps3
  go_wp2_with fail
  rw [← hW0]
  clear hW0
  go_wp2_with fail
  with_reducible refine hSh.mono ?_
  rintro e w1 ⟨rfl, hb1⟩
  have hX1 := hb0.trans (hb1.mono hb0.size)
  have hx1 := hx.kept hb1
  have hy1 := hy.kept hb1
  clear hSh hx hy hb1 hb0
  have x0 := hx1.cell 0 (by simp)
  have x1 := hx1.cell 1 (by simp)
  have x2 := hx1.cell 2 (by simp)
  dsimp only [List.getElem_cons_zero, List.getElem_cons_succ] at x0 x1 x2
  go_wp2_with fail
  with_reducible refine (hB1 w1 (hw.below hX1) (hA.below hX1)).mono ?_
  rintro e w2 ⟨rfl, hb2⟩
  have hX2 := hX1.trans (hb2.mono hX1.size)
  have hx2 := hx1.kept hb2
  have hy2 := hy1.kept hb2
  clear hB1 hx1 hy1 hb2 hX1 x0 x1 x2
  have x0 := hx2.cell 0 (by simp)
  have x1 := hx2.cell 1 (by simp)
  have x2 := hx2.cell 2 (by simp)
  dsimp only [List.getElem_cons_zero, List.getElem_cons_succ] at x0 x1 x2
  go_wp2_with fail
  with_reducible refine (hB2 w2 (hA.below hX2)).mono ?_
  rintro e w3 ⟨rfl, hb3⟩
  have hX3 := hX2.trans (hb3.mono hX2.size)
  have hx3 := hx2.kept hb3
  have hy3 := hy2.kept hb3
  clear hB2 hx2 hy2 hb3 hX2 x0 x1 x2
  go_wp2_with fail
  with_reducible refine (hT1 w3 (hw.below hX3)).mono ?_
  rintro e w4 ⟨A4, q4, rfl, hV4, hb4⟩
  obtain ⟨W4, hW4⟩ : ∃ W4, W4 = w4.alloc (.cells #[.int .i64 t.c, .int .i64 t.i, .slice A4 t.l.length q4] 24) := ⟨_, rfl⟩
  have hbn : Below w4.heap.size w4 W4 := by rw [hW4]; exact (Below.refl _ w4).alloc (Nat.le_refl _) _
  have hp4 : Bx W4 w4.heap.size 24 [.int .i64 t.c, .int .i64 t.i, .slice A4 t.l.length q4] := by rw [hW4]; exact Bx.new w4 24 _
  have hX4 := hX3.trans (hb4.mono hX3.size)
  have hx4 := (hx3.kept hb4).kept hbn
  have hy4 := (hy3.kept hb4).kept hbn
  have hY4 := hX4.trans (hbn.mono hX4.size)
  have hV4' := hV4.below hbn
  clear hT1 hx3 hy3 hX3 hb4 hV4 hX4 hbn
  go_wp2_with fail
  rw [← hW4]
  with_reducible refine (hT2 W4).mono ?_
  clear hW4
  rintro e w5 ⟨A5, q5, rfl, hV5, hb5⟩
  obtain ⟨W5, hW5⟩ : ∃ W5, W5 = w5.alloc (.cells #[.int .i64 t.c, .int .i64 t.i, .slice A5 t.l.length q5] 24) := ⟨_, rfl⟩
  have hbn5 : Below w5.heap.size w5 W5 := by rw [hW5]; exact (Below.refl _ w5).alloc (Nat.le_refl _) _
  have hp5 : Bx W5 w5.heap.size 24 [.int .i64 t.c, .int .i64 t.i, .slice A5 t.l.length q5] := by rw [hW5]; exact Bx.new w5 24 _
  have hX5 := hY4.trans (hb5.mono hY4.size)
  have hx5 := (hx4.kept hb5).kept hbn5
  have hy5 := (hy4.kept hb5).kept hbn5
  have hp4' := (hp4.kept hb5).kept hbn5
  have hY5 := hX5.trans (hbn5.mono hX5.size)
  have hV4'' := (hV4'.below hb5).below hbn5
  have hV5' := hV5.below hbn5
  clear hT2 hx4 hy4 hY4 hb5 hV4' hV5 hp4 hX5 hbn5
  have x0 := hx5.cell 0 (by simp)
  have x1 := hx5.cell 1 (by simp)
  have x2 := hx5.cell 2 (by simp)
  dsimp only [List.getElem_cons_zero, List.getElem_cons_succ] at x0 x1 x2
  rw [hW5] at x0 x1 x2
  go_wp2_with fail
  rw [← hW5]
  clear hW5 x0 x1 x2
  with_reducible refine (hMk W5 (hw.below hY5) (hA.below hY5)).mono ?_
  rintro e w6 ⟨A6, q6, rfl, hV6, hb6⟩
  obtain ⟨k, hk⟩ : ∃ k, mkM m be = k := ⟨_, rfl⟩
  have HKb : Hid (mkM m be = k) := Lib.hid hk
  rw [hk] at hV6 ⊢
  clear hk
  have hp6 := Bx.new w6 24 [.int .i64 k.c, .int .i64 k.i, .slice A6 k.l.length q6]
  have hbn6 : Below w6.heap.size w6 (w6.alloc (.cells #[.int .i64 k.c, .int .i64 k.i, .slice A6 k.l.length q6] 24)) := (Below.refl _ w6).alloc (Nat.le_refl _) _
  have hX6 := hY5.trans (hb6.mono hY5.size)
  have hY6 := hX6.trans (hbn6.mono hX6.size)
  have hx6 := (hx5.kept hb6).kept hbn6
  have hy6 := (hy5.kept hb6).kept hbn6
  have hp4b := (hp4'.kept hb6).kept hbn6
  have hp5b := (hp5.kept hb6).kept hbn6
  have hV4c := (hV4''.below hb6).below hbn6
  have hV5c := (hV5'.below hb6).below hbn6
  have hV6' := hV6.below hbn6
  clear hMk hx5 hy5 hp4' hp5 hV4'' hV5' hY5 hX6 hbn6 hb6 hV6
  have p0 := hp4b.cell 0 (by simp)
  have p1 := hp4b.cell 1 (by simp)
  have p2 := hp4b.cell 2 (by simp)
  dsimp only [List.getElem_cons_zero, List.getElem_cons_succ] at p0 p1 p2
  have q0 := hp5b.cell 0 (by simp)
  have q1 := hp5b.cell 1 (by simp)
  have q2 := hp5b.cell 2 (by simp)
  dsimp only [List.getElem_cons_zero, List.getElem_cons_succ] at q0 q1 q2
  go_wp2_with fail
  with_reducible refine (hS0 A4 A5 q4 q5 _ hV4c hV5c).mono ?_
  rintro e w7 ⟨rfl, hb7⟩
  have hX7 := hY6.trans (hb7.mono hY6.size)
  have hx7 := hx6.kept hb7
  have hy7 := hy6.kept hb7
  have hk7 := hp6.kept hb7
  have hV7 := hV6'.below hb7
  clear hS0 hx6 hy6 hY6 hb7 hV4c hV5c hp4b hp5b hp6 hV6' p0 p1 p2 q0 q1 q2
  by_cases hq : be = 0
  · subst hq
    obtain rfl : m = k := by have := HKb.out; rw [HK0.out] at this; exact this
    clear HK HK0 HKb
    have x0 := hx7.cell 0 (by simp)
    have x1 := hx7.cell 1 (by simp)
    have x2 := hx7.cell 2 (by simp)
    dsimp only [List.getElem_cons_zero, List.getElem_cons_succ] at x0 x1 x2
    have k0 := hk7.cell 0 (by simp)
    have k1 := hk7.cell 1 (by simp)
    have k2 := hk7.cell 2 (by simp)
    dsimp only [List.getElem_cons_zero, List.getElem_cons_succ] at k0 k1 k2
    go_wp2_with fail
    with_reducible refine (hSk A6 q6 _ hV7 (hA.below hX7)).mono ?_
    rintro e w8 ⟨rfl, hb8⟩
    have hX8 := hX7.trans (hb8.mono hX7.size)
    have hx8 := hx7.kept hb8
    have hy8 := hy7.kept hb8
    clear hSk hx7 hy7 hX7 hb8 hk7 hV7 x0 x1 x2 k0 k1 k2
    have keep : ∀ w', Below w8.heap.size w8 w' → w'.cell? ⟨w.heap.size, 0, none⟩ = some (.int .i64 m.c) ∧ w'.cell? ⟨w.heap.size, 1, none⟩ = some (.int .i64 m.i) ∧ w'.cell? ⟨w.heap.size, 2, none⟩ = some (.slice A m.l.length ca) ∧ w'.cell? ⟨w.heap.size + 1, 0, none⟩ = some (.int .i64 o.c) ∧ w'.cell? ⟨w.heap.size + 1, 1, none⟩ = some (.int .i64 o.i) ∧ w'.cell? ⟨w.heap.size + 1, 2, none⟩ = some (.slice B o.l.length cb) := fun w' h => ⟨(hx8.kept h).cell 0 (by simp), (hx8.kept h).cell 1 (by simp), (hx8.kept h).cell 2 (by simp), (hy8.kept h).cell 0 (by simp), (hy8.kept h).cell 1 (by simp), (hy8.kept h).cell 2 (by simp)⟩
    have wid6 : ∀ w', Below w8.heap.size w8 w' → Wid w' := fun w' h => hw.below (hX8.trans (h.mono hX8.size))
    have vA : ∀ w', Below w8.heap.size w8 w' → ValsAt w' A _ := fun w' h' => hA.below (hX8.trans (h'.mono hX8.size))
    have vB : ∀ w', Below w8.heap.size w8 w' → ValsAt w' B _ := fun w' h' => hBo.below (hX8.trans (h'.mono hX8.size))
    obtain ⟨x0, x1, x2, y0, y1, y2⟩ := keep w8 (Below.refl _ _)
    have hbs := hX8.size
    clear hx8 hy8
    go_wp2
    go_region_held3 (fun w' => w'.cell? ⟨w.heap.size, 0, none⟩ = some (.int .i64 m.c) ∧ w'.cell? ⟨w.heap.size, 1, none⟩ = some (.int .i64 m.i) ∧ w'.cell? ⟨w.heap.size, 2, none⟩ = some (.slice A m.l.length ca) ∧ w'.cell? ⟨w.heap.size + 1, 0, none⟩ = some (.int .i64 o.c) ∧ w'.cell? ⟨w.heap.size + 1, 1, none⟩ = some (.int .i64 o.i) ∧ w'.cell? ⟨w.heap.size + 1, 2, none⟩ = some (.slice B o.l.length cb)) (first | go_keep | (exact keep _ ⟨hq.os, hq.tape, hq.output, hq.size, hq.block⟩) | (exact keep _ (Below.trans ⟨hq.os, hq.tape, hq.output, hq.size, hq.block⟩ (hq2.mono hq.size))) | (exact keep _ (Below.trans (Below.trans ⟨hq.os, hq.tape, hq.output, hq.size, hq.block⟩ (hq2.mono hq.size)) (hq3.mono (Nat.le_trans hq.size hq2.size))))) (first | (go_at_call 11; refine (hR _ (wid6 _ (Below.refl _ w8).drew) (vA _ (Below.refl _ w8).drew)).mono ?_; rintro e w10 ⟨rfl, hq⟩) | (go_at_call 12; refine (hS1 _ (vA _ ⟨hq.os, hq.tape, hq.output, hq.size, hq.block⟩) (vB _ ⟨hq.os, hq.tape, hq.output, hq.size, hq.block⟩)).mono ?_; rintro e w11 ⟨rfl, hq2⟩) | (go_at_call 10; refine (hS2 _ (vA _ (Below.trans ⟨hq.os, hq.tape, hq.output, hq.size, hq.block⟩ (hq2.mono hq.size))) (vB _ (Below.trans ⟨hq.os, hq.tape, hq.output, hq.size, hq.block⟩ (hq2.mono hq.size)))).mono ?_; rintro e w12 ⟨rfl, hq3⟩))
    have hf : Below w8.heap.size w8 w12 := Below.trans (Below.trans ⟨hq.os, hq.tape, hq.output, hq.size, hq.block⟩ (hq2.mono hq.size)) (hq3.mono (Nat.le_trans hq.size hq2.size))
    go_wp2
    go_ret
    exact ⟨rfl, hX8.trans (hf.mono hbs)⟩
  · obtain rfl : k = ⟨0, 0, []⟩ := by have := HKb.out; rw [HK.out be hq] at this; exact this.symm
    have t1 : (be != 0) = true := by simpa using hq
    have t2 : (be == 0) = false := by simpa using hq
    clear HK HK0 HKb hSk hV7 hq
    have k2 := hk7.cell 2 (by simp)
    dsimp only [List.getElem_cons_zero, List.getElem_cons_succ] at k2
    dsimp only [List.length_nil] at k2
    have hX8 := hX7
    have hx8 := hx7
    have hy8 := hy7
    clear hx7 hy7 hX7 hk7
    have keep : ∀ w', Below w7.heap.size w7 w' → w'.cell? ⟨w.heap.size, 0, none⟩ = some (.int .i64 m.c) ∧ w'.cell? ⟨w.heap.size, 1, none⟩ = some (.int .i64 m.i) ∧ w'.cell? ⟨w.heap.size, 2, none⟩ = some (.slice A m.l.length ca) ∧ w'.cell? ⟨w.heap.size + 1, 0, none⟩ = some (.int .i64 o.c) ∧ w'.cell? ⟨w.heap.size + 1, 1, none⟩ = some (.int .i64 o.i) ∧ w'.cell? ⟨w.heap.size + 1, 2, none⟩ = some (.slice B o.l.length cb) := fun w' h => ⟨(hx8.kept h).cell 0 (by simp), (hx8.kept h).cell 1 (by simp), (hx8.kept h).cell 2 (by simp), (hy8.kept h).cell 0 (by simp), (hy8.kept h).cell 1 (by simp), (hy8.kept h).cell 2 (by simp)⟩
    have wid6 : ∀ w', Below w7.heap.size w7 w' → Wid w' := fun w' h => hw.below (hX8.trans (h.mono hX8.size))
    have vA : ∀ w', Below w7.heap.size w7 w' → ValsAt w' A _ := fun w' h' => hA.below (hX8.trans (h'.mono hX8.size))
    have vB : ∀ w', Below w7.heap.size w7 w' → ValsAt w' B _ := fun w' h' => hBo.below (hX8.trans (h'.mono hX8.size))
    obtain ⟨x0, x1, x2, y0, y1, y2⟩ := keep w7 (Below.refl _ _)
    have hbs := hX8.size
    clear hx8 hy8
    go_wp2
    go_region_held3 (fun w' => w'.cell? ⟨w.heap.size, 0, none⟩ = some (.int .i64 m.c) ∧ w'.cell? ⟨w.heap.size, 1, none⟩ = some (.int .i64 m.i) ∧ w'.cell? ⟨w.heap.size, 2, none⟩ = some (.slice A m.l.length ca) ∧ w'.cell? ⟨w.heap.size + 1, 0, none⟩ = some (.int .i64 o.c) ∧ w'.cell? ⟨w.heap.size + 1, 1, none⟩ = some (.int .i64 o.i) ∧ w'.cell? ⟨w.heap.size + 1, 2, none⟩ = some (.slice B o.l.length cb)) (first | go_keep | (exact keep _ ⟨hq.os, hq.tape, hq.output, hq.size, hq.block⟩) | (exact keep _ (Below.trans ⟨hq.os, hq.tape, hq.output, hq.size, hq.block⟩ (hq2.mono hq.size))) | (exact keep _ (Below.trans (Below.trans ⟨hq.os, hq.tape, hq.output, hq.size, hq.block⟩ (hq2.mono hq.size)) (hq3.mono (Nat.le_trans hq.size hq2.size))))) (first | (go_at_call 11; refine (hR _ (wid6 _ (Below.refl _ w7).drew) (vA _ (Below.refl _ w7).drew)).mono ?_; rintro e w10 ⟨rfl, hq⟩) | (go_at_call 12; refine (hS1 _ (vA _ ⟨hq.os, hq.tape, hq.output, hq.size, hq.block⟩) (vB _ ⟨hq.os, hq.tape, hq.output, hq.size, hq.block⟩)).mono ?_; rintro e w11 ⟨rfl, hq2⟩) | (go_at_call 10; refine (hS2 _ (vA _ (Below.trans ⟨hq.os, hq.tape, hq.output, hq.size, hq.block⟩ (hq2.mono hq.size))) (vB _ (Below.trans ⟨hq.os, hq.tape, hq.output, hq.size, hq.block⟩ (hq2.mono hq.size)))).mono ?_; rintro e w12 ⟨rfl, hq3⟩))
    have hf : Below w7.heap.size w7 w12 := Below.trans (Below.trans ⟨hq.os, hq.tape, hq.output, hq.size, hq.block⟩ (hq2.mono hq.size)) (hq3.mono (Nat.le_trans hq.size hq2.size))
    go_wp2
    go_ret
    exact ⟨rfl, hX8.trans (hf.mono hbs)⟩
end Go.Proofs.YtaclpijcfgniiaaGreatDoor
