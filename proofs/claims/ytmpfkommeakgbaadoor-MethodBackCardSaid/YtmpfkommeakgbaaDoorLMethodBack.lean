/-
  interchangelaw06.MethodBack answers true; nothing that was there is changed. Conditions: the table of widths is as its text lays it; the values lie in old memory, each number a uint64, each text shorter than 2^47 bytes.
-/
import Derived.Test.YtmpfkommeakgbaaDoorRMSame
namespace Go.Proofs.YtmpfkommeakgbaaDoor
open Go.RowKit

set_option maxRecDepth 100000 in
set_option maxHeartbeats 2000000 in
/-- behind the first half: what is taken is right, and laid as it was -/
theorem methodBack_walk (m : Me) (A : Option Addr) (ca : Nat) (s : ByteArray) (w : World) (hw : Wid w) (hA : ValsAt w A (rowV m.l)) (hm : wfM m) (hl : m.l.length * 24 ≤ 140737488355328) (hs : s.size < 140737488355328) :
    Calls Tryd.prog 4 #[encM m A ca, .string s] w fun e w' => e = .returned (.bool true) ∧ Below w.heap.size w w' := by
  have hBy := fun W hW h => mbytes_any m A ca W hW hm h
  have hSame := fun B cb W h1 h2 => rsame_any m m B A cb ca W h1 h2 (by omega)
  rw [(sameM_iff m m).2 rfl] at hSame
  have HZ : Hid (mE m = 0 → (mB m).size ≤ 1099511627776) := Lib.hid (fun h => (mB_size h).2)
  have HT : Hid (mE m = 0 → tm (mB m) = some m) := Lib.hid (fun h => tm_self (fun v hv => (hm v hv).1) h)
  generalize hxB : mB m = x at hBy HZ HT
  generalize hxE : mE m = e1 at hBy HZ HT
  clear hxB hxE
  have hb0 : Below w.heap.size w (w.alloc (.cells #[.int .i64 m.c, .int .i64 m.i, .slice A m.l.length ca] 24)) := (Below.refl _ w).alloc (Nat.le_refl _) _
  have hx := Bx.new w 24 [.int .i64 m.c, .int .i64 m.i, .slice A m.l.length ca]
  have hSh := mshown_any _ (hw.below hb0)
  simp only [encM] at hBy hSame ⊢
  have second : ∀ (W : World) (hB : Below w.heap.size w W), Calls Tryd.prog 17 #[.string s] W (TmPost s W) := fun W hB => mTake_any s W (hw.below hB) (by omega)
  go_enter Tryd.func4, Tryd.ntmps4
  go_wp2_with fail
  refine hSh.mono ?_
  rintro e w1 ⟨rfl, hb1⟩
  have hB1 := hb0.trans (hb1.mono hb0.size)
  have hx1 := hx.kept hb1
  have x0 := hx1.cell 0 (by simp)
  have x1 := hx1.cell 1 (by simp)
  have x2 := hx1.cell 2 (by simp)
  dsimp only [List.getElem_cons_zero, List.getElem_cons_succ] at x0 x1 x2
  clear hSh hb0 hb1 hx
  go_wp2_with fail
  refine (hBy w1 (hw.below hB1) (hA.below hB1)).mono ?_
  rintro e w2 ⟨rfl, hb2⟩
  have hB2 := hB1.trans (hb2.mono hB1.size)
  have hx2 := hx1.kept hb2
  clear hBy hB1 hb2 hx1 x0 x1 x2
  by_cases he : e1 = 0
  · have hz := HZ.out he
    have ht := HT.out he
    subst he
    clear HZ HT
    have hT1 := mTake_any x w2 (hw.below hB2) (by omega)
    go_wp2_with fail
    refine hT1.mono ?_
    rintro e w3 (⟨m', B, cb, ht2, rfl, hV, hn, hb3⟩ | ⟨ht2, -, -⟩)
    · rw [ht] at ht2
      cases ht2
      have hB3 := hB2.trans (hb3.mono hB2.size)
      have hx3 := (hx2.kept hb3).alloc (.cells #[.int .i64 m.c, .int .i64 m.i, .slice B m.l.length cb] 24)
      have hB4 := hB3.alloc hB3.size (.cells #[.int .i64 m.c, .int .i64 m.i, .slice B m.l.length cb] 24)
      have hV4 := hV.below ((Below.refl _ w3).alloc (Nat.le_refl _) (.cells #[.int .i64 m.c, .int .i64 m.i, .slice B m.l.length cb] 24))
      have x0 := hx3.cell 0 (by simp)
      have x1 := hx3.cell 1 (by simp)
      have x2 := hx3.cell 2 (by simp)
      dsimp only [List.getElem_cons_zero, List.getElem_cons_succ] at x0 x1 x2
      clear hT1 hb3 hx2 hB2 hV hn ht hB3
      simp only [encM]
      go_wp2_with fail
      refine (hSame B cb _ hV4 (hA.below hB4)).mono ?_
      rintro e w5 ⟨rfl, hb5⟩
      have hB5 := hB4.trans (hb5.mono hB4.size)
      clear hSame x0 x1 x2 hx3 hB4 hV4 hb5 hA
      go_wp2_with fail
      refine (second w5 hB5).mono ?_
      rintro e w6 (⟨m2, C, cc, ht6, rfl, hV6, hn6, hb6⟩ | ⟨ht6, rfl, hb6⟩)
      · obtain ⟨g1, g2, g3⟩ := tm_forth ht6
        have hm2 := tm_wf ht6
        have hBy2 := fun W hW h => mbytes_any m2 C cc W hW hm2 h
        have hR2 := fun W hW h => mright_any m2 C cc W hW hm2 h
        rw [g1, g2] at hBy2
        rw [g1] at hR2
        have hB6 := hB5.trans (hb6.mono hB5.size)
        have hB7 := hB6.alloc hB6.size (.cells #[.int .i64 m2.c, .int .i64 m2.i, .slice C m2.l.length cc] 24)
        have hV7 := hV6.below ((Below.refl _ w6).alloc (Nat.le_refl _) (.cells #[.int .i64 m2.c, .int .i64 m2.i, .slice C m2.l.length cc] 24))
        have hy := Bx.new w6 24 [.int .i64 m2.c, .int .i64 m2.i, .slice C m2.l.length cc]
        simp only [encM] at hBy2 hR2 ⊢
        clear second g1 g2 g3 hm2 ht6 hn6 hV6 hB6 hb6
        go_wp2_with fail
        refine (hBy2 _ (hw.below hB7) hV7).mono ?_
        rintro e w8 ⟨rfl, hb8⟩
        have hB8 := hB7.trans (hb8.mono hB7.size)
        have hV8 := hV7.below hb8
        have q0 := (hy.kept hb8).cell 0 (by simp)
        have q1 := (hy.kept hb8).cell 1 (by simp)
        have q2 := (hy.kept hb8).cell 2 (by simp)
        dsimp only [List.getElem_cons_zero, List.getElem_cons_succ] at q0 q1 q2
        clear hBy2 hB7 hV7 hy hb8
        go_wp2_with fail
        refine (hR2 w8 (hw.below hB8) hV8).mono ?_
        rintro e w9 ⟨rfl, hb9⟩
        have hB9 := hB8.trans (hb9.mono hB8.size)
        clear hR2 hB8 hV8 q0 q1 q2 hb9
        go_wp2
        go_ret
        exact ⟨rfl, hB9⟩
      · have hBy2 := fun W hW h => mbytes_any ⟨0, 0, []⟩ none 0 W hW (fun v hv => by cases hv) h
        generalize mB ⟨0, 0, []⟩ = nb at hBy2
        generalize mE ⟨0, 0, []⟩ = ne at hBy2
        have hB6 := hB5.trans (hb6.mono hB5.size)
        have hB7 := hB6.alloc hB6.size (.cells #[.int .i64 0, .int .i64 0, .slice none 0 0] 24)
        simp only [encM, List.length_nil] at hBy2
        simp only [noneM]
        clear second ht6 hB6 hb6
        go_wp2_with fail
        refine (hBy2 _ (hw.below hB7) (fun h => by simp [rowV] at h)).mono ?_
        rintro e w8 ⟨rfl, hb8⟩
        have hB8 := hB7.trans (hb8.mono hB7.size)
        clear hBy2 hB7 hb8
        go_wp2
        go_ret
        exact ⟨rfl, hB8⟩
    · rw [ht] at ht2; cases ht2
  · have te : (e1 == 0) = false := by simpa using he
    clear HZ HT hSame hx2 he hA
    go_wp2_with fail
    refine (second w2 hB2).mono ?_
    rintro e w6 (⟨m2, C, cc, ht6, rfl, hV6, hn6, hb6⟩ | ⟨ht6, rfl, hb6⟩)
    · obtain ⟨g1, g2, g3⟩ := tm_forth ht6
      have hm2 := tm_wf ht6
      have hBy2 := fun W hW h => mbytes_any m2 C cc W hW hm2 h
      have hR2 := fun W hW h => mright_any m2 C cc W hW hm2 h
      rw [g1, g2] at hBy2
      rw [g1] at hR2
      have hB6 := hB2.trans (hb6.mono hB2.size)
      have hB7 := hB6.alloc hB6.size (.cells #[.int .i64 m2.c, .int .i64 m2.i, .slice C m2.l.length cc] 24)
      have hV7 := hV6.below ((Below.refl _ w6).alloc (Nat.le_refl _) (.cells #[.int .i64 m2.c, .int .i64 m2.i, .slice C m2.l.length cc] 24))
      have hy := Bx.new w6 24 [.int .i64 m2.c, .int .i64 m2.i, .slice C m2.l.length cc]
      simp only [encM] at hBy2 hR2 ⊢
      clear second g1 g2 g3 hm2 ht6 hn6 hV6 hB6 hb6
      go_wp2_with fail
      refine (hBy2 _ (hw.below hB7) hV7).mono ?_
      rintro e w8 ⟨rfl, hb8⟩
      have hB8 := hB7.trans (hb8.mono hB7.size)
      have hV8 := hV7.below hb8
      have q0 := (hy.kept hb8).cell 0 (by simp)
      have q1 := (hy.kept hb8).cell 1 (by simp)
      have q2 := (hy.kept hb8).cell 2 (by simp)
      dsimp only [List.getElem_cons_zero, List.getElem_cons_succ] at q0 q1 q2
      clear hBy2 hB7 hV7 hy hb8
      go_wp2_with fail
      refine (hR2 w8 (hw.below hB8) hV8).mono ?_
      rintro e w9 ⟨rfl, hb9⟩
      have hB9 := hB8.trans (hb9.mono hB8.size)
      clear hR2 hB8 hV8 q0 q1 q2 hb9
      go_wp2
      go_ret
      exact ⟨rfl, hB9⟩
    · have hBy2 := fun W hW h => mbytes_any ⟨0, 0, []⟩ none 0 W hW (fun v hv => by cases hv) h
      generalize mB ⟨0, 0, []⟩ = nb at hBy2
      generalize mE ⟨0, 0, []⟩ = ne at hBy2
      have hB6 := hB2.trans (hb6.mono hB2.size)
      have hB7 := hB6.alloc hB6.size (.cells #[.int .i64 0, .int .i64 0, .slice none 0 0] 24)
      simp only [encM, List.length_nil] at hBy2
      simp only [noneM]
      clear second ht6 hB6 hb6
      go_wp2_with fail
      refine (hBy2 _ (hw.below hB7) (fun h => by simp [rowV] at h)).mono ?_
      rintro e w8 ⟨rfl, hb8⟩
      have hB8 := hB7.trans (hb8.mono hB7.size)
      clear hBy2 hB7 hb8
      go_wp2
      go_ret
      exact ⟨rfl, hB8⟩
end Go.Proofs.YtmpfkommeakgbaaDoor
