/-
  PropsBack's walk: a right head is taken as it was; what is taken is right, and laid as it was. Conditions: the package num's table of widths holds 1, 2, 4, 8; the values lie in old memory, each number a uint64, each text shorter than 2^47 bytes.
-/
import Derived.Test.YtjpldfkhacchdaaDoorWPTk
import Derived.Test.YtjpldfkhacchdaaDoorWPRight
import Derived.Test.YtjpldfkhacchdaaDoorRPSame
namespace Go.Proofs.YtjpldfkhacchdaaDoor
open Go.RowKit

theorem hB_size {h : He} (hh : wfH h) (he : hE h = 0) : (hB h).size < 4611686018427387904 := by
  obtain ⟨h1, h2, -, h4⟩ := hE_parts he
  have hb := begB_size hh h2.1 h2.2.1
  have hc := catP_size ((hLs h.f).zip h.l) (by rw [erP_zip]; exact h4)
  have hl : ((hLs h.f).zip h.l).length ≤ 14 := by
    rw [List.length_zip, hLs_length]
    have := wh_le h.f
    omega
  rw [hB, if_pos he, ByteArray.size_append, hb]
  have := Nat.mul_le_mul_right 4294967400 hl
  omega

set_option maxRecDepth 100000 in
set_option maxHeartbeats 2000000 in
theorem propsBack_walk (h : He) (A : Option Addr) (ca : Nat) (s : ByteArray) (w : World) (hw : Wid w) (hA : ValsAt w A (rowV h.l)) (hh : wfH h) (hl : h.l.length ≤ 9223372036854775807) (hs : s.size < 140737488355328) :
    Calls Tryd.prog 5 #[encH h A ca, .string s] w fun e w' => e = .returned (.bool true) ∧ Below w.heap.size w w' := by
  have hBy := fun W hW h' => pbytes_any h A ca W hW hh h'
  have hSame := fun B cb W h1 h2 => rpsame_any h h B A cb ca W h1 h2 hl
  rw [(sameH_iff h h).2 rfl] at hSame
  have HZ : Hid (hE h = 0 → (hB h).size < 4611686018427387904) := Lib.hid (fun he => hB_size hh he)
  have HT : Hid (hE h = 0 → tpErr (hB h) = 0 ∧ tpH (hB h) = h) := Lib.hid (fun he => tp_back hh he)
  generalize hxB : hB h = x at hBy HZ HT
  generalize hxE : hE h = e1 at hBy HZ HT
  clear hxB hxE
  have hb0 : Below w.heap.size w (w.alloc (.cells #[.int .i64 h.c, .int .u64 h.z, .int .u64 h.f, .slice A h.l.length ca] 25)) := (Below.refl _ w).alloc (Nat.le_refl _) _
  have hx := Bx.new w 25 [.int .i64 h.c, .int .u64 h.z, .int .u64 h.f, .slice A h.l.length ca]
  have hSh := pshown_any _ (hw.below hb0)
  simp only [encH] at hBy hSame ⊢
  have second : ∀ (W : World) (hB : Below w.heap.size w W), Calls Tryd.prog 12 #[.string s] W (TpPost s W) := fun W hB => pTake_any s W (hw.below hB) (by omega)
  go_enter Tryd.func5, Tryd.ntmps5
  go_wp2_with fail
  refine hSh.mono ?_
  rintro e w1 ⟨rfl, hb1⟩
  have hB1 := hb0.trans (hb1.mono hb0.size)
  have hx1 := hx.kept hb1
  have x0 := hx1.cell 0 (by simp)
  have x1 := hx1.cell 1 (by simp)
  have x2 := hx1.cell 2 (by simp)
  have x3 := hx1.cell 3 (by simp)
  dsimp only [List.getElem_cons_zero, List.getElem_cons_succ] at x0 x1 x2 x3
  clear hSh hb0 hb1 hx
  go_wp2_with fail
  refine (hBy w1 (hw.below hB1) (hA.below hB1)).mono ?_
  rintro e w2 ⟨rfl, hb2⟩
  have hB2 := hB1.trans (hb2.mono hB1.size)
  have hx2 := hx1.kept hb2
  clear hBy hB1 hb2 hx1 x0 x1 x2 x3
  by_cases he : e1 = 0
  · have hz := HZ.out he
    obtain ⟨ht, ht'⟩ := HT.out he
    subst he
    clear HZ HT
    have hT1 := pTake_any x w2 (hw.below hB2) hz
    unfold TpPost at hT1
    rw [ht, ht'] at hT1
    go_wp2_with fail
    refine hT1.mono ?_
    rintro e w3 (⟨-, B, cb, rfl, hV, hn, hb3⟩ | ⟨ht2, -, -⟩)
    · have hB3 := hB2.trans (hb3.mono hB2.size)
      have hx3 := (hx2.kept hb3).alloc (.cells #[.int .i64 h.c, .int .u64 h.z, .int .u64 h.f, .slice B h.l.length cb] 25)
      have hB4 := hB3.alloc hB3.size (.cells #[.int .i64 h.c, .int .u64 h.z, .int .u64 h.f, .slice B h.l.length cb] 25)
      have hV4 := hV.below ((Below.refl _ w3).alloc (Nat.le_refl _) (.cells #[.int .i64 h.c, .int .u64 h.z, .int .u64 h.f, .slice B h.l.length cb] 25))
      have x0 := hx3.cell 0 (by simp)
      have x1 := hx3.cell 1 (by simp)
      have x2 := hx3.cell 2 (by simp)
      have x3 := hx3.cell 3 (by simp)
      dsimp only [List.getElem_cons_zero, List.getElem_cons_succ] at x0 x1 x2 x3
      clear hT1 hb3 hx2 hB2 hV hn ht ht' hB3
      simp only [encH]
      go_wp2_with fail
      refine (hSame B cb _ hV4 (hA.below hB4)).mono ?_
      rintro e w5 ⟨rfl, hb5⟩
      have hB5 := hB4.trans (hb5.mono hB4.size)
      clear hSame x0 x1 x2 x3 hx3 hB4 hV4 hb5 hA
      go_wp2_with fail
      refine (second w5 hB5).mono ?_
      rintro e w6 (⟨ht6, C, cc, rfl, hV6, hn6, hb6⟩ | ⟨ht6, rfl, hb6⟩)
      · obtain ⟨g1, g2, g3⟩ := tp_forth ht6
        generalize tpH s = m2 at *
        have hBy2 := fun W hW h => pbytes_any m2 C cc W hW g3 h
        have hR2 := fun W hW h => pright_any m2 C cc W hW g3 h
        rw [g1, g2] at hBy2
        rw [g1] at hR2
        have hB6 := hB5.trans (hb6.mono hB5.size)
        have hB7 := hB6.alloc hB6.size (.cells #[.int .i64 m2.c, .int .u64 m2.z, .int .u64 m2.f, .slice C m2.l.length cc] 25)
        have hV7 := hV6.below ((Below.refl _ w6).alloc (Nat.le_refl _) (.cells #[.int .i64 m2.c, .int .u64 m2.z, .int .u64 m2.f, .slice C m2.l.length cc] 25))
        have hy := Bx.new w6 25 [.int .i64 m2.c, .int .u64 m2.z, .int .u64 m2.f, .slice C m2.l.length cc]
        simp only [encH] at hBy2 hR2 ⊢
        clear second g1 g2 g3 ht6 hn6 hV6 hB6 hb6
        go_wp2_with fail
        refine (hBy2 _ (hw.below hB7) hV7).mono ?_
        rintro e w8 ⟨rfl, hb8⟩
        have hB8 := hB7.trans (hb8.mono hB7.size)
        have hV8 := hV7.below hb8
        have q0 := (hy.kept hb8).cell 0 (by simp)
        have q1 := (hy.kept hb8).cell 1 (by simp)
        have q2 := (hy.kept hb8).cell 2 (by simp)
        have q3 := (hy.kept hb8).cell 3 (by simp)
        dsimp only [List.getElem_cons_zero, List.getElem_cons_succ] at q0 q1 q2 q3
        clear hBy2 hB7 hV7 hy hb8
        go_wp2_with fail
        refine (hR2 w8 (hw.below hB8) hV8).mono ?_
        rintro e w9 ⟨rfl, hb9⟩
        have hB9 := hB8.trans (hb9.mono hB8.size)
        clear hR2 hB8 hV8 q0 q1 q2 q3 hb9
        go_wp2
        go_ret
        exact ⟨rfl, hB9⟩
      · have tt : (tpErr s != 0) = true := by simpa using ht6
        generalize tpErr s = er at *
        have hBy2 := fun W hW h => pbytes_any ⟨0, 0, 0, []⟩ none 0 W hW ⟨by dsimp only; omega, by dsimp only; omega, fun v hv => by cases hv⟩ h
        generalize hB ⟨0, 0, 0, []⟩ = nb at hBy2
        generalize hE ⟨0, 0, 0, []⟩ = ne at hBy2
        have hB6 := hB5.trans (hb6.mono hB5.size)
        have hB7 := hB6.alloc hB6.size (.cells #[.int .i64 0, .int .u64 0, .int .u64 0, .slice none 0 0] 25)
        simp only [encH, List.length_nil] at hBy2
        simp only [noneH]
        clear second ht6 hB6 hb6
        go_wp2_with fail
        refine (hBy2 _ (hw.below hB7) (fun h => by simp [rowV] at h)).mono ?_
        rintro e w8 ⟨rfl, hb8⟩
        have hB8 := hB7.trans (hb8.mono hB7.size)
        clear hBy2 hB7 hb8
        go_wp2
        go_ret
        exact ⟨rfl, hB8⟩
    · exact absurd trivial ht2
  · have te : (e1 == 0) = false := by simpa using he
    clear HZ HT hSame hx2 he hA
    have hB5 := hB2
    clear hB2
    go_wp2_with fail
    refine (second w2 hB5).mono ?_
    rintro e w6 (⟨ht6, C, cc, rfl, hV6, hn6, hb6⟩ | ⟨ht6, rfl, hb6⟩)
    · obtain ⟨g1, g2, g3⟩ := tp_forth ht6
      generalize tpH s = m2 at *
      have hBy2 := fun W hW h => pbytes_any m2 C cc W hW g3 h
      have hR2 := fun W hW h => pright_any m2 C cc W hW g3 h
      rw [g1, g2] at hBy2
      rw [g1] at hR2
      have hB6 := hB5.trans (hb6.mono hB5.size)
      have hB7 := hB6.alloc hB6.size (.cells #[.int .i64 m2.c, .int .u64 m2.z, .int .u64 m2.f, .slice C m2.l.length cc] 25)
      have hV7 := hV6.below ((Below.refl _ w6).alloc (Nat.le_refl _) (.cells #[.int .i64 m2.c, .int .u64 m2.z, .int .u64 m2.f, .slice C m2.l.length cc] 25))
      have hy := Bx.new w6 25 [.int .i64 m2.c, .int .u64 m2.z, .int .u64 m2.f, .slice C m2.l.length cc]
      simp only [encH] at hBy2 hR2 ⊢
      clear second g1 g2 g3 ht6 hn6 hV6 hB6 hb6
      go_wp2_with fail
      refine (hBy2 _ (hw.below hB7) hV7).mono ?_
      rintro e w8 ⟨rfl, hb8⟩
      have hB8 := hB7.trans (hb8.mono hB7.size)
      have hV8 := hV7.below hb8
      have q0 := (hy.kept hb8).cell 0 (by simp)
      have q1 := (hy.kept hb8).cell 1 (by simp)
      have q2 := (hy.kept hb8).cell 2 (by simp)
      have q3 := (hy.kept hb8).cell 3 (by simp)
      dsimp only [List.getElem_cons_zero, List.getElem_cons_succ] at q0 q1 q2 q3
      clear hBy2 hB7 hV7 hy hb8
      go_wp2_with fail
      refine (hR2 w8 (hw.below hB8) hV8).mono ?_
      rintro e w9 ⟨rfl, hb9⟩
      have hB9 := hB8.trans (hb9.mono hB8.size)
      clear hR2 hB8 hV8 q0 q1 q2 q3 hb9
      go_wp2
      go_ret
      exact ⟨rfl, hB9⟩
    · have tt : (tpErr s != 0) = true := by simpa using ht6
      generalize tpErr s = er at *
      have hBy2 := fun W hW h => pbytes_any ⟨0, 0, 0, []⟩ none 0 W hW ⟨by dsimp only; omega, by dsimp only; omega, fun v hv => by cases hv⟩ h
      generalize hB ⟨0, 0, 0, []⟩ = nb at hBy2
      generalize hE ⟨0, 0, 0, []⟩ = ne at hBy2
      have hB6 := hB5.trans (hb6.mono hB5.size)
      have hB7 := hB6.alloc hB6.size (.cells #[.int .i64 0, .int .u64 0, .int .u64 0, .slice none 0 0] 25)
      simp only [encH, List.length_nil] at hBy2
      simp only [noneH]
      clear second ht6 hB6 hb6
      go_wp2_with fail
      refine (hBy2 _ (hw.below hB7) (fun h => by simp [rowV] at h)).mono ?_
      rintro e w8 ⟨rfl, hb8⟩
      have hB8 := hB7.trans (hb8.mono hB7.size)
      clear hBy2 hB7 hb8
      go_wp2
      go_ret
      exact ⟨rfl, hB8⟩
end Go.Proofs.YtjpldfkhacchdaaDoor
