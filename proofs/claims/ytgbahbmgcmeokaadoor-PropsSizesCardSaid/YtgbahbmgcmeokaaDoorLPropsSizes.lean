/-
  PropsSizes: a head is as long as fourteen bytes and its properties; another size changes nothing else of its bytes: the walk. Conditions: the package num's table of widths holds 1, 2, 4, 8; numbers are uint64s, values' texts shorter than 2^47 bytes.
-/
import Derived.Test.YtgbahbmgcmeokaaDoorWPRight
import Derived.BigQuiet
import Derived.Deep.QuietTactic
namespace Go.Proofs.YtgbahbmgcmeokaaDoor
open Go.RowKit

theorem extract_mid (p z t : ByteArray) : (p ++ z ++ t).extract (p.size + z.size) (p ++ z ++ t).size = t := by
  apply ba_ext
  rw [Lib.extract_data, ba_append, ba_append]
  have h1 : (p.data.toList ++ z.data.toList).length = p.size + z.size := by rw [List.length_append, ba_len, ba_len]
  rw [← h1, List.drop_left, List.take_of_length_le (by rw [ba_len, h1, ByteArray.size_append, ByteArray.size_append]; omega)]
theorem extract_front (p z t : ByteArray) : (p ++ z ++ t).extract 0 p.size = p := by
  apply ba_ext
  rw [Lib.extract_data, ba_append, ba_append, List.drop_zero, List.append_assoc, ← ba_len p, Nat.sub_zero, List.take_left]
theorem sizes_right {h : He} {n : Int} (hh : wfH h) (hn : 0 ≤ n ∧ n < 18446744073709551616) (e : hE h = 0) (hl : n ≤ 65536) : ∃ P T, hE ⟨h.c, n, h.f, h.l⟩ = 0 ∧ (hB h).size = (hB ⟨h.c, n, h.f, h.l⟩).size ∧ 14 ≤ (hB h).size ∧ (hB h).extract 0 4 = P ∧ (hB ⟨h.c, n, h.f, h.l⟩).extract 0 4 = P ∧ (hB h).extract 12 (hB h).size = T ∧ (hB ⟨h.c, n, h.f, h.l⟩).extract 12 (hB ⟨h.c, n, h.f, h.l⟩).size = T ∧ (h.l.length = 0 → (hB h).size = 14) ∧ (hB h).size ≤ 1099511627776 := by
  have hs : shE h = 0 := by
    by_cases k : shE h = 0
    · exact k
    · rw [hE, if_neg k] at e; exact absurd e k
  have hok : shOk h := by
    by_cases k : shOk h
    · exact k
    · rw [shE, if_neg k] at hs; cases hs
  have hok2 : shOk ⟨h.c, n, h.f, h.l⟩ := hok
  have er : layEr (hLs h.f) h.l = 0 := by rw [hE, if_pos hs] at e; exact e
  have hs2 : shE ⟨h.c, n, h.f, h.l⟩ = 0 := by rw [shE, if_pos hok2, if_neg (by dsimp only; omega)]
  have e2 : hE ⟨h.c, n, h.f, h.l⟩ = 0 := by rw [hE, if_pos hs2]; exact er
  have s1 := putR_size (show putOk 2 h.c = true by rw [hok.1]; decide)
  have s2 := putR_size (show putOk 2 0 = true by decide)
  have s3 := putR_size (put8_ok hh.1)
  have s3' := putR_size (put8_ok hn)
  have s4 := putR_size (put2_okP ⟨hh.2.1.1, hok.2.1⟩)
  have hcat := catP_size ((hLs h.f).zip h.l) (by rw [erP_zip]; exact er)
  have hzl : ((hLs h.f).zip h.l).length = h.l.length := by rw [List.length_zip, hLs_length, hok.2.2.2]; omega
  have hle := wh_le h.f
  have hlen := hok.2.2.2
  have b1 : hB h = putR 2 h.c ++ putR 2 0 ++ putR 8 h.z ++ (putR 2 h.f ++ catP ((hLs h.f).zip h.l)) := by rw [hB, if_pos e, begB, ByteArray.append_assoc (a := putR 2 h.c ++ putR 2 0 ++ putR 8 h.z)]
  have b2 : hB ⟨h.c, n, h.f, h.l⟩ = putR 2 h.c ++ putR 2 0 ++ putR 8 n ++ (putR 2 h.f ++ catP ((hLs h.f).zip h.l)) := by rw [hB, if_pos e2, begB, ByteArray.append_assoc (a := putR 2 h.c ++ putR 2 0 ++ putR 8 n)]
  have p4 : (putR 2 h.c ++ putR 2 0).size = 4 := by rw [ByteArray.size_append]; omega
  refine ⟨putR 2 h.c ++ putR 2 0, putR 2 h.f ++ catP ((hLs h.f).zip h.l), e2, ?_, ?_, ?_, ?_, ?_, ?_, ?_, ?_⟩
  · rw [b1, b2]; simp only [ByteArray.size_append]; omega
  · rw [b1]; simp only [ByteArray.size_append]; omega
  · rw [b1, ← p4]; exact extract_front _ _ _
  · rw [b2, ← p4]; exact extract_front _ _ _
  · rw [b1]
    have := extract_mid (putR 2 h.c ++ putR 2 0) (putR 8 h.z) (putR 2 h.f ++ catP ((hLs h.f).zip h.l))
    rw [p4, show (putR 8 h.z).size = 8 by omega] at this
    exact this
  · rw [b2]
    have := extract_mid (putR 2 h.c ++ putR 2 0) (putR 8 n) (putR 2 h.f ++ catP ((hLs h.f).zip h.l))
    rw [p4, show (putR 8 n).size = 8 by omega] at this
    exact this
  · intro h0
    have hz : (hLs h.f).zip h.l = [] := List.eq_nil_of_length_eq_zero (by rw [hzl, h0])
    rw [b1, hz]
    simp only [ByteArray.size_append, catP]
    have : (⟨#[]⟩ : ByteArray).size = 0 := rfl
    omega
  · rw [b1]
    simp only [ByteArray.size_append]
    have : ((hLs h.f).zip h.l).length * 4294967400 ≤ 14 * 4294967400 := Nat.mul_le_mul_right _ (by omega)
    omega
theorem sizes_wrong {h : He} {n : Int} (e : ¬ hE h = 0) : ¬ hE ⟨h.c, n, h.f, h.l⟩ = 0 ∨ (65536 < h.z ∧ n ≤ 65536) := by
  by_cases hok : shOk h
  · have hok2 : shOk ⟨h.c, n, h.f, h.l⟩ := hok
    by_cases hn : 65536 < n
    · left
      have : shE ⟨h.c, n, h.f, h.l⟩ = 4 := by rw [shE, if_pos hok2, if_pos hn]
      rw [hE, this, if_neg (by decide)]
      decide
    · by_cases hz : 65536 < h.z
      · exact .inr ⟨hz, by omega⟩
      · left
        have h1 : shE h = 0 := by rw [shE, if_pos hok, if_neg hz]
        have h2 : shE ⟨h.c, n, h.f, h.l⟩ = 0 := by rw [shE, if_pos hok2, if_neg hn]
        rw [hE, if_pos h1] at e
        rw [hE, if_pos h2]
        exact e
  · left
    have hok2 : ¬ shOk ⟨h.c, n, h.f, h.l⟩ := hok
    have : shE ⟨h.c, n, h.f, h.l⟩ = 7 := by rw [shE, if_neg hok2]
    rw [hE, this, if_neg (by decide)]
    decide
theorem sizes_big {h : He} {n : Int} (e : hE h = 0) (hn : 65536 < n) : hE ⟨h.c, n, h.f, h.l⟩ = 4 := by
  have hok : shOk h := by
    by_cases k : shOk h
    · exact k
    · rw [hE, shE, if_neg k] at e; cases e
  have hok2 : shOk ⟨h.c, n, h.f, h.l⟩ := hok
  rw [hE, shE, if_pos hok2, if_pos hn, if_neg (by decide)]

set_option maxRecDepth 100000 in
set_option maxHeartbeats 2000000 in
theorem propsSizes_walk (h : He) (A : Option Addr) (ca : Nat) (n : Int) (w : World) (hw : Wid w) (hA : ValsAt w A (rowV h.l)) (hh : wfH h) (hn : 0 ≤ n ∧ n < 18446744073709551616) :
    Calls Tryd.prog 7 #[encH h A ca, .int .u64 n] w fun e w' => e = .returned (.bool true) ∧ Below w.heap.size w w' := by
  have hBy := fun W hW hAW => pbytes_any h A ca W hW hh hAW
  have hBk := fun W hW hAW => pbytes_any ⟨h.c, n, h.f, h.l⟩ A ca W hW ⟨hn, hh.2⟩ hAW
  have HR : Hid (hE h = 0 → n ≤ 65536 → _) := Lib.hid (fun e hl => sizes_right hh hn e hl)
  have HW : Hid (¬ hE h = 0 → _) := Lib.hid (fun e => sizes_wrong (n := n) e)
  have HG : Hid (hE h = 0 → 65536 < n → _) := Lib.hid (fun e hl => sizes_big (n := n) e hl)
  have hb0 : Below w.heap.size w (w.alloc (.cells #[.int .i64 h.c, .int .u64 h.z, .int .u64 h.f, .slice A h.l.length ca] 25)) := (Below.refl _ w).alloc (Nat.le_refl _) _
  have hx := Bx.new w 25 [.int .i64 h.c, .int .u64 h.z, .int .u64 h.f, .slice A h.l.length ca]
  have hSh := pshown_any _ (hw.below hb0)
  generalize hB h = a at hBy HR
  generalize hE h = e1 at hBy HR HW HG
  generalize hB ⟨h.c, n, h.f, h.l⟩ = b at hBk HR
  generalize hE ⟨h.c, n, h.f, h.l⟩ = e2 at hBk HR HW HG
  clear hh
  unfold encH at hBy hBk ⊢
  dsimp only at hBk
  obtain ⟨c, z, f, l⟩ := h
  dsimp only at *
  go_enter Tryd.func7, Tryd.ntmps7
  go_wp2_with fail
  refine hSh.mono ?_
  rintro e w1 ⟨rfl, hb1⟩
  have hB1 := hb0.trans (hb1.mono hb0.size)
  have hx1 := hx.kept hb1
  have x0 := hx1.cell 0 (by simp)
  have x1 := hx1.cell 1 (by simp)
  have x2 := hx1.cell 2 (by simp)
  have x3 := hx1.cell 3 (by simp)
  dsimp only [List.getElem_cons_zero, List.getElem_cons_succ] at x0 x1 x2 x3
  clear hSh hb0 hb1 hx
  go_wp2_with fail
  refine (hBy w1 (hw.below hB1) (hA.below hB1)).mono ?_
  rintro e w2 ⟨rfl, hb2⟩
  have hB2 := hB1.trans (hb2.mono hB1.size)
  have hx2 := hx1.kept hb2
  have y0 := hx2.cell 0 (by simp)
  have y1 := hx2.cell 1 (by simp)
  have y2 := hx2.cell 2 (by simp)
  have y3 := hx2.cell 3 (by simp)
  dsimp only [List.getElem_cons_zero, List.getElem_cons_succ] at y0 y1 y2 y3
  clear hBy hB1 hb2 hx1 x0 x1 x2 x3
  go_wp2_with fail
  have hB3 := hB2.alloc hB2.size (.cells #[.int .i64 c, .int .u64 n, .int .u64 f, .slice A l.length ca] 25)
  refine (hBk _ (hw.below hB3) (hA.below hB3)).mono ?_
  rintro e w4 ⟨rfl, hb4⟩
  have hB4 := hB3.trans (hb4.mono hB3.size)
  have hx4 := (hx2.kept ((Below.refl _ w2).alloc (Nat.le_refl _) (.cells #[.int .i64 c, .int .u64 n, .int .u64 f, .slice A l.length ca] 25))).kept hb4
  have z1 := hx4.cell 1 (by simp)
  have z3 := hx4.cell 3 (by simp)
  dsimp only [List.getElem_cons_zero, List.getElem_cons_succ] at z1 z3
  clear hBk hB2 hx2 hB3 hb4 y0 y1 y2 y3 hA hw hx4
  obtain ⟨n0, n1⟩ := hn
  by_cases he : e1 = 0
  · subst he
    by_cases hl : 65536 < n
    · obtain rfl := HG.out rfl hl
      have tn : decide ((65536 : Int) < n) = true := by simpa using hl
      clear HG HR HW hl
      go_wp2
      go_ret
      exact ⟨rfl, hB4⟩
    · obtain ⟨P, T, rfl, q1, q2, q3, q4, q5, q6, q7, q8⟩ := HR.out rfl (by omega)
      have tn : decide ((65536 : Int) < n) = false := by simpa using hl
      have ts : ((a.size : Int) == (b.size : Int)) = true := by simp [q1]
      have tg : decide ((14 : Int) ≤ (a.size : Int)) = true := by simp; omega
      have t4 : (4 : Int) ≤ (a.size : Int) := by omega
      have t4' : (4 : Int) ≤ (b.size : Int) := by omega
      have t12 : (12 : Int) ≤ (a.size : Int) := by omega
      have t12' : (12 : Int) ≤ (b.size : Int) := by omega
      clear HG HR HW hl
      rcases Nat.eq_zero_or_pos l.length with h0 | h0
      · have ta : ((a.size : Int) == 14) = true := by rw [beq_iff_eq]; have := q7 h0; omega
        have tl : decide (0 < l.length) = false := decide_eq_false (by omega)
        clear q1 q2 q7 q8 h0
        go_wp2_with fail
        go_quiet (fail)
        go_wp2
        go_ret
        exact ⟨rfl, below_drewN hB4 _⟩
      · have tl : decide (0 < l.length) = true := decide_eq_true h0
        clear q1 q2 q7 q8 h0
        go_wp2_with fail
        go_quiet (fail)
        go_wp2
        go_ret
        exact ⟨rfl, below_drewN hB4 _⟩
  · have t1 : (e1 != 0) = true := by simpa using he
    by_cases he2 : e2 = 0
    · have hor := (HW.out he).resolve_left (fun k => k he2)
      obtain ⟨k1, k2⟩ := hor
      have tz : decide ((65536 : Int) < z) = true := by simpa using k1
      have tn : decide (n ≤ (65536 : Int)) = true := by simpa using k2
      subst he2
      clear HG HR HW he
      go_wp2
      go_ret
      exact ⟨rfl, hB4⟩
    · have t2 : (e2 != 0) = true := by simpa using he2
      clear HG HR HW he he2
      go_wp2
      go_ret
      exact ⟨rfl, hB4⟩
end Go.Proofs.YtgbahbmgcmeokaaDoor
