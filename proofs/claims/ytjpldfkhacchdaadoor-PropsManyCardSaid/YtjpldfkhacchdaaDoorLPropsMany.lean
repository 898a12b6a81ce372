/-
  PropsMany's walk: a right head has as many values as properties; all that it has are got, no others. Conditions: the package num's table of widths holds 1, 2, 4, 8; size and flags, and values' numbers, are uint64s, values' texts shorter than 2^47 bytes.
-/
import Derived.Test.YtjpldfkhacchdaaDoorWPGet
namespace Go.Proofs.YtjpldfkhacchdaaDoor
open Go.RowKit

/-- how many of the first properties, from -1 on, are got -/
def gotN (h : He) : Nat → Nat
  | 0 => 0
  | k + 1 => gotN h k + (if gIs h ((k : Int) - 1) = true then 1 else 0)
theorem gIs_iff {h : He} (he : hE h = 0) (i : Int) : gIs h i = true ↔ ∃ x ∈ wh h.f, (x.1 : Int) = i := by
  rw [gIs, gotV, if_pos he, Option.isSome_map, whF, List.find?_isSome]
  constructor
  · rintro ⟨x, hx, e⟩
    refine ⟨x.1, ?_, by simpa using e⟩
    obtain ⟨a, b⟩ := x
    exact (List.mem_zipIdx' hx).2 ▸ List.getElem_mem _
  · rintro ⟨x, hx, e⟩
    obtain ⟨n, hn, rfl⟩ := List.getElem_of_mem hx
    refine ⟨((wh h.f)[n], n), ?_, by simpa using e⟩
    rw [List.mem_zipIdx_iff_getElem?]
    simp [hn]
theorem gIs_at {h : He} (he : hE h = 0) (i : Fin 14) : gIs h (i.1 : Int) = bitP h.f i := by
  rw [Bool.eq_iff_iff, gIs_iff he]
  constructor
  · rintro ⟨x, hx, e⟩
    have : x = i := Fin.ext (by omega)
    subst this
    exact (List.mem_filter.1 hx).2
  · intro hb
    exact ⟨i, List.mem_filter.2 ⟨List.mem_finRange i, hb⟩, rfl⟩
theorem gIs_out {h : He} (he : hE h = 0) {i : Int} (hi : i < 0 ∨ 13 < i) : gIs h i = false := by
  cases hg : gIs h i
  · rfl
  · obtain ⟨x, -, e⟩ := (gIs_iff he i).1 hg
    have := x.2
    omega
theorem gotN_mid {h : He} (he : hE h = 0) : ∀ k, k ≤ 14 → gotN h (k + 1) = (whK h.f k).length
  | 0, _ => by
    rw [gotN, gotN, gIs_out he (by omega), whK_zero]
    rfl
  | k + 1, hk => by
    rw [gotN, gotN_mid he k (by omega), whK_succ h.f k (by omega)]
    have e : (((k + 1 : Nat) : Int) - 1) = ((⟨k, by omega⟩ : Fin 14).1 : Int) := by simp
    rw [e, gIs_at he]
    cases bitP h.f ⟨k, by omega⟩ <;> simp
theorem gotN_all {h : He} (he : hE h = 0) : gotN h 21 = h.l.length := by
  have hok : shOk h := by
    by_cases hk : shOk h
    · exact hk
    · rw [hE, shE, if_neg hk, if_neg (by decide)] at he; cases he
  have h15 := gotN_mid he 14 (Nat.le_refl _)
  have o : ∀ k : Nat, 15 ≤ k → gotN h (k + 1) = gotN h k := fun k hk => by rw [gotN, gIs_out he (by omega)]; rfl
  rw [o 20 (by omega), o 19 (by omega), o 18 (by omega), o 17 (by omega), o 16 (by omega), o 15 (by omega), h15, whK_all, hok.2.2.2]
theorem gotN_le (h : He) : ∀ k, gotN h k ≤ k
  | 0 => Nat.le_refl _
  | k + 1 => by
    have := gotN_le h k
    rw [gotN]
    split <;> omega

set_option maxRecDepth 100000 in
set_option maxHeartbeats 1000000 in
theorem propsMany_walk (h : He) (A : Option Addr) (cap : Nat) (w : World) (hw : Wid w) (hA : ValsAt w A (rowV h.l)) (hh : wfH h) :
    Calls Tryd.prog 8 #[encH h A cap] w fun e w' => e = .returned (.bool true) ∧ Below w.heap.size w w' := by
  have hb0 : Below w.heap.size w (w.alloc (.cells #[.int .i64 h.c, .int .u64 h.z, .int .u64 h.f, .slice A h.l.length cap] 25)) := (Below.refl _ w).alloc (Nat.le_refl _) _
  have hSh := pshown_any _ (hw.below hb0)
  have hRt := fun W hb => pright_any h A cap W (hw.below hb) hh (hA.below hb)
  have hGt := fun i W hb => pget_any h A cap i W (hw.below hb) hh (hA.below hb)
  have HE : Hid (hE h = 0 → gotN h 21 = h.l.length ∧ ∀ i, (i < 0 ∨ 13 < i) → gIs h i = false) := Lib.hid (fun he => ⟨gotN_all he, fun i hi => gIs_out he hi⟩)
  have HN : Hid (¬ hE h = 0 → gIs h 0 = false) := Lib.hid (fun he => by rw [gIs, gotV, if_neg he]; rfl)
  have HG : Hid (∀ k, gotN h (k + 1) = gotN h k + (if gIs h ((k : Int) - 1) = true then 1 else 0)) := Lib.hid (fun k => rfl)
  have HL := Lib.hid (gotN_le h)
  have HZ : Hid (gotN h 0 = 0) := Lib.hid rfl
  have hx : Bx (w.alloc (.cells #[.int .i64 h.c, .int .u64 h.z, .int .u64 h.f, .slice A h.l.length cap] 25)) w.heap.size 25 [.int .i64 h.c, .int .u64 h.z, .int .u64 h.f, .slice A h.l.length cap] := Bx.new w _ _
  unfold encV at hGt
  generalize gotN h = gn at HE HG HL HZ
  generalize gIs h = gi at hGt HE HN HG
  generalize hE h = he at hRt HE HN
  generalize gV h = gv at hGt
  unfold encH at hRt hGt ⊢
  obtain ⟨c, z, f, l⟩ := h
  dsimp only at *
  go_enter Tryd.func8, Tryd.ntmps8
  go_wp2_with fail
  refine hSh.mono ?_
  rintro e w1 ⟨rfl, hb1⟩
  have hB1 := hb0.trans (hb1.mono hb0.size)
  have hx1 := hx.kept hb1
  have keep : ∀ w', Below w1.heap.size w1 w' → w'.cell? ⟨w.heap.size, 0, none⟩ = some (.int .i64 c) ∧ w'.cell? ⟨w.heap.size, 1, none⟩ = some (.int .u64 z) ∧ w'.cell? ⟨w.heap.size, 2, none⟩ = some (.int .u64 f) ∧ w'.cell? ⟨w.heap.size, 3, none⟩ = some (.slice A l.length cap) := fun w' h => ⟨(hx1.kept h).cell 0 (by simp), (hx1.kept h).cell 1 (by simp), (hx1.kept h).cell 2 (by simp), (hx1.kept h).cell 3 (by simp)⟩
  obtain ⟨x0, x1, x2, x3⟩ := keep w1 (Below.refl _ _)
  clear hSh hb0 hb1 hx hx1
  go_wp2_with fail
  refine (hRt w1 hB1).mono ?_
  rintro e w2 ⟨rfl, hb2⟩
  have hB2 := hB1.trans (hb2.mono hB1.size)
  obtain ⟨y0, y1, y2, y3⟩ := keep w2 hb2
  clear hRt x0 x1 x2 x3
  by_cases h0 : he = 0
  · subst h0
    obtain ⟨he1, he2⟩ := HE.out rfl
    have HE1 := Lib.hid he1
    have HE2 := Lib.hid he2
    clear he1 he2 HE HN
    go_wp2_with fail
    go_loopw [6, 7] (fun v6 v7 wr => ∃ (k : Nat) (j : Int), v6 = .int .i64 (gn k : Nat) ∧ v7 = .int .i64 j ∧ Hid (j = (k : Int) - 1 ∧ k ≤ 21) ∧ Below w2.heap.size w2 wr) (fun _ v7 _ => (20 - intOf v7).toNat)
    case atStart => exact ⟨0, -1, by rw [HZ.out]; rfl, rfl, Lib.hid ⟨rfl, by omega⟩, Below.refl _ _⟩
    case round =>
      obtain ⟨k, j, rfl, rfl, HJ, hbr⟩ := hrel
      have hBr := hB2.trans (hbr.mono hB2.size)
      obtain ⟨p0, p1, p2, p3⟩ := keep wr (hb2.trans (hbr.mono hb2.size))
      by_cases hlt : j < 20
      · have hG := hGt j wr hBr
        have e1 : IntKind.i64.wrap (j + 1) = j + 1 := by have := HJ.out; simp only [IntKind.wrap_i64]; omega
        have HJ1 : Hid (j + 1 = ((k + 1 : Nat) : Int) - 1 ∧ k + 1 ≤ 21) := Lib.hid (by have := HJ.out; omega)
        have hm : (20 - (j + 1)).toNat < (20 - j).toNat := by omega
        have tl : decide (j < 20) = true := by simpa using hlt
        generalize gv j = v at hG
        obtain ⟨vn, vs⟩ := v
        dsimp only at hG
        cases hgi : gi j
        · have HS : Hid (gn (k + 1) = gn k) := Lib.hid (by have := HG.out k; rw [← HJ.out.1, hgi] at this; simpa using this)
          rw [hgi] at hG
          clear hgi hGt hlt
          go_wp2_with fail
          refine hG.mono ?_
          rintro e w4 ⟨rfl, hb4⟩
          clear hG p0 p1 p2 p3
          go_wp2
          go_roundw
          case rel =>
            have hb5 := hbr.trans (hb4.mono hbr.size)
            exact ⟨k + 1, j + 1, by rw [HS.out], rfl, HJ1, hb5.alloc hb5.size _⟩
          case measure => simp only [intOf]; exact hm
        · have HS : Hid (gn (k + 1) = gn k + 1) := Lib.hid (by have := HG.out k; rw [← HJ.out.1, hgi] at this; simpa using this)
          have hin : ¬ (j < 0 ∨ 13 < j) := fun ho => by rw [HE2.out j ho] at hgi; cases hgi
          have t0 : decide (j < 0) = false := decide_eq_false (by omega)
          have t13 : decide (13 < j) = false := decide_eq_false (by omega)
          have e2 : IntKind.i64.wrap ((gn k : Int) + 1) = ((gn (k + 1) : Nat) : Int) := by have := HS.out; have := HL.out k; have := HJ.out; simp only [IntKind.wrap_i64]; omega
          rw [hgi] at hG
          clear hgi hGt hlt hin
          go_wp2_with fail
          refine hG.mono ?_
          rintro e w4 ⟨rfl, hb4⟩
          clear hG p0 p1 p2 p3
          go_wp2
          go_roundw
          case rel =>
            have hb5 := hbr.trans (hb4.mono hbr.size)
            exact ⟨k + 1, j + 1, rfl, rfl, HJ1, hb5.alloc hb5.size _⟩
          case measure => simp only [intOf]; exact hm
      · have hk : k = 21 := by have := HJ.out; omega
        have tl : decide (j < 20) = false := by simpa using hlt
        have tn : (((gn k : Nat) : Int) == (l.length : Int)) = true := by rw [hk, HE1.out]; simp
        clear hlt hk hGt
        go_wp2
        go_ret
        exact ⟨rfl, hBr⟩
  · have t0 : (he != 0) = true := by simpa using h0
    have hg := HN.out h0
    have hG := hGt 0 w2 hB2
    rw [hg] at hG
    clear HE HN hg h0 hGt
    go_wp2_with fail
    refine hG.mono ?_
    rintro e w3 ⟨rfl, hb3⟩
    clear hG
    go_wp2
    go_ret
    have hB3 := hB2.trans (hb3.mono hB2.size)
    exact ⟨rfl, hB3.alloc hB3.size _⟩
end Go.Proofs.YtjpldfkhacchdaaDoor
