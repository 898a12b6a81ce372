/-
  Several texts joined in one file: each says at its own head, below, what it proves, and its conditions.
-/
import Derived.Maps.OwnSet
import Derived.Maps.OwnIn
import Derived.Test.YtkdiccedkjbpeaaGreatDoorRKA
import Derived.RangeFuncNested
import Derived.RangeFuncBound
import Derived.RangeFuncCalls
import Derived.RangeFuncLeaves
import Derived.Shelf.Abstract
import Derived.Shelf.RegionOpen
import Derived.WalkKit
import Derived.OwnWalkIn
import Derived.TacticsInMore
import Derived.LoopNIn
import Derived.LoopIn
import Derived.Maps.AppendAt
import Derived.Laws.EntriesVeiled
import Derived.Test.YtkdiccedkjbpeaaGreatDoorRJMem
import Derived.WalkMore
/-
  Package table's leaves: enter, within, flat, front, kinds answer as the plain functions of PTab say. Condition: the package num's table of widths holds 1, 2, 4, 8; texts have fewer than 2^62 bytes.
-/
namespace Go.Proofs.YtkdiccedkjbpeaaGreatDoorR
open Go.RowKit Go.Maps

def enOk (t : ByteArray) (room : Int) : Bool := ttOk 4 t && decide (1 ≤ room)
def enE (t : ByteArray) (room : Int) : Int := if ttOk 4 t = true then (if room < 1 then 5 else 0) else 2
def enA (t : ByteArray) (room : Int) : ByteArray := if enOk t room = true then ttA 4 t else ⟨#[]⟩
def enB (t : ByteArray) (room : Int) : ByteArray := if enOk t room = true then ttR 4 t else ⟨#[]⟩

theorem enter_any (s : ByteArray) (room : Int) (w : World) (hw : Wid w) (hs : s.size < 4611686018427387904) :
    Calls Tryz.prog 126 #[.string s, .int .i64 room] w fun e w' => e = .returned (.tuple #[.string (enA s room), .string (enB s room), .int .i64 (enE s room)]) ∧ Below w.heap.size w w' := by
  go_enter Tryz.func126, Tryz.ntmps126
  go_wp2_with fail
  refine (takeLong_any s w hw hs).mono ?_
  rintro e w1 ⟨rfl, hb⟩
  cases h : ttOk 4 s
  · obtain ⟨t1, -⟩ := ttE_not h
    have H := Lib.hid (show enA s room = ⟨#[]⟩ ∧ enB s room = ⟨#[]⟩ ∧ enE s room = ttE 4 s by
      rw [ttE_four h]; simp [enA, enB, enE, enOk, h])
    clear h
    generalize ttA 4 s = a
    generalize ttR 4 s = b
    generalize ttE 4 s = x at t1 H ⊢
    go_wp2
    go_ret3
    refine ⟨?_, hb⟩
    rw [H.out.1, H.out.2.1, H.out.2.2]
    rfl
  · rw [ttE_of h]
    by_cases hr : room < 1
    · have H := Lib.hid (show enA s room = ⟨#[]⟩ ∧ enB s room = ⟨#[]⟩ ∧ enE s room = 5 by
        have : ¬ 1 ≤ room := by omega
        simp [enA, enB, enE, enOk, h, hr, this])
      clear h
      generalize ttA 4 s = a
      generalize ttR 4 s = b
      go_wp2
      go_ret3
      refine ⟨?_, hb⟩
      rw [H.out.1, H.out.2.1, H.out.2.2]
      rfl
    · have H := Lib.hid (show enA s room = ttA 4 s ∧ enB s room = ttR 4 s ∧ enE s room = 0 by
        have : 1 ≤ room := by omega
        simp [enA, enB, enE, enOk, h, hr, this])
      clear h
      generalize ttA 4 s = a at H ⊢
      generalize ttR 4 s = b at H ⊢
      go_wp2
      go_ret3
      refine ⟨?_, hb⟩
      rw [H.out.1, H.out.2.1, H.out.2.2]
      rfl

theorem wErr_any (x : Int) (w : World) :
    Calls Tryz.prog 127 #[.int .i64 x] w fun e w' => e = .returned (.int .i64 (wErr x)) ∧ w = w' := by
  by_cases h : x = 2
  · subst h
    go_enter Tryz.func127, Tryz.ntmps127
    go_wp2
    go_ret
    exact ⟨rfl, rfl⟩
  · have H := Lib.hid (show wErr x = x by simp [wErr, h])
    have t1 : (x == 2) = false := by simpa using h
    go_enter Tryz.func127, Tryz.ntmps127
    go_wp2
    go_ret
    exact ⟨by rw [H.out]; rfl, rfl⟩

theorem front_any (s r : ByteArray) (w : World) (h : r.size ≤ s.size) (hs : s.size < 4611686018427387904) :
    Calls Tryz.prog 133 #[.string s, .string r] w fun e w' => e = .returned (.string (front s r)) ∧ w = w' := by
  have H := Lib.hid (show front s r = s.extract 0 (s.size - r.size) from rfl)
  go_enter Tryz.func133, Tryz.ntmps133
  go_wp2
  go_ret
  exact ⟨by rw [H.out]; rfl, rfl⟩

theorem flat_any (s : ByteArray) (n : Int) (w : World) (hw : Wid w) (hs : s.size < 4611686018427387904) (hn : n = -1 ∨ 0 ≤ n ∧ n ≤ 8) :
    Calls Tryz.prog 132 #[.string s, .int .i64 n] w fun e w' => e = .returned (.tuple #[.int .i64 (flat s n).deep, .string (flat s n).rest, .int .i64 (flat s n).err]) ∧ Below w.heap.size w w' := by
  rcases hn with rfl | ⟨h0, h8⟩
  · have H := Lib.hid (show flat s (-1) = ⟨0, ttR 4 s, ttE 4 s⟩ from rfl)
    go_enter Tryz.func132, Tryz.ntmps132
    go_wp2_with fail
    refine (takeLong_any s w hw hs).mono ?_
    rintro e w1 ⟨rfl, hb⟩
    generalize ttA 4 s = a
    generalize ttR 4 s = b at H ⊢
    generalize ttE 4 s = x at H ⊢
    go_wp2
    go_ret3
    exact ⟨by rw [H.out]; rfl, hb⟩
  · have hne : ¬ n = -1 := by omega
    have H := Lib.hid (show flat s n = ⟨0, skipB s n, skipE s n⟩ by simp [flat, hne])
    have t1 : (n == -1) = false := by simpa using hne
    go_enter Tryz.func132, Tryz.ntmps132
    go_wp2_with fail
    refine (skip_any s _ w h0 (by unfold maxLen; omega)).mono ?_
    rintro e w1 ⟨rfl, hb⟩
    generalize skipA s n = a
    generalize skipB s n = b at H ⊢
    generalize skipE s n = x at H ⊢
    go_wp2
    go_ret3
    exact ⟨by rw [H.out]; rfl, hb⟩
end Go.Proofs.YtkdiccedkjbpeaaGreatDoorR

/-
  table.kinds makes a map that has, at the byte of each kind, what stands behind it. No condition.
-/
namespace Go.Proofs.YtkdiccedkjbpeaaGreatDoorR
open Go.RowKit Go.Maps

theorem lawByte : Keyed Tryz.prog 5 := int_keyed Tryz.underlying5
theorem zeroInt (w : World) : (zeroValue 3).run Tryz.prog w = .ok (.int .i64 0) w := by kernel_rfl
/-- the kinds, as they were laid one by one -/
def kindsD : DataW Unit := ((((((((((((((((((DataW.map []).put (.int .u8 116) (.lit (.int .i64 (1)))).put (.int .u8 98) (.lit (.int .i64 (1)))).put (.int .u8 66) (.lit (.int .i64 (1)))).put (.int .u8 115) (.lit (.int .i64 (2)))).put (.int .u8 117) (.lit (.int .i64 (2)))).put (.int .u8 73) (.lit (.int .i64 (4)))).put (.int .u8 105) (.lit (.int .i64 (4)))).put (.int .u8 102) (.lit (.int .i64 (4)))).put (.int .u8 108) (.lit (.int .i64 (8)))).put (.int .u8 100) (.lit (.int .i64 (8)))).put (.int .u8 84) (.lit (.int .i64 (8)))).put (.int .u8 68) (.lit (.int .i64 (5)))).put (.int .u8 83) (.lit (.int .i64 (-1)))).put (.int .u8 120) (.lit (.int .i64 (-1)))).put (.int .u8 86) (.lit (.int .i64 (0)))).put (.int .u8 65) (.lit (.int .i64 (-2)))).put (.int .u8 70) (.lit (.int .i64 (-3))))
/-- what a look-up finds -/
def kindN (c : Int) : Int := if kindV c = -4 then 0 else kindV c
/-- of each entry and each byte: is it that key, and what it finds -/
def kindsSame (d e : DataW Unit) : Bool := match d, e with
  | .lit (.int .i64 a), .lit (.int .i64 b) => a == b
  | _, _ => false
theorem kindsSame_eq {d e : DataW Unit} (h : kindsSame d e = true) : d = e := by
  unfold kindsSame at h
  split at h
  · simpa using h
  · cases h
theorem kinds_fin : ∀ i : Fin 256, (kindsSame (kindsD.atKey (.int .u8 (i.val : Nat)) (.lit (.int .i64 0))) (.lit (.int .i64 (kindN (i.val : Nat)))) && (Maps.has kindsD (.int .u8 (i.val : Nat)) == decide (kindV (i.val : Nat) ≠ -4))) = true := by
  decide +kernel
theorem kinds_at (c : Int) (h0 : 0 ≤ c) (h1 : c < 256) : kindsD.atKey (.int .u8 c) (.lit (.int .i64 0)) = .lit (.int .i64 (kindN c)) ∧ Maps.has kindsD (.int .u8 c) = decide (kindV c ≠ -4) := by
  obtain ⟨n, rfl⟩ := Int.eq_ofNat_of_zero_le h0
  have h := kinds_fin ⟨n, by omega⟩
  rw [Bool.and_eq_true] at h
  exact ⟨kindsSame_eq h.1, by simpa using h.2⟩

set_option maxRecDepth 100000 in
set_option maxHeartbeats 1000000 in
theorem kinds_any (w : World) :
    Calls Tryz.prog 124 #[] w fun e w' => e = .returned (.map (some w.heap.size)) ∧ w'.ownsMap Tryz.prog 5 (plainElem (H := Unit) Tryz.prog 3) w.heap.size 17 kindsD ∧ Below w.heap.size w w' := by
  have hmm := @run_makeMap Tryz.prog
  have hm0 := World.ownsMap_made w Tryz.prog 5 (plainElem (H := Unit) Tryz.prog 3)
  have hb0 : Below w.heap.size w (w.alloc (.map #[] 0)) := (Below.refl _ _).alloc (Nat.le_refl _) _
  obtain ⟨w1, hr1, hm1, hg1⟩ := hm0.update (t := 162) (e := 3) lawByte Tryz.underlying162 (by decide) (keyOf_int_mk (q := .u8) (a := 116) Tryz.underlying5 (by decide)) (plainElem_int (q := .i64) (a := 1) Tryz.underlying3 (by decide))
  have hb1 := hb0.grown hg1 hb0.size (fun k e => by cases e; exact Nat.le_refl _)
  clear hm0 hg1 hb0
  obtain ⟨w2, hr2, hm2, hg2⟩ := hm1.update (t := 162) (e := 3) lawByte Tryz.underlying162 (by decide) (keyOf_int_mk (q := .u8) (a := 98) Tryz.underlying5 (by decide)) (plainElem_int (q := .i64) (a := 1) Tryz.underlying3 (by decide))
  have hb2 := hb1.grown hg2 hb1.size (fun k e => by cases e; exact Nat.le_refl _)
  clear hm1 hg2 hb1
  obtain ⟨w3, hr3, hm3, hg3⟩ := hm2.update (t := 162) (e := 3) lawByte Tryz.underlying162 (by decide) (keyOf_int_mk (q := .u8) (a := 66) Tryz.underlying5 (by decide)) (plainElem_int (q := .i64) (a := 1) Tryz.underlying3 (by decide))
  have hb3 := hb2.grown hg3 hb2.size (fun k e => by cases e; exact Nat.le_refl _)
  clear hm2 hg3 hb2
  obtain ⟨w4, hr4, hm4, hg4⟩ := hm3.update (t := 162) (e := 3) lawByte Tryz.underlying162 (by decide) (keyOf_int_mk (q := .u8) (a := 115) Tryz.underlying5 (by decide)) (plainElem_int (q := .i64) (a := 2) Tryz.underlying3 (by decide))
  have hb4 := hb3.grown hg4 hb3.size (fun k e => by cases e; exact Nat.le_refl _)
  clear hm3 hg4 hb3
  obtain ⟨w5, hr5, hm5, hg5⟩ := hm4.update (t := 162) (e := 3) lawByte Tryz.underlying162 (by decide) (keyOf_int_mk (q := .u8) (a := 117) Tryz.underlying5 (by decide)) (plainElem_int (q := .i64) (a := 2) Tryz.underlying3 (by decide))
  have hb5 := hb4.grown hg5 hb4.size (fun k e => by cases e; exact Nat.le_refl _)
  clear hm4 hg5 hb4
  obtain ⟨w6, hr6, hm6, hg6⟩ := hm5.update (t := 162) (e := 3) lawByte Tryz.underlying162 (by decide) (keyOf_int_mk (q := .u8) (a := 73) Tryz.underlying5 (by decide)) (plainElem_int (q := .i64) (a := 4) Tryz.underlying3 (by decide))
  have hb6 := hb5.grown hg6 hb5.size (fun k e => by cases e; exact Nat.le_refl _)
  clear hm5 hg6 hb5
  obtain ⟨w7, hr7, hm7, hg7⟩ := hm6.update (t := 162) (e := 3) lawByte Tryz.underlying162 (by decide) (keyOf_int_mk (q := .u8) (a := 105) Tryz.underlying5 (by decide)) (plainElem_int (q := .i64) (a := 4) Tryz.underlying3 (by decide))
  have hb7 := hb6.grown hg7 hb6.size (fun k e => by cases e; exact Nat.le_refl _)
  clear hm6 hg7 hb6
  obtain ⟨w8, hr8, hm8, hg8⟩ := hm7.update (t := 162) (e := 3) lawByte Tryz.underlying162 (by decide) (keyOf_int_mk (q := .u8) (a := 102) Tryz.underlying5 (by decide)) (plainElem_int (q := .i64) (a := 4) Tryz.underlying3 (by decide))
  have hb8 := hb7.grown hg8 hb7.size (fun k e => by cases e; exact Nat.le_refl _)
  clear hm7 hg8 hb7
  obtain ⟨w9, hr9, hm9, hg9⟩ := hm8.update (t := 162) (e := 3) lawByte Tryz.underlying162 (by decide) (keyOf_int_mk (q := .u8) (a := 108) Tryz.underlying5 (by decide)) (plainElem_int (q := .i64) (a := 8) Tryz.underlying3 (by decide))
  have hb9 := hb8.grown hg9 hb8.size (fun k e => by cases e; exact Nat.le_refl _)
  clear hm8 hg9 hb8
  obtain ⟨w10, hr10, hm10, hg10⟩ := hm9.update (t := 162) (e := 3) lawByte Tryz.underlying162 (by decide) (keyOf_int_mk (q := .u8) (a := 100) Tryz.underlying5 (by decide)) (plainElem_int (q := .i64) (a := 8) Tryz.underlying3 (by decide))
  have hb10 := hb9.grown hg10 hb9.size (fun k e => by cases e; exact Nat.le_refl _)
  clear hm9 hg10 hb9
  obtain ⟨w11, hr11, hm11, hg11⟩ := hm10.update (t := 162) (e := 3) lawByte Tryz.underlying162 (by decide) (keyOf_int_mk (q := .u8) (a := 84) Tryz.underlying5 (by decide)) (plainElem_int (q := .i64) (a := 8) Tryz.underlying3 (by decide))
  have hb11 := hb10.grown hg11 hb10.size (fun k e => by cases e; exact Nat.le_refl _)
  clear hm10 hg11 hb10
  obtain ⟨w12, hr12, hm12, hg12⟩ := hm11.update (t := 162) (e := 3) lawByte Tryz.underlying162 (by decide) (keyOf_int_mk (q := .u8) (a := 68) Tryz.underlying5 (by decide)) (plainElem_int (q := .i64) (a := 5) Tryz.underlying3 (by decide))
  have hb12 := hb11.grown hg12 hb11.size (fun k e => by cases e; exact Nat.le_refl _)
  clear hm11 hg12 hb11
  obtain ⟨w13, hr13, hm13, hg13⟩ := hm12.update (t := 162) (e := 3) lawByte Tryz.underlying162 (by decide) (keyOf_int_mk (q := .u8) (a := 83) Tryz.underlying5 (by decide)) (plainElem_int (q := .i64) (a := -1) Tryz.underlying3 (by decide))
  have hb13 := hb12.grown hg13 hb12.size (fun k e => by cases e; exact Nat.le_refl _)
  clear hm12 hg13 hb12
  obtain ⟨w14, hr14, hm14, hg14⟩ := hm13.update (t := 162) (e := 3) lawByte Tryz.underlying162 (by decide) (keyOf_int_mk (q := .u8) (a := 120) Tryz.underlying5 (by decide)) (plainElem_int (q := .i64) (a := -1) Tryz.underlying3 (by decide))
  have hb14 := hb13.grown hg14 hb13.size (fun k e => by cases e; exact Nat.le_refl _)
  clear hm13 hg14 hb13
  obtain ⟨w15, hr15, hm15, hg15⟩ := hm14.update (t := 162) (e := 3) lawByte Tryz.underlying162 (by decide) (keyOf_int_mk (q := .u8) (a := 86) Tryz.underlying5 (by decide)) (plainElem_int (q := .i64) (a := 0) Tryz.underlying3 (by decide))
  have hb15 := hb14.grown hg15 hb14.size (fun k e => by cases e; exact Nat.le_refl _)
  clear hm14 hg15 hb14
  obtain ⟨w16, hr16, hm16, hg16⟩ := hm15.update (t := 162) (e := 3) lawByte Tryz.underlying162 (by decide) (keyOf_int_mk (q := .u8) (a := 65) Tryz.underlying5 (by decide)) (plainElem_int (q := .i64) (a := -2) Tryz.underlying3 (by decide))
  have hb16 := hb15.grown hg16 hb15.size (fun k e => by cases e; exact Nat.le_refl _)
  clear hm15 hg16 hb15
  obtain ⟨w17, hr17, hm17, hg17⟩ := hm16.update (t := 162) (e := 3) lawByte Tryz.underlying162 (by decide) (keyOf_int_mk (q := .u8) (a := 70) Tryz.underlying5 (by decide)) (plainElem_int (q := .i64) (a := -3) Tryz.underlying3 (by decide))
  have hb17 := hb16.grown hg17 hb16.size (fun k e => by cases e; exact Nat.le_refl _)
  clear hm16 hg17 hb16
  go_enter Tryz.func124, Tryz.ntmps124
  go_wp2
  go_ret
  exact ⟨rfl, hm17, hb17⟩
end Go.Proofs.YtkdiccedkjbpeaaGreatDoorR

/-
  What table.takers makes: the closures of a value, a row and a table, in boxes, and the map of the kinds; what abides as long as no older block is written.
-/
namespace Go.Proofs.YtkdiccedkjbpeaaGreatDoorR
open Go.RowKit Go.Maps

/-- the map of the kinds lies at M; the boxes of the map, of value, row and table from B on -/
structure Tk (w : World) (M B : Nat) : Prop where
  wid : Wid w
  map : w.ownsMap Tryz.prog 5 (plainElem (H := Unit) Tryz.prog 3) M 17 kindsD
  bm : Boxed w B 162 (.map (some M))
  bv : Boxed w (B + 1) 158 (.func (.func 130) #[] #[.pointer (some ⟨B, 0, none⟩), .pointer (some ⟨B + 2, 0, none⟩), .pointer (some ⟨B + 3, 0, none⟩)])
  br : Boxed w (B + 2) 158 (.func (.func 125) #[] #[.pointer (some ⟨B + 1, 0, none⟩)])
  bt : Boxed w (B + 3) 158 (.func (.func 128) #[] #[.pointer (some ⟨B + 1, 0, none⟩)])

theorem Tk.lt {w : World} {M B : Nat} (h : Tk w M B) : B + 3 < w.heap.size := h.bt.lt
theorem Tk.below {w w' : World} {M B : Nat} (h : Tk w M B) (hb : Below w.heap.size w w') : Tk w' M B := by
  refine ⟨h.wid.below hb, ?_, boxed_below h.bm hb h.bm.lt, boxed_below h.bv hb h.bv.lt, boxed_below h.br hb h.br.lt, boxed_below h.bt hb h.bt.lt⟩
  have hlt := h.map.lt
  obtain ⟨es, clock, h1, h2, h3, h4⟩ := h.map
  exact ⟨es, clock, (hb.block M hlt).trans h1, h2, h3, h4⟩

set_option maxHeartbeats 1000000 in
theorem takers_any (w : World) (hw : Wid w) :
    Calls Tryz.prog 121 #[] w fun e w' => ∃ M B, e = .returned (.tuple #[.func (.func 130) #[] #[.pointer (some ⟨B, 0, none⟩), .pointer (some ⟨B + 2, 0, none⟩), .pointer (some ⟨B + 3, 0, none⟩)], .func (.func 128) #[] #[.pointer (some ⟨B + 1, 0, none⟩)]]) ∧ Tk w' M B ∧ Below w.heap.size w w' := by
  have hm1 : ∀ (p : Value) (w : World), (Instr.makeFunc (.func 125) #[] #[p]).run Tryz.prog w = .ok (.func (.func 125) #[] #[p]) w := fun _ _ => by kernel_rfl
  have hm2 : ∀ (p : Value) (w : World), (Instr.makeFunc (.func 128) #[] #[p]).run Tryz.prog w = .ok (.func (.func 128) #[] #[p]) w := fun _ _ => by kernel_rfl
  have hm3 : ∀ (p q r : Value) (w : World), (Instr.makeFunc (.func 130) #[] #[p, q, r]).run Tryz.prog w = .ok (.func (.func 130) #[] #[p, q, r]) w := fun _ _ _ _ => by kernel_rfl
  go_enter Tryz.func121, Tryz.ntmps121
  go_wp2_with fail
  refine (kinds_any w).mono ?_
  rintro e w1 ⟨rfl, hm, hb⟩
  go_wp2
  go_quiet (fail)
  go_wp2
  go_ret2
  have hbs := hb.size
  have hbW : Below w.heap.size w _ := (((hb.alloc hbs (.cells #[.map (some w.heap.size)] 162)).alloc (by simp; omega) (.cells #[.func (.func 130) #[] #[.pointer (some ⟨w1.heap.size, 0, none⟩), .pointer (some ⟨w1.heap.size + 1 + 1, 0, none⟩), .pointer (some ⟨w1.heap.size + 1 + 1 + 1, 0, none⟩)]] 158)).alloc (by simp; omega) (.cells #[.func (.func 125) #[] #[.pointer (some ⟨w1.heap.size + 1, 0, none⟩)]] 158)).alloc (by simp; omega) (.cells #[.func (.func 128) #[] #[.pointer (some ⟨w1.heap.size + 1, 0, none⟩)]] 158)
  refine ⟨w.heap.size, w1.heap.size, rfl, ⟨hw.below (below_drewN hbW _), ?_, ?_, ?_, ?_, ?_⟩, below_drewN hbW _⟩
  · exact (((hm.alloc _).alloc _).alloc _).alloc _
  · exact (((Boxed.new w1 _ _).alloc _).alloc _).alloc _
  · have h := ((Boxed.new (w1.alloc (.cells #[.map (some w.heap.size)] 162)) 158 (.func (.func 130) #[] #[.pointer (some ⟨w1.heap.size, 0, none⟩), .pointer (some ⟨w1.heap.size + 1 + 1, 0, none⟩), .pointer (some ⟨w1.heap.size + 1 + 1 + 1, 0, none⟩)])).alloc (.cells #[.func (.func 125) #[] #[.pointer (some ⟨w1.heap.size + 1, 0, none⟩)]] 158)).alloc (.cells #[.func (.func 128) #[] #[.pointer (some ⟨w1.heap.size + 1, 0, none⟩)]] 158)
    rw [World.size_alloc] at h
    exact h
  · have h := (Boxed.new ((w1.alloc (.cells #[.map (some w.heap.size)] 162)).alloc (.cells #[.func (.func 130) #[] #[.pointer (some ⟨w1.heap.size, 0, none⟩), .pointer (some ⟨w1.heap.size + 1 + 1, 0, none⟩), .pointer (some ⟨w1.heap.size + 1 + 1 + 1, 0, none⟩)]] 158)) 158 (.func (.func 125) #[] #[.pointer (some ⟨w1.heap.size + 1, 0, none⟩)])).alloc (.cells #[.func (.func 128) #[] #[.pointer (some ⟨w1.heap.size + 1, 0, none⟩)]] 158)
    rw [World.size_alloc, World.size_alloc] at h
    exact h
  · have h := Boxed.new (((w1.alloc (.cells #[.map (some w.heap.size)] 162)).alloc (.cells #[.func (.func 130) #[] #[.pointer (some ⟨w1.heap.size, 0, none⟩), .pointer (some ⟨w1.heap.size + 1 + 1, 0, none⟩), .pointer (some ⟨w1.heap.size + 1 + 1 + 1, 0, none⟩)]] 158)).alloc (.cells #[.func (.func 125) #[] #[.pointer (some ⟨w1.heap.size + 1, 0, none⟩)]] 158)) 158 (.func (.func 128) #[] #[.pointer (some ⟨w1.heap.size + 1, 0, none⟩)])
    rw [World.size_alloc, World.size_alloc, World.size_alloc] at h
    exact h
end Go.Proofs.YtkdiccedkjbpeaaGreatDoorR

/-
  The closure of a row: if the closure of a value answers as PTab's val for every text that is shorter, that of a row answers as nest false.
-/
namespace Go.Proofs.YtkdiccedkjbpeaaGreatDoorR
open Go.RowKit Go.Maps

/-- how long a text's value is -/
def tabLen : Value → Nat
  | .string s => s.size
  | _ => 0
/-- the closure of a value answers as it should, of texts of at most n bytes -/
def ValC (n : Nat) : Prop := ∀ (s : ByteArray) (room : Int) (w : World) (M B : Nat), s.size ≤ n → s.size < 4611686018427387904 → 0 ≤ room → room ≤ 32 → Tk w M B →
  Calls Tryz.prog 130 #[.string s, .int .i64 room, .pointer (some ⟨B, 0, none⟩), .pointer (some ⟨B + 2, 0, none⟩), .pointer (some ⟨B + 3, 0, none⟩)] w fun e w' => e = .returned (.tuple #[.int .i64 (val s room).deep, .string (val s room).rest, .int .i64 (val s room).err]) ∧ Below w.heap.size w w'

theorem enOk_of {t : ByteArray} {room : Int} (h : enOk t room = true) : enE t room = 0 ∧ enA t room = ttA 4 t ∧ enB t room = ttR 4 t ∧ ttOk 4 t = true ∧ 1 ≤ room := by
  have h' := h
  simp [enOk] at h'
  refine ⟨?_, by rw [enA, if_pos h], by rw [enB, if_pos h], h'.1, h'.2⟩
  rw [enE, if_pos h'.1, if_neg (by omega)]
theorem enOk_not {t : ByteArray} {room : Int} (h : enOk t room = false) : (enE t room != 0) = true ∧ ∀ kf, nest kf t room = ⟨0, ⟨#[]⟩, enE t room⟩ := by
  rcases Bool.eq_false_or_eq_true (ttOk 4 t) with hk | hk
  · have hr : room < 1 := by simp [enOk, hk] at h; omega
    have e : enE t room = 5 := by rw [enE, if_pos hk, if_pos hr]
    rw [e]
    refine ⟨rfl, fun kf => ?_⟩
    rw [nest, nestOf, if_pos hk, if_pos hr]
  · have e : enE t room = 2 := by rw [enE, if_neg (by simp [hk])]
    rw [e]
    refine ⟨rfl, fun kf => ?_⟩
    rw [nest, nestOf, if_neg (by simp [hk]), ttE_four hk]
theorem nest_ok {kf : Bool} {t : ByteArray} {room : Int} (h : enOk t room = true) (hi : (items kf (ttA 4 t) (room - 1)).2 = 0) : nest kf t room = ⟨deepest (items kf (ttA 4 t) (room - 1)).1 + 1, ttR 4 t, 0⟩ := by
  obtain ⟨-, -, -, h1, h2⟩ := enOk_of h
  rw [nest, nestOf, if_pos h1, if_neg (by omega), if_pos hi]
theorem nest_bad {kf : Bool} {t : ByteArray} {room : Int} (h : enOk t room = true) (hi : (items kf (ttA 4 t) (room - 1)).2 ≠ 0) : nest kf t room = ⟨0, ⟨#[]⟩, wErr (items kf (ttA 4 t) (room - 1)).2⟩ := by
  obtain ⟨-, -, -, h1, h2⟩ := enOk_of h
  rw [nest, nestOf, if_pos h1, if_neg (by omega), if_neg hi]
theorem val_deep_le {s : ByteArray} {room : Int} (h0 : 0 ≤ room) : 0 ≤ (val s room).deep ∧ (val s room).deep ≤ room := by
  by_cases h : (val s room).err = 0
  · obtain ⟨h1, h2, -⟩ := val_good s room h
    omega
  · rw [(val_deep_err h).1]
    omega
theorem behindKey_false (b : ByteArray) : behindKey false b = b := rfl
theorem behindKey_true (b : ByteArray) : behindKey true b = ttR 1 b := rfl
theorem ba_ne {r : ByteArray} (h : ¬ r.size = 0) : (r.toList == []) = false := by
  rw [Lib.toList_data, beq_eq_false_iff_ne]
  intro e
  have e := congrArg List.length e
  rw [ba_len] at e
  exact h e
theorem ba_nil {b : ByteArray} (h : b.size = 0) : b = ⟨#[]⟩ := by
  apply ba_ext
  have := ba_len b
  rw [h] at this
  exact List.eq_nil_of_length_eq_zero this

set_option maxRecDepth 100000 in
set_option maxHeartbeats 1000000 in
theorem row_of (n : Nat) (hv : ValC n) (t : ByteArray) (room : Int) (w : World) (M B : Nat) (hn : t.size ≤ n) (hs : t.size < 4611686018427387904) (h0 : 0 ≤ room) (h32 : room ≤ 32) (tk : Tk w M B) :
    Calls Tryz.prog 125 #[.string t, .int .i64 room, .pointer (some ⟨B + 1, 0, none⟩)] w fun e w' => e = .returned (.tuple #[.int .i64 (nest false t room).deep, .string (nest false t room).rest, .int .i64 (nest false t room).err]) ∧ Below w.heap.size w w' := by
  go_enter Tryz.func125, Tryz.ntmps125
  go_wp2_with fail
  go_step3
  go_wp2_with fail
  refine (enter_any t room w tk.wid hs).mono ?_
  rintro e w1 ⟨rfl, hb⟩
  cases hok : enOk t room
  · obtain ⟨t1, h2⟩ := enOk_not hok
    have H := Lib.hid (h2 false)
    clear hok h2
    generalize enA t room = a
    generalize enB t room = b
    generalize enE t room = x at t1 H ⊢
    go_wp2
    rw [Exit.noGoto_ret]
    go_ret3
    exact ⟨by rw [H.out]; rfl, hb⟩
  · obtain ⟨e1, e2, e3, -, hr⟩ := enOk_of hok
    have HG := Lib.hid (fun h => nest_ok (kf := false) hok h)
    have HB := Lib.hid (fun h => nest_bad (kf := false) hok h)
    have hle := ttA_le 4 t
    have tk1 := tk.below hb
    rw [e1, e2, e3]
    clear e1 e2 e3 hok
    generalize ttA 4 t = body at HG HB hle ⊢
    generalize ttR 4 t = rest at HG ⊢
    go_wp2
    go_step3
    go_wp2
    go_loopw [8, 11] (fun b d wr => ∃ (r : ByteArray) (k : Int), b = .string r ∧ d = .int .i64 k ∧ r.size ≤ body.size ∧ 0 ≤ k ∧ k ≤ 32 ∧ Hid ((items false r (room - 1)).2 = (items false body (room - 1)).2 ∧ max k (deepest (items false r (room - 1)).1) = deepest (items false body (room - 1)).1) ∧ Tk wr M B ∧ Below w.heap.size w wr) (fun b _ _ => tabLen b)
    case atStart =>
      refine ⟨body, 0, rfl, rfl, Nat.le_refl _, by omega, by omega, Lib.hid ⟨rfl, ?_⟩, tk1, hb⟩
      have := deepest_nonneg (items false body (room - 1)).1
      omega
    case round =>
      obtain ⟨r, k, rfl, rfl, hr1, hk0, hk1, HI, tkr, hbr⟩ := hrel
      by_cases hz : r.size = 0
      · obtain rfl := ba_nil hz
        have H := Lib.hid (show nest false t room = ⟨k + 1, rest, 0⟩ by
          have := HI.out
          rw [items_nil false (b := ⟨#[]⟩) _ rfl] at this
          rw [HG.out this.1.symm, ← this.2]
          congr 2
          simp [deepest]; omega)
        clear HI HG HB
        go_wp2
        rw [Exit.noGoto_ret]
        go_ret3
        exact ⟨by rw [H.out]; rfl, hbr⟩
      · have tne := ba_ne hz
        have hc := tkr.bv.cell
        go_wp2_with fail
        refine (hv r (room - 1) wr M B (by omega) (by omega) (by omega) (by omega) tkr).mono ?_
        rintro e w2 ⟨rfl, hb2⟩
        have hbr2 := hbr.trans (hb2.mono hbr.size)
        have tk2 := tkr.below hb2
        obtain ⟨d0, d1⟩ := val_deep_le (s := r) (room := room - 1) (by omega)
        by_cases he : (val r (room - 1)).err = 0
        · have hlt := val_rest he
          have HN := Lib.hid (items_go false (room := room - 1) hz rfl he)
          have t1 : ((val r (room - 1)).err == 0) = true := by rw [he]; rfl
          have HX : Hid ((items false (val r (room - 1)).rest (room - 1)).2 = (items false body (room - 1)).2 ∧ max (max k (val r (room - 1)).deep) (deepest (items false (val r (room - 1)).rest (room - 1)).1) = deepest (items false body (room - 1)).1) := Lib.hid (by
            have h1 := HI.out
            have h2 := HN.out
            simp only [behindKey_false] at h2
            rw [h2] at h1
            simp only [deepest] at h1
            exact ⟨h1.1, by omega⟩)
          clear HI HN HG HB he tkr hc
          generalize (val r (room - 1)).deep = x at d0 d1 HX ⊢
          generalize (val r (room - 1)).rest = y at hlt HX ⊢
          generalize (val r (room - 1)).err = z at t1 ⊢
          by_cases hm : x ≤ k
          · have em : max k x = k := by omega
            rw [em] at HX
            go_wp2
            go_roundw
            case rel => exact ⟨y, _, rfl, rfl, by omega, by omega, by omega, HX, tk2, hbr2⟩
            case measure => simp only [tabLen]; omega
          · have em : max k x = x := by omega
            rw [em] at HX
            go_wp2
            go_roundw
            case rel => exact ⟨y, _, rfl, rfl, by omega, by omega, by omega, HX, tk2, hbr2⟩
            case measure => simp only [tabLen]; omega
        · have H := Lib.hid (show nest false t room = ⟨0, ⟨#[]⟩, wErr (val r (room - 1)).err⟩ by
            have h1 := HI.out
            rw [items_err false (room := room - 1) hz rfl he] at h1
            simp only [behindKey_false] at h1
            rw [HB.out (by rw [← h1.1]; exact he), ← h1.1])
          have t1 : ((val r (room - 1)).err == 0) = false := by simpa using he
          clear HI HG HB he tkr hc
          generalize (val r (room - 1)).deep = x at d0 d1 ⊢
          generalize (val r (room - 1)).rest = y at ⊢
          generalize (val r (room - 1)).err = z at t1 H ⊢
          go_wp2_with fail
          refine (wErr_any z w2).mono ?_
          rintro e w3 ⟨rfl, rfl⟩
          generalize wErr z = u at H ⊢
          go_wp2
          rw [Exit.noGoto_ret]
          go_ret3
          exact ⟨by rw [H.out]; rfl, hbr2⟩
end Go.Proofs.YtkdiccedkjbpeaaGreatDoorR
