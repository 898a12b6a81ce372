/-
  table.kinds makes a map that has, at the byte of each kind, what stands behind it. No condition.
-/
import Derived.Test.YtjpldfkhacchdaaDoorWTabA
namespace Go.Proofs.YtjpldfkhacchdaaDoor
open Go.RowKit Go.Maps

theorem lawByte : Keyed Tryd.prog 5 := int_keyed Tryd.underlying5
theorem zeroInt (w : World) : (zeroValue 3).run Tryd.prog w = .ok (.int .i64 0) w := by kernel_rfl
/-- the kinds, as they were laid one by one -/
def kindsD : DataW Unit := ((((((((((((((((((DataW.map []).put (.int .u8 116) (.lit (.int .i64 (1)))).put (.int .u8 98) (.lit (.int .i64 (1)))).put (.int .u8 66) (.lit (.int .i64 (1)))).put (.int .u8 115) (.lit (.int .i64 (2)))).put (.int .u8 117) (.lit (.int .i64 (2)))).put (.int .u8 73) (.lit (.int .i64 (4)))).put (.int .u8 105) (.lit (.int .i64 (4)))).put (.int .u8 102) (.lit (.int .i64 (4)))).put (.int .u8 108) (.lit (.int .i64 (8)))).put (.int .u8 100) (.lit (.int .i64 (8)))).put (.int .u8 84) (.lit (.int .i64 (8)))).put (.int .u8 68) (.lit (.int .i64 (5)))).put (.int .u8 83) (.lit (.int .i64 (-1)))).put (.int .u8 120) (.lit (.int .i64 (-1)))).put (.int .u8 86) (.lit (.int .i64 (0)))).put (.int .u8 65) (.lit (.int .i64 (-2)))).put (.int .u8 70) (.lit (.int .i64 (-3))))
/-- what a look-up finds -/
def kindN (c : Int) : Int := if kindV c = -4 then 0 else kindV c
/-- of each entry and each byte: is it that key, and what it finds -/
def kindsSame (d e : DataW Unit) : Bool := match d, e with
  | .lit (.int .i64 a), .lit (.int .i64 b) => a == b
  | _, _ => false
theorem kindsSame_eq {d e : DataW Unit} (h : kindsSame d e = true) : d = e := by
  unfold kindsSame at h
  split at h
  · simpa using h
  · cases h
theorem kinds_fin : ∀ i : Fin 256, (kindsSame (kindsD.atKey (.int .u8 (i.val : Nat)) (.lit (.int .i64 0))) (.lit (.int .i64 (kindN (i.val : Nat)))) && (Maps.has kindsD (.int .u8 (i.val : Nat)) == decide (kindV (i.val : Nat) ≠ -4))) = true := by
  decide +kernel
theorem kinds_at (c : Int) (h0 : 0 ≤ c) (h1 : c < 256) : kindsD.atKey (.int .u8 c) (.lit (.int .i64 0)) = .lit (.int .i64 (kindN c)) ∧ Maps.has kindsD (.int .u8 c) = decide (kindV c ≠ -4) := by
  obtain ⟨n, rfl⟩ := Int.eq_ofNat_of_zero_le h0
  have h := kinds_fin ⟨n, by omega⟩
  rw [Bool.and_eq_true] at h
  exact ⟨kindsSame_eq h.1, by simpa using h.2⟩

set_option maxRecDepth 100000 in
set_option maxHeartbeats 1000000 in
theorem kinds_any (w : World) :
    Calls Tryd.prog 79 #[] w fun e w' => e = .returned (.map (some w.heap.size)) ∧ w'.ownsMap Tryd.prog 5 (plainElem (H := Unit) Tryd.prog 3) w.heap.size 17 kindsD ∧ Below w.heap.size w w' := by
  have hmm := @run_makeMap Tryd.prog
  have hm0 := World.ownsMap_made w Tryd.prog 5 (plainElem (H := Unit) Tryd.prog 3)
  have hb0 : Below w.heap.size w (w.alloc (.map #[] 0)) := (Below.refl _ _).alloc (Nat.le_refl _) _
  obtain ⟨w1, hr1, hm1, hg1⟩ := hm0.update (t := 131) (e := 3) lawByte Tryd.underlying131 (by decide) (keyOf_int_mk (q := .u8) (a := 116) Tryd.underlying5 (by decide)) (plainElem_int (q := .i64) (a := 1) Tryd.underlying3 (by decide))
  have hb1 := hb0.grown hg1 hb0.size (fun k e => by cases e; exact Nat.le_refl _)
  clear hm0 hg1 hb0
  obtain ⟨w2, hr2, hm2, hg2⟩ := hm1.update (t := 131) (e := 3) lawByte Tryd.underlying131 (by decide) (keyOf_int_mk (q := .u8) (a := 98) Tryd.underlying5 (by decide)) (plainElem_int (q := .i64) (a := 1) Tryd.underlying3 (by decide))
  have hb2 := hb1.grown hg2 hb1.size (fun k e => by cases e; exact Nat.le_refl _)
  clear hm1 hg2 hb1
  obtain ⟨w3, hr3, hm3, hg3⟩ := hm2.update (t := 131) (e := 3) lawByte Tryd.underlying131 (by decide) (keyOf_int_mk (q := .u8) (a := 66) Tryd.underlying5 (by decide)) (plainElem_int (q := .i64) (a := 1) Tryd.underlying3 (by decide))
  have hb3 := hb2.grown hg3 hb2.size (fun k e => by cases e; exact Nat.le_refl _)
  clear hm2 hg3 hb2
  obtain ⟨w4, hr4, hm4, hg4⟩ := hm3.update (t := 131) (e := 3) lawByte Tryd.underlying131 (by decide) (keyOf_int_mk (q := .u8) (a := 115) Tryd.underlying5 (by decide)) (plainElem_int (q := .i64) (a := 2) Tryd.underlying3 (by decide))
  have hb4 := hb3.grown hg4 hb3.size (fun k e => by cases e; exact Nat.le_refl _)
  clear hm3 hg4 hb3
  obtain ⟨w5, hr5, hm5, hg5⟩ := hm4.update (t := 131) (e := 3) lawByte Tryd.underlying131 (by decide) (keyOf_int_mk (q := .u8) (a := 117) Tryd.underlying5 (by decide)) (plainElem_int (q := .i64) (a := 2) Tryd.underlying3 (by decide))
  have hb5 := hb4.grown hg5 hb4.size (fun k e => by cases e; exact Nat.le_refl _)
  clear hm4 hg5 hb4
  obtain ⟨w6, hr6, hm6, hg6⟩ := hm5.update (t := 131) (e := 3) lawByte Tryd.underlying131 (by decide) (keyOf_int_mk (q := .u8) (a := 73) Tryd.underlying5 (by decide)) (plainElem_int (q := .i64) (a := 4) Tryd.underlying3 (by decide))
  have hb6 := hb5.grown hg6 hb5.size (fun k e => by cases e; exact Nat.le_refl _)
  clear hm5 hg6 hb5
  obtain ⟨w7, hr7, hm7, hg7⟩ := hm6.update (t := 131) (e := 3) lawByte Tryd.underlying131 (by decide) (keyOf_int_mk (q := .u8) (a := 105) Tryd.underlying5 (by decide)) (plainElem_int (q := .i64) (a := 4) Tryd.underlying3 (by decide))
  have hb7 := hb6.grown hg7 hb6.size (fun k e => by cases e; exact Nat.le_refl _)
  clear hm6 hg7 hb6
  obtain ⟨w8, hr8, hm8, hg8⟩ := hm7.update (t := 131) (e := 3) lawByte Tryd.underlying131 (by decide) (keyOf_int_mk (q := .u8) (a := 102) Tryd.underlying5 (by decide)) (plainElem_int (q := .i64) (a := 4) Tryd.underlying3 (by decide))
  have hb8 := hb7.grown hg8 hb7.size (fun k e => by cases e; exact Nat.le_refl _)
  clear hm7 hg8 hb7
  obtain ⟨w9, hr9, hm9, hg9⟩ := hm8.update (t := 131) (e := 3) lawByte Tryd.underlying131 (by decide) (keyOf_int_mk (q := .u8) (a := 108) Tryd.underlying5 (by decide)) (plainElem_int (q := .i64) (a := 8) Tryd.underlying3 (by decide))
  have hb9 := hb8.grown hg9 hb8.size (fun k e => by cases e; exact Nat.le_refl _)
  clear hm8 hg9 hb8
  obtain ⟨w10, hr10, hm10, hg10⟩ := hm9.update (t := 131) (e := 3) lawByte Tryd.underlying131 (by decide) (keyOf_int_mk (q := .u8) (a := 100) Tryd.underlying5 (by decide)) (plainElem_int (q := .i64) (a := 8) Tryd.underlying3 (by decide))
  have hb10 := hb9.grown hg10 hb9.size (fun k e => by cases e; exact Nat.le_refl _)
  clear hm9 hg10 hb9
  obtain ⟨w11, hr11, hm11, hg11⟩ := hm10.update (t := 131) (e := 3) lawByte Tryd.underlying131 (by decide) (keyOf_int_mk (q := .u8) (a := 84) Tryd.underlying5 (by decide)) (plainElem_int (q := .i64) (a := 8) Tryd.underlying3 (by decide))
  have hb11 := hb10.grown hg11 hb10.size (fun k e => by cases e; exact Nat.le_refl _)
  clear hm10 hg11 hb10
  obtain ⟨w12, hr12, hm12, hg12⟩ := hm11.update (t := 131) (e := 3) lawByte Tryd.underlying131 (by decide) (keyOf_int_mk (q := .u8) (a := 68) Tryd.underlying5 (by decide)) (plainElem_int (q := .i64) (a := 5) Tryd.underlying3 (by decide))
  have hb12 := hb11.grown hg12 hb11.size (fun k e => by cases e; exact Nat.le_refl _)
  clear hm11 hg12 hb11
  obtain ⟨w13, hr13, hm13, hg13⟩ := hm12.update (t := 131) (e := 3) lawByte Tryd.underlying131 (by decide) (keyOf_int_mk (q := .u8) (a := 83) Tryd.underlying5 (by decide)) (plainElem_int (q := .i64) (a := -1) Tryd.underlying3 (by decide))
  have hb13 := hb12.grown hg13 hb12.size (fun k e => by cases e; exact Nat.le_refl _)
  clear hm12 hg13 hb12
  obtain ⟨w14, hr14, hm14, hg14⟩ := hm13.update (t := 131) (e := 3) lawByte Tryd.underlying131 (by decide) (keyOf_int_mk (q := .u8) (a := 120) Tryd.underlying5 (by decide)) (plainElem_int (q := .i64) (a := -1) Tryd.underlying3 (by decide))
  have hb14 := hb13.grown hg14 hb13.size (fun k e => by cases e; exact Nat.le_refl _)
  clear hm13 hg14 hb13
  obtain ⟨w15, hr15, hm15, hg15⟩ := hm14.update (t := 131) (e := 3) lawByte Tryd.underlying131 (by decide) (keyOf_int_mk (q := .u8) (a := 86) Tryd.underlying5 (by decide)) (plainElem_int (q := .i64) (a := 0) Tryd.underlying3 (by decide))
  have hb15 := hb14.grown hg15 hb14.size (fun k e => by cases e; exact Nat.le_refl _)
  clear hm14 hg15 hb14
  obtain ⟨w16, hr16, hm16, hg16⟩ := hm15.update (t := 131) (e := 3) lawByte Tryd.underlying131 (by decide) (keyOf_int_mk (q := .u8) (a := 65) Tryd.underlying5 (by decide)) (plainElem_int (q := .i64) (a := -2) Tryd.underlying3 (by decide))
  have hb16 := hb15.grown hg16 hb15.size (fun k e => by cases e; exact Nat.le_refl _)
  clear hm15 hg16 hb15
  obtain ⟨w17, hr17, hm17, hg17⟩ := hm16.update (t := 131) (e := 3) lawByte Tryd.underlying131 (by decide) (keyOf_int_mk (q := .u8) (a := 70) Tryd.underlying5 (by decide)) (plainElem_int (q := .i64) (a := -3) Tryd.underlying3 (by decide))
  have hb17 := hb16.grown hg17 hb16.size (fun k e => by cases e; exact Nat.le_refl _)
  clear hm16 hg17 hb16
  go_enter Tryd.func79, Tryd.ntmps79
  go_wp2
  go_ret
  exact ⟨rfl, hm17, hb17⟩
end Go.Proofs.YtjpldfkhacchdaaDoor
