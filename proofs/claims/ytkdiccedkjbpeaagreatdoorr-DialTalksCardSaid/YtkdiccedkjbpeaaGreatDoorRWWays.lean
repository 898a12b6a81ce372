/-
  method.ways makes a map that has, at the byte of each letter, the method by which such a value is laid. No condition.
-/
import Derived.Test.YtkdiccedkjbpeaaGreatDoorRJTab1
import Derived.Test.YtkdiccedkjbpeaaGreatDoorRJMeth
namespace Go.Proofs.YtkdiccedkjbpeaaGreatDoorR
open Go.RowKit Go.Maps

/-- how a function without captured things reads, for a map's sake: its number -/
def funcElem (v : Value) : Option (DataW Unit × List MemPlace) := match v with
  | .func (.func f) a b => if a.isEmpty && b.isEmpty then some (.lit (.int .i64 (f : Nat)), []) else none
  | .nilFunc => some (.lit (.int .i64 (-1)), [])
  | _ => none
theorem funcElem_mk (f : Nat) : funcElem (.func (.func f) #[] #[]) = some (.lit (.int .i64 (f : Nat)), []) := rfl
theorem funcElem_inv {v : Value} {f : Nat} {ps : List MemPlace} (h : funcElem v = some (.lit (.int .i64 (f : Nat)), ps)) : v = .func (.func f) #[] #[] := by
  unfold funcElem at h
  split at h
  · rename_i g a b
    split at h
    · rename_i hc
      rw [Bool.and_eq_true, Array.isEmpty_iff, Array.isEmpty_iff] at hc
      obtain ⟨rfl, rfl⟩ := hc
      simp only [Option.some.injEq, Prod.mk.injEq, DataW.lit.injEq, Lit.int.injEq, true_and] at h
      have hg : g = f := Int.ofNat.inj h.1
      rw [hg]
    · cases h
  · simp only [Option.some.injEq, Prod.mk.injEq, DataW.lit.injEq, Lit.int.injEq, true_and] at h
    omega
  · cases h
theorem zeroWay (w : World) : (zeroValue 116).run Tryz.prog w = .ok .nilFunc w := by kernel_rfl

def waysD : DataW Unit := (((((((((DataW.map []).put (.int .u8 111) (.lit (.int .i64 92))).put (.int .u8 115) (.lit (.int .i64 93))).put (.int .u8 108) (.lit (.int .i64 94))).put (.int .u8 113) (.lit (.int .i64 95))).put (.int .u8 98) (.lit (.int .i64 96))).put (.int .u8 83) (.lit (.int .i64 97))).put (.int .u8 76) (.lit (.int .i64 98))).put (.int .u8 84) (.lit (.int .i64 99)))
/-- the method of a letter -/
def wayF (c : UInt8) : Nat := if c = 111 then 92 else if c = 115 then 93 else if c = 108 then 94 else if c = 113 then 95 else if c = 98 then 96 else if c = 83 then 97 else if c = 76 then 98 else 99
theorem ways_at (c : UInt8) (h : isLet c = true) : waysD.atKey (.int .u8 (c.toNat : Nat)) (.lit (.int .i64 (-1))) = .lit (.int .i64 ((wayF c : Nat) : Int)) := by
  rcases let_cases h with rfl | rfl | rfl | rfl | rfl | rfl | rfl | rfl <;> kernel_rfl
def Ways (w : World) (M : Nat) : Prop := w.ownsMap Tryz.prog 5 funcElem M 8 waysD
theorem Ways.lt {w : World} {M : Nat} (h : Ways w M) : M < w.heap.size := World.ownsMap.lt h
theorem Ways.block {w w' : World} {M : Nat} (h : Ways w M) (hb : w'.heap[M]? = w.heap[M]?) : Ways w' M := by
  obtain ⟨es, clock, h1, h2, h3, h4⟩ := h
  exact ⟨es, clock, hb.trans h1, h2, h3, h4⟩
theorem Ways.below {w w' : World} {M n : Nat} (h : Ways w M) (hb : Below n w w') (hn : M < n) : Ways w' M := h.block (hb.block M hn)
theorem Ways.look {w : World} {M : Nat} (h : Ways w M) (c : UInt8) (hc : isLet c = true) : (Instr.lookup 108 (.map (some M)) (.int .u8 (c.toNat : Nat)) false).run Tryz.prog w = .ok (.func (.func (wayF c)) #[] #[]) w := by
  obtain ⟨v, ps, hrun, hv⟩ := World.ownsMap.lookup h lawByte Tryz.underlying108 (zeroWay w) (zd := .lit (.int .i64 (-1))) (zp := []) rfl (keyOf_int_mk (q := .u8) (a := (c.toNat : Nat)) Tryz.underlying5 (by rcases let_cases hc with rfl | rfl | rfl | rfl | rfl | rfl | rfl | rfl <;> decide))
  rw [ways_at c hc] at hv
  rw [hrun, funcElem_inv hv]

set_option maxRecDepth 100000 in
set_option maxHeartbeats 1000000 in
theorem ways_any (w : World) :
    Calls Tryz.prog 75 #[] w fun e w' => e = .returned (.map (some w.heap.size)) ∧ Ways w' w.heap.size ∧ Below w.heap.size w w' := by
  have hmm := @run_makeMap Tryz.prog
  have hm0 := World.ownsMap_made w Tryz.prog 5 funcElem
  have hb0 : Below w.heap.size w (w.alloc (.map #[] 0)) := (Below.refl _ _).alloc (Nat.le_refl _) _
  obtain ⟨w1, hr1, hm1, hg1⟩ := hm0.update (t := 108) (e := 116) lawByte Tryz.underlying108 (by decide) (keyOf_int_mk (q := .u8) (a := 111) Tryz.underlying5 (by decide)) (funcElem_mk 92)
  have hb1 := hb0.grown hg1 hb0.size (fun k e => by cases e; exact Nat.le_refl _)
  clear hm0 hg1 hb0
  obtain ⟨w2, hr2, hm2, hg2⟩ := hm1.update (t := 108) (e := 116) lawByte Tryz.underlying108 (by decide) (keyOf_int_mk (q := .u8) (a := 115) Tryz.underlying5 (by decide)) (funcElem_mk 93)
  have hb2 := hb1.grown hg2 hb1.size (fun k e => by cases e; exact Nat.le_refl _)
  clear hm1 hg2 hb1
  obtain ⟨w3, hr3, hm3, hg3⟩ := hm2.update (t := 108) (e := 116) lawByte Tryz.underlying108 (by decide) (keyOf_int_mk (q := .u8) (a := 108) Tryz.underlying5 (by decide)) (funcElem_mk 94)
  have hb3 := hb2.grown hg3 hb2.size (fun k e => by cases e; exact Nat.le_refl _)
  clear hm2 hg3 hb2
  obtain ⟨w4, hr4, hm4, hg4⟩ := hm3.update (t := 108) (e := 116) lawByte Tryz.underlying108 (by decide) (keyOf_int_mk (q := .u8) (a := 113) Tryz.underlying5 (by decide)) (funcElem_mk 95)
  have hb4 := hb3.grown hg4 hb3.size (fun k e => by cases e; exact Nat.le_refl _)
  clear hm3 hg4 hb3
  obtain ⟨w5, hr5, hm5, hg5⟩ := hm4.update (t := 108) (e := 116) lawByte Tryz.underlying108 (by decide) (keyOf_int_mk (q := .u8) (a := 98) Tryz.underlying5 (by decide)) (funcElem_mk 96)
  have hb5 := hb4.grown hg5 hb4.size (fun k e => by cases e; exact Nat.le_refl _)
  clear hm4 hg5 hb4
  obtain ⟨w6, hr6, hm6, hg6⟩ := hm5.update (t := 108) (e := 116) lawByte Tryz.underlying108 (by decide) (keyOf_int_mk (q := .u8) (a := 83) Tryz.underlying5 (by decide)) (funcElem_mk 97)
  have hb6 := hb5.grown hg6 hb5.size (fun k e => by cases e; exact Nat.le_refl _)
  clear hm5 hg6 hb5
  obtain ⟨w7, hr7, hm7, hg7⟩ := hm6.update (t := 108) (e := 116) lawByte Tryz.underlying108 (by decide) (keyOf_int_mk (q := .u8) (a := 76) Tryz.underlying5 (by decide)) (funcElem_mk 98)
  have hb7 := hb6.grown hg7 hb6.size (fun k e => by cases e; exact Nat.le_refl _)
  clear hm6 hg7 hb6
  obtain ⟨w8, hr8, hm8, hg8⟩ := hm7.update (t := 108) (e := 116) lawByte Tryz.underlying108 (by decide) (keyOf_int_mk (q := .u8) (a := 84) Tryz.underlying5 (by decide)) (funcElem_mk 99)
  have hb8 := hb7.grown hg8 hb7.size (fun k e => by cases e; exact Nat.le_refl _)
  clear hm7 hg8 hb7
  go_enter Tryz.func75, Tryz.ntmps75
  go_wp2
  go_ret
  exact ⟨rfl, hm8, hb8⟩
end Go.Proofs.YtkdiccedkjbpeaaGreatDoorR
