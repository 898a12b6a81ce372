/-
  content.states makes a map that has, at the number of each state, the method by which a frame's data is taken; content.unexpected tells whether a type is none that a state waits for. No condition.
-/
import Derived.Test.YtllgkohgcicbhaaGreatDoorZJ
import Derived.Test.YtllgkohgcicbhaaGreatDoorJCont
namespace Go.Proofs.YtllgkohgcicbhaaGreatDoor
open Go.RowKit Go.Maps

theorem lawInt : Keyed Tryz.prog 3 := int_keyed Tryz.underlying3
theorem zeroState (w : World) : (zeroValue 60).run Tryz.prog w = .ok .nilFunc w := by kernel_rfl
def statesD : DataW Unit := (((DataW.map []).put (.int .i64 0) (.lit (.int .i64 38))).put (.int .i64 1) (.lit (.int .i64 39))).put (.int .i64 2) (.lit (.int .i64 40))
def stF (st : Int) : Nat := if st = 0 then 38 else if st = 1 then 39 else 40
def States (w : World) (M : Nat) : Prop := w.ownsMap Tryz.prog 3 funcElem M 3 statesD
theorem States.lt {w : World} {M : Nat} (h : States w M) : M < w.heap.size := World.ownsMap.lt h
theorem States.block {w w' : World} {M : Nat} (h : States w M) (hb : w'.heap[M]? = w.heap[M]?) : States w' M := by
  obtain ⟨es, clock, h1, h2, h3, h4⟩ := h
  exact ⟨es, clock, hb.trans h1, h2, h3, h4⟩
theorem States.below {w w' : World} {M n : Nat} (h : States w M) (hb : Below n w w') (hn : M < n) : States w' M := h.block (hb.block M hn)
theorem wf_i64 {x : Int} (h : -9223372036854775808 ≤ x ∧ x ≤ 9223372036854775807) : (Lit.int .i64 x).wf = true := by
  simp [Lit.wf, IntKind.min, IntKind.max, IntKind.signed, IntKind.bits]
  omega
theorem state_in {st : Int} (h : 0 ≤ st ∧ st ≤ 2) : st = 0 ∨ st = 1 ∨ st = 2 := by omega
theorem states_out {st : Int} (h : ¬ (0 ≤ st ∧ st ≤ 2)) : Maps.has statesD (.int .i64 st) = false := by
  refine Maps.has_false_of_atKey fun z => ?_
  have h0 : (Lit.int .i64 st) ≠ .int .i64 0 := fun e => by simp at e; omega
  have h1 : (Lit.int .i64 st) ≠ .int .i64 1 := fun e => by simp at e; omega
  have h2 : (Lit.int .i64 st) ≠ .int .i64 2 := fun e => by simp at e; omega
  rw [statesD, Maps.atKey_put_other h2, Maps.atKey_put_other h1, Maps.atKey_put_other h0]
  rfl
theorem States.look {w : World} {M : Nat} (h : States w M) (st : Int) (hb : -9223372036854775808 ≤ st ∧ st ≤ 9223372036854775807) : ∃ v, (Instr.lookup 62 (.map (some M)) (.int .i64 st) true).run Tryz.prog w = .ok (.tuple #[v, .bool (decide (0 ≤ st ∧ st ≤ 2))]) w ∧ ((0 ≤ st ∧ st ≤ 2) → v = .func (.func (stF st)) #[] #[]) := by
  obtain ⟨v, ps, hrun, hv⟩ := World.ownsMap.look_ok h lawInt Tryz.underlying62 (zeroState w) (zd := .lit (.int .i64 (-1))) (zp := []) rfl (keyOf_int_mk (q := .i64) (a := st) Tryz.underlying3 (wf_i64 hb))
  by_cases hs : 0 ≤ st ∧ st ≤ 2
  · have hh : Maps.has statesD (.int .i64 st) = true := by
      rcases state_in hs with rfl | rfl | rfl <;> kernel_rfl
    have ha : statesD.atKey (.int .i64 st) (.lit (.int .i64 (-1))) = .lit (.int .i64 ((stF st : Nat) : Int)) := by
      rcases state_in hs with rfl | rfl | rfl <;> kernel_rfl
    rw [hh] at hrun
    rw [ha] at hv
    exact ⟨v, by rw [decide_eq_true hs]; exact hrun, fun _ => funcElem_inv hv⟩
  · rw [states_out hs] at hrun
    exact ⟨v, by rw [decide_eq_false hs]; exact hrun, fun h' => absurd h' hs⟩

set_option maxRecDepth 100000 in
set_option maxHeartbeats 1000000 in
theorem states_any (w : World) :
    Calls Tryz.prog 19 #[] w fun e w' => e = .returned (.map (some w.heap.size)) ∧ States w' w.heap.size ∧ Below w.heap.size w w' := by
  have hmm := @run_makeMap Tryz.prog
  have hm0 := World.ownsMap_made w Tryz.prog 3 funcElem
  have hb0 : Below w.heap.size w (w.alloc (.map #[] 0)) := (Below.refl _ _).alloc (Nat.le_refl _) _
  obtain ⟨w1, hr1, hm1, hg1⟩ := hm0.update (t := 62) (e := 60) lawInt Tryz.underlying62 (by decide) (keyOf_int_mk (q := .i64) (a := 0) Tryz.underlying3 (by decide)) (funcElem_mk 38)
  have hb1 := hb0.grown hg1 hb0.size (fun k e => by cases e; exact Nat.le_refl _)
  clear hm0 hg1 hb0
  obtain ⟨w2, hr2, hm2, hg2⟩ := hm1.update (t := 62) (e := 60) lawInt Tryz.underlying62 (by decide) (keyOf_int_mk (q := .i64) (a := 1) Tryz.underlying3 (by decide)) (funcElem_mk 39)
  have hb2 := hb1.grown hg2 hb1.size (fun k e => by cases e; exact Nat.le_refl _)
  clear hm1 hg2 hb1
  obtain ⟨w3, hr3, hm3, hg3⟩ := hm2.update (t := 62) (e := 60) lawInt Tryz.underlying62 (by decide) (keyOf_int_mk (q := .i64) (a := 2) Tryz.underlying3 (by decide)) (funcElem_mk 40)
  have hb3 := hb2.grown hg3 hb2.size (fun k e => by cases e; exact Nat.le_refl _)
  clear hm2 hg3 hb2
  go_enter Tryz.func19, Tryz.ntmps19
  go_wp2
  go_ret
  exact ⟨rfl, hm3, hb3⟩

/-- is a type none that a state waits for? -/
def unexp (st t : Int) : Bool := (st == 0 && t != 1) || (st == 1 && t != 2) || (st == 2 && t != 3)
theorem unexp_in {st t : Int} (h : 0 ≤ st ∧ st ≤ 2) : unexp st t = !(t == st + 1) := by
  rcases state_in h with rfl | rfl | rfl <;> simp [unexp, bne]
set_option maxHeartbeats 2000000 in
theorem unexpected_any (st t : Int) (w : World) :
    Calls Tryz.prog 20 #[.int .i64 st, .int .i64 t] w fun e w' => e = .returned (.bool (unexp st t)) ∧ w = w' := by
  by_cases h0 : st = 0
  · subst h0
    cases t1 : (t != 1)
    · have H : Hid (unexp 0 t = false) := Lib.hid (by simp [unexp, t1])
      go_enter Tryz.func20, Tryz.ntmps20
      go_wp2
      go_ret
      exact ⟨by rw [H.out]; rfl, rfl⟩
    · have H : Hid (unexp 0 t = true) := Lib.hid (by simp [unexp, t1])
      go_enter Tryz.func20, Tryz.ntmps20
      go_wp2
      go_ret
      exact ⟨by rw [H.out]; rfl, rfl⟩
  by_cases h1 : st = 1
  · subst h1
    cases t1 : (t != 2)
    · have H : Hid (unexp 1 t = false) := Lib.hid (by simp [unexp, t1])
      go_enter Tryz.func20, Tryz.ntmps20
      go_wp2
      go_ret
      exact ⟨by rw [H.out]; rfl, rfl⟩
    · have H : Hid (unexp 1 t = true) := Lib.hid (by simp [unexp, t1])
      go_enter Tryz.func20, Tryz.ntmps20
      go_wp2
      go_ret
      exact ⟨by rw [H.out]; rfl, rfl⟩
  by_cases h2 : st = 2
  · subst h2
    cases t1 : (t != 3)
    · have H : Hid (unexp 2 t = false) := Lib.hid (by simp [unexp, t1])
      go_enter Tryz.func20, Tryz.ntmps20
      go_wp2
      go_ret
      exact ⟨by rw [H.out]; rfl, rfl⟩
    · have H : Hid (unexp 2 t = true) := Lib.hid (by simp [unexp, t1])
      go_enter Tryz.func20, Tryz.ntmps20
      go_wp2
      go_ret
      exact ⟨by rw [H.out]; rfl, rfl⟩
  have a0 : (st == 0) = false := by simpa using h0
  have a1 : (st == 1) = false := by simpa using h1
  have a2 : (st == 2) = false := by simpa using h2
  have H : Hid (unexp st t = false) := Lib.hid (by simp [unexp, a0, a1, a2])
  clear h0 h1 h2
  go_enter Tryz.func20, Tryz.ntmps20
  go_wp2
  go_ret
  exact ⟨by rw [H.out]; rfl, rfl⟩
end Go.Proofs.YtllgkohgcicbhaaGreatDoor
