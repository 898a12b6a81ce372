/-
  props.properties goes through a head's properties: which one it is, and what holds its value. Conditions: flags are a uint64; there are as many values as properties.
-/
import Derived.Test.YtjpldfkhacchdaaDoorWPTold
import Derived.Test.YtjpldfkhacchdaaDoorWPShape
import Derived.Test.YtjpldfkhacchdaaDoorMVals
import Derived.Test.YtjpldfkhacchdaaDoorWPTake
namespace Go.Proofs.YtjpldfkhacchdaaDoor
open Go.RowKit Go.Shelf
attribute [local go_sem] Oper.semAt_some

/-- a property as a value: the head, and where its value stands -/
def encP (h : He) (A : Option Addr) (cap : Nat) (at' : Nat) : Value := .agg #[.int .i64 h.c, .int .u64 h.z, .int .u64 h.f, .slice A h.l.length cap, .int .i64 (at' : Int)]
def encsP (h : He) (A : Option Addr) (cap : Nat) (x : Fin 14 × Nat) : Array Value := #[.int .i64 (x.1.1 : Int), .func (.func 50) #[encP h A cap x.2] #[]]

theorem results_c1 {fn : Func} {p : Tmp} {ty : TypeId} (h : fn.results = #[.cell p ty]) (tmps : Array Value) (P : Program) (w : World) :
    (results fn tmps).run P w = ((asAddr (tmps.getD p undef)).run P w).andThen fun a w₁ => (loadVar ty a).run P w₁ := by
  simp only [results, h]
  simp [Sem.run_bind, Result.andThen]
theorem cell_below {n b : Nat} {w w' : World} (h : Below n w w') (hb : b < n) (i : Nat) : w'.cell? ⟨b, i, none⟩ = w.cell? ⟨b, i, none⟩ := by
  simp only [World.cell?, h.block b hb]
set_option maxRecDepth 100000 in
set_option maxHeartbeats 1000000 in
theorem pvalue_any (h : He) (A : Option Addr) (cap k : Nat) (hk : k < h.l.length) (w : World) (hA : ValsAt w A (rowV h.l)) :
    Calls Tryd.prog 50 #[encP h A cap k] w fun e w' => e = .returned (encV h.l[k]) ∧ Below w.heap.size w w' := by
  obtain ⟨b, off, rfl, hlt, hc⟩ := vals_v hA (by omega)
  obtain ⟨c0, c1⟩ := hc k hk
  obtain ⟨c, z, f, l⟩ := h
  dsimp only at *
  unfold encP encV
  dsimp only
  generalize l[k] = v at c0 c1 ⊢
  obtain ⟨n, s⟩ := v
  dsimp only at *
  have d0 : ∀ o o', ((w.alloc o).alloc o').cell? ⟨b, off + k * 2, none⟩ = some (.int .u64 n) := fun o o' => by
    rw [← c0]
    exact cell_below (((Below.refl _ w).alloc (Nat.le_refl _) o).alloc (by simp) o') hlt _
  have d1 : ∀ o o', ((w.alloc o).alloc o').cell? ⟨b, off + k * 2 + 1, none⟩ = some (.string s) := fun o o' => by
    rw [← c1]
    exact cell_below (((Below.refl _ w).alloc (Nat.le_refl _) o).alloc (by simp) o') hlt _
  have hB : ∀ o o', Below w.heap.size w ((w.alloc o).alloc o') := fun o o' => ((Below.refl _ w).alloc (Nat.le_refl _) o).alloc (by simp) o'
  clear hc c0 c1
  go_enter Tryd.func50, Tryd.ntmps50
  go_wp2
  refine bodyPost_ret (v := .agg #[.int .u64 n, .string s]) ?_ rfl ⟨rfl, hB _ _⟩
  rw [results_c1 rfl]
  simp [asAddr, Result.andThen, go_sem]

theorem cells_grow {X Y : World} {row : Option Nat} {b B : Nat} {cs : Array Value} {t : TypeId} {fz : Nat × Nat} (h : X.heap[b]? = some (.cells cs t fz)) (hg : X.grownBy Y row) (hr : ∀ r, row = some r → B ≤ r ∧ ∃ o : Obj, X.heap[r]? = some o ∧ o.isCells = false) : Y.heap[b]? = some (.cells cs t fz) := by
  refine (hg.block b (Array.getElem?_eq_some_iff.1 h).1 (fun e => ?_)).trans h
  obtain ⟨-, o, ho, hc⟩ := hr b e.symm
  rw [h] at ho
  cases ho
  cases hc
theorem bx_other {W : World} {B b : Nat} {t : TypeId} {l : List Value} (h : Bx W B t l) (hne : B ≠ b) (v : Value) : Bx (W.setCell ⟨b, 0, none⟩ v) B t l := (Below.heap_setCell W ⟨b, 0, none⟩ v B hne).trans h
theorem zip_pre {α : Type} {l m : List α} (h : l <+: m) : l.zipIdx <+: m.zipIdx := by
  obtain ⟨t, rfl⟩ := h
  rw [List.zipIdx_append]
  exact List.prefix_append _ _
def notInt (t : TypeId) : Bool := t == 3
def itTypes (t : TypeId) : Bool := t == 92 || t == 25 || t == 3 || t == 22
def okP (h : He) (pre : List (Fin 14 × Nat)) (x : Fin 14 × Nat) : Prop := x.2 = pre.length ∧ x.2 < h.l.length

set_option maxRecDepth 100000 in
set_option maxHeartbeats 2000000 in
theorem props1_through (h : He) (A : Option Addr) (cap Bh : Nat) (w : World) (h0 : 0 ≤ h.f) (h1 : h.f < 18446744073709551616) (hlen : (wh h.f).length = h.l.length) (hb : Bx w Bh 25 (cellsH h A cap)) :
    Through Tryd.prog 48 #[.pointer (some ⟨Bh, 0, none⟩)] (encsP h A cap) notInt (fun B => Kept B itTypes) (okP h) (fun xs => xs = (wh h.f).zipIdx) (fun pre => pre <+: (wh h.f).zipIdx) w := by
  intro l J Jx W hW hJ hJx hY hJ0
  refine callsIn_room (n := 5) ?_
  have hbW := hb.kept hW
  have hx2 := hbW.cell 2 (by simp [cellsH])
  refine callsIn_of_wp_marks Tryd.func48 rfl trivial ?_ rfl
  simp only [Tryd.ntmps48, List.size_toArray, List.length_cons, List.length_nil, Nat.reduceAdd, Nat.reduceSub, Array.replicate_succ, Array.replicate_zero, List.push_toArray, List.append_toArray, List.nil_append, List.cons_append]
  simp only [cellsH, List.getElem_cons_zero, List.getElem_cons_succ] at hx2
  have hx2' : ∀ o o', ((W.alloc o).alloc o').cell? ⟨Bh, 2, none⟩ = some (.int .u64 h.f) := fun o o' => by
    rw [← hx2]
    exact cell_below (((Below.refl _ W).alloc (Nat.le_refl _) o).alloc (by simp) o') hbW.lt _
  gi_wp2_with fail
  refine ⟨trivial, (told_in 4 _ _).mono ?_⟩
  rintro e w' ⟨rfl, rfl⟩
  gi_wp2_with fail
  obtain ⟨w0, hw0⟩ : ∃ w0, ((W.alloc (.cells #[.func (.yield l) #[] #[]] 92)).alloc (.cells #[.int .i64 0] 3)).alloc (.cells #[.int .u64 h.f] 22) = w0 := ⟨_, rfl⟩
  have bY : Boxed w0 W.heap.size 92 (.func (.yield l) #[] #[]) := by rw [← hw0]; exact ((Boxed.new W _ _).alloc _).alloc _
  have bA : Boxed w0 (W.heap.size + 1) 3 (.int .i64 0) := by
    have h := (Boxed.new (W.alloc (.cells #[.func (.yield l) #[] #[]] 92)) 3 (.int .i64 0)).alloc (.cells #[.int .u64 h.f] 22)
    rw [World.size_alloc] at h
    rw [← hw0]; exact h
  have bF : Boxed w0 (W.heap.size + 1 + 1) 22 (.int .u64 h.f) := by
    have h := Boxed.new ((W.alloc (.cells #[.func (.yield l) #[] #[]] 92)).alloc (.cells #[.int .i64 0] 3)) 22 (.int .u64 h.f)
    rw [World.size_alloc, World.size_alloc] at h
    rw [← hw0]; exact h
  have hB0 : Below W.heap.size W w0 := by rw [← hw0]; exact (((Below.refl _ W).alloc (Nat.le_refl _) _).alloc (by simp) _).alloc (by simp; omega) _
  have bH := hbW.kept hB0
  have hj0 : J [] w0 := by rw [← hw0]; exact hJ.alloc _ (hJ.alloc _ (hJ.alloc _ hJ0))
  have hsz : w0.heap.size = W.heap.size + 3 := by rw [← hw0]; simp
  rw [hw0]
  clear hw0 hx2 hx2'
  have hmf : ∀ (v : Value) (w : World), (Instr.makeFunc (.func 50) #[v] #[]).run Tryd.prog w = .ok (.func (.func 50) #[v] #[]) w := fun _ _ => by kernel_rfl
  refine wpIn_rangeFunc_ownG rfl (by decide) (gf := 64) (lb := #[.pointer (some ⟨W.heap.size + 1 + 1, 0, none⟩)]) rfl trivial (enters_of Tryd.func64 (by kernel_rfl) rfl)
    (told_stops 4 (W.heap.size + 1 + 1) h.f h0 h1 _ bF) keepF_t (fun W l o o' _ h hc _ => keepF_b W l o o' h hc) (Below.refl _ _) (fun _ => rfl)
    (fun pre X => J pre.zipIdx X ∧ Boxed X W.heap.size 92 (.func (.yield l) #[] #[]) ∧ Boxed X (W.heap.size + 1) 3 (.int .i64 (pre.length : Nat)) ∧ Bx X Bh 25 (cellsH h A cap))
    (fun c pre X => c = .ret ∧ Jx pre.zipIdx X)
    (fun pre X Y row hs hg hr => ⟨(hJ.mono (by omega)).own _ X Y row hs.1 hg hr, cells_grow hs.2.1 hg hr, cells_grow hs.2.2.1 hg hr, cells_grow hs.2.2.2 hg hr⟩)
    (fun c pre X Y row hs hg hr => ⟨hs.1, (hJx.mono (by omega)).own _ X Y row hs.2 hg hr⟩)
    ⟨hj0, bY, bA, bH⟩
    (fun x => { tmps := #[.func (.yield l) #[] #[], .pointer (some ⟨Bh, 0, none⟩), .pointer (some ⟨W.heap.size, 0, none⟩), .pointer (some ⟨W.heap.size + 1, 0, none⟩), .int .i64 (x.1 : Int), .pointer (some ⟨Bh, 2, none⟩), .int .u64 h.f, .func (.func 64) #[] #[.pointer (some ⟨W.heap.size + 1 + 1, 0, none⟩)], .int .i64 (x.1 : Int), undef, undef, undef, undef, undef, undef, undef, undef, undef, undef], defers := [] }) ?assign ?body ?done ?stop
  case assign =>
    intro l x W K hK
    gi_wp2
    exact hK
  case body =>
    rintro l' pre x X ⟨hj, hy, ha, hh⟩ hlt
    have hcy := hy.cell
    have hca := ha.cell
    have hc0 := hh.cell 0 (by simp [cellsH])
    have hc1 := hh.cell 1 (by simp [cellsH])
    have hc2 := hh.cell 2 (by simp [cellsH])
    have hc3 := hh.cell 3 (by simp [cellsH])
    simp only [cellsH, List.getElem_cons_zero, List.getElem_cons_succ] at hc0 hc1 hc2 hc3
    have HZ : Hid (pre.zipIdx ++ [(x, pre.length)] = (pre ++ [x]).zipIdx ∧ (pre ++ [x]).length = pre.length + 1) := Lib.hid (by simp [List.zipIdx_append])
    obtain ⟨fn, tmps, assign, body', hyl, hR⟩ := yield_room (m' := 2) (hY pre.zipIdx (x, pre.length) X hj ⟨by simp, by dsimp only; omega⟩)
    unfold encsP encP at hyl
    dsimp only at hyl
    have e1 : IntKind.i64.wrap ((pre.length : Int) + 1) = ((pre.length + 1 : Nat) : Int) := by
      have := wh_le h.f
      simp only [IntKind.wrap_i64]
      omega
    gi_wp2
    refine hR.mono ?_
    rintro e W3 (⟨rfl, hJ3, hk3⟩ | ⟨rfl, hJx3, hk3⟩)
    · have ha3 := hk3.boxed ha rfl
      have hc3a := ha3.cell
      have hf3a := ha3.frozen
      have hy3 := hk3.boxed hy rfl
      have hh3 := hk3.bx hh rfl
      rw [HZ.out.1] at hJ3
      have hne : W.heap.size ≠ W.heap.size + 1 := by omega
      have hne2 : W.heap.size + 1 + 1 ≠ W.heap.size + 1 := by omega
      have hneB : Bh ≠ W.heap.size + 1 := by have := hbW.lt; omega
      clear hcy hca hc0 hc1 hc2 hc3
      gi_wp2
      refine ⟨(hk3.from (by omega)).trans (KeepsFrom.of_grownBy (grownBy_setCell' W3 _ _) (fun j e => ?_)), fun v hv => (hk3.boxed hv rfl).other hne2 _, hJ.set hJ3 ha3 (by omega) rfl _, hy3.other hne _, ?_, ?_⟩
      · obtain rfl : W.heap.size + 1 = j := by simpa using e
        omega
      · rw [HZ.out.2]
        exact ha3.set _
      · exact bx_other hh3 hneB _
    · rw [HZ.out.1] at hJx3
      gi_wp2
      exact ⟨hk3.from (by omega), rfl, hJx3⟩
  case done =>
    rintro D ys X hD rfl ⟨hj, -, -, -⟩ hK
    gi_wp2
    refine ⟨by simp, .inl ⟨_, _, rfl, run_takeDeferred hK, ?_⟩⟩
    exact ⟨_, results_none rfl _ _ _, ⟨_, rfl⟩, .inl ⟨_, rfl, (hJ.mono (by omega)).own.putObj (B := w0.heap.size) _ hj hD hK rfl⟩⟩
  case stop =>
    rintro D c pre X hD hSp ⟨rfl, hx⟩ hK
    gi_wp2
    refine ⟨by simp, .inl ⟨_, _, rfl, run_takeDeferred hK, ?_⟩⟩
    exact ⟨_, results_none rfl _ _ _, ⟨_, rfl⟩, .inr ⟨_, zip_pre hSp, (hJx.mono (by omega)).own.putObj (B := w0.heap.size) _ hx hD hK rfl⟩⟩
/-- props.properties: the head is boxed; the function that it answers holds the box -/
theorem properties_in (n : Nat) (h : He) (A : Option Addr) (cap : Nat) (w : World) :
    CallsIn Fence.wide n Tryd.prog 25 #[encH h A cap] w fun e w' => e = .returned (.func (.func 48) #[] #[.pointer (some ⟨w.heap.size, 0, none⟩)]) ∧ w' = w.alloc (.cells (cellsH h A cap).toArray 25) := by
  have hmf : ∀ (p : Value) (w : World), (Instr.makeFunc (.func 48) #[] #[p]).run Tryd.prog w = .ok (.func (.func 48) #[] #[p]) w := fun _ _ => by kernel_rfl
  unfold encH cellsH
  refine callsIn_of_wp Tryd.func25 rfl trivial ?_ rfl
  simp only [Tryd.ntmps25, List.size_toArray, List.length_cons, List.length_nil, Nat.reduceAdd, Nat.reduceSub, Array.replicate_succ, Array.replicate_zero, List.push_toArray, List.append_toArray, List.nil_append, List.cons_append]
  gi_wp2
  go_ret
  exact ⟨rfl, rfl⟩
end Go.Proofs.YtjpldfkhacchdaaDoor
