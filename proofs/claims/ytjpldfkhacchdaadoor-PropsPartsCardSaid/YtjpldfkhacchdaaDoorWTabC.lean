/-
  What table.takers makes: the closures of a value, a row and a table, in boxes, and the map of the kinds; what abides as long as no older block is written.
-/
import Derived.RangeFuncNested
import Derived.RangeFuncBound
import Derived.RangeFuncCalls
import Derived.RangeFuncLeaves
import Derived.Shelf.Abstract
import Derived.Shelf.RegionOpen
import Derived.WalkKit
import Derived.OwnWalkIn
import Derived.TacticsInMore
import Derived.LoopNIn
import Derived.LoopIn
import Derived.Maps.AppendAt
import Derived.Laws.EntriesVeiled
import Derived.Test.YtjpldfkhacchdaaDoorJMem
import Derived.Test.YtjpldfkhacchdaaDoorWTabK
namespace Go.Proofs.YtjpldfkhacchdaaDoor
open Go.RowKit Go.Maps

/-- the map of the kinds lies at M; the boxes of the map, of value, row and table from B on -/
structure Tk (w : World) (M B : Nat) : Prop where
  wid : Wid w
  map : w.ownsMap Tryd.prog 5 (plainElem (H := Unit) Tryd.prog 3) M 17 kindsD
  bm : Boxed w B 131 (.map (some M))
  bv : Boxed w (B + 1) 124 (.func (.func 85) #[] #[.pointer (some ⟨B, 0, none⟩), .pointer (some ⟨B + 2, 0, none⟩), .pointer (some ⟨B + 3, 0, none⟩)])
  br : Boxed w (B + 2) 124 (.func (.func 80) #[] #[.pointer (some ⟨B + 1, 0, none⟩)])
  bt : Boxed w (B + 3) 124 (.func (.func 83) #[] #[.pointer (some ⟨B + 1, 0, none⟩)])

theorem Tk.lt {w : World} {M B : Nat} (h : Tk w M B) : B + 3 < w.heap.size := h.bt.lt
theorem Tk.below {w w' : World} {M B : Nat} (h : Tk w M B) (hb : Below w.heap.size w w') : Tk w' M B := by
  refine ⟨h.wid.below hb, ?_, boxed_below h.bm hb h.bm.lt, boxed_below h.bv hb h.bv.lt, boxed_below h.br hb h.br.lt, boxed_below h.bt hb h.bt.lt⟩
  have hlt := h.map.lt
  obtain ⟨es, clock, h1, h2, h3, h4⟩ := h.map
  exact ⟨es, clock, (hb.block M hlt).trans h1, h2, h3, h4⟩

set_option maxHeartbeats 1000000 in
theorem takers_any (w : World) (hw : Wid w) :
    Calls Tryd.prog 73 #[] w fun e w' => ∃ M B, e = .returned (.tuple #[.func (.func 85) #[] #[.pointer (some ⟨B, 0, none⟩), .pointer (some ⟨B + 2, 0, none⟩), .pointer (some ⟨B + 3, 0, none⟩)], .func (.func 83) #[] #[.pointer (some ⟨B + 1, 0, none⟩)]]) ∧ Tk w' M B ∧ Below w.heap.size w w' := by
  have hm1 : ∀ (p : Value) (w : World), (Instr.makeFunc (.func 80) #[] #[p]).run Tryd.prog w = .ok (.func (.func 80) #[] #[p]) w := fun _ _ => by kernel_rfl
  have hm2 : ∀ (p : Value) (w : World), (Instr.makeFunc (.func 83) #[] #[p]).run Tryd.prog w = .ok (.func (.func 83) #[] #[p]) w := fun _ _ => by kernel_rfl
  have hm3 : ∀ (p q r : Value) (w : World), (Instr.makeFunc (.func 85) #[] #[p, q, r]).run Tryd.prog w = .ok (.func (.func 85) #[] #[p, q, r]) w := fun _ _ _ _ => by kernel_rfl
  go_enter Tryd.func73, Tryd.ntmps73
  go_wp2_with fail
  refine (kinds_any w).mono ?_
  rintro e w1 ⟨rfl, hm, hb⟩
  go_wp2
  go_quiet (fail)
  go_wp2
  go_ret2
  have hbs := hb.size
  have hbW : Below w.heap.size w _ := (((hb.alloc hbs (.cells #[.map (some w.heap.size)] 131)).alloc (by simp; omega) (.cells #[.func (.func 85) #[] #[.pointer (some ⟨w1.heap.size, 0, none⟩), .pointer (some ⟨w1.heap.size + 1 + 1, 0, none⟩), .pointer (some ⟨w1.heap.size + 1 + 1 + 1, 0, none⟩)]] 124)).alloc (by simp; omega) (.cells #[.func (.func 80) #[] #[.pointer (some ⟨w1.heap.size + 1, 0, none⟩)]] 124)).alloc (by simp; omega) (.cells #[.func (.func 83) #[] #[.pointer (some ⟨w1.heap.size + 1, 0, none⟩)]] 124)
  refine ⟨w.heap.size, w1.heap.size, rfl, ⟨hw.below (below_drewN hbW _), ?_, ?_, ?_, ?_, ?_⟩, below_drewN hbW _⟩
  · exact (((hm.alloc _).alloc _).alloc _).alloc _
  · exact (((Boxed.new w1 _ _).alloc _).alloc _).alloc _
  · have h := ((Boxed.new (w1.alloc (.cells #[.map (some w.heap.size)] 131)) 124 (.func (.func 85) #[] #[.pointer (some ⟨w1.heap.size, 0, none⟩), .pointer (some ⟨w1.heap.size + 1 + 1, 0, none⟩), .pointer (some ⟨w1.heap.size + 1 + 1 + 1, 0, none⟩)])).alloc (.cells #[.func (.func 80) #[] #[.pointer (some ⟨w1.heap.size + 1, 0, none⟩)]] 124)).alloc (.cells #[.func (.func 83) #[] #[.pointer (some ⟨w1.heap.size + 1, 0, none⟩)]] 124)
    rw [World.size_alloc] at h
    exact h
  · have h := (Boxed.new ((w1.alloc (.cells #[.map (some w.heap.size)] 131)).alloc (.cells #[.func (.func 85) #[] #[.pointer (some ⟨w1.heap.size, 0, none⟩), .pointer (some ⟨w1.heap.size + 1 + 1, 0, none⟩), .pointer (some ⟨w1.heap.size + 1 + 1 + 1, 0, none⟩)]] 124)) 124 (.func (.func 80) #[] #[.pointer (some ⟨w1.heap.size + 1, 0, none⟩)])).alloc (.cells #[.func (.func 83) #[] #[.pointer (some ⟨w1.heap.size + 1, 0, none⟩)]] 124)
    rw [World.size_alloc, World.size_alloc] at h
    exact h
  · have h := Boxed.new (((w1.alloc (.cells #[.map (some w.heap.size)] 131)).alloc (.cells #[.func (.func 85) #[] #[.pointer (some ⟨w1.heap.size, 0, none⟩), .pointer (some ⟨w1.heap.size + 1 + 1, 0, none⟩), .pointer (some ⟨w1.heap.size + 1 + 1 + 1, 0, none⟩)]] 124)).alloc (.cells #[.func (.func 80) #[] #[.pointer (some ⟨w1.heap.size + 1, 0, none⟩)]] 124)) 124 (.func (.func 83) #[] #[.pointer (some ⟨w1.heap.size + 1, 0, none⟩)])
    rw [World.size_alloc, World.size_alloc, World.size_alloc] at h
    exact h
end Go.Proofs.YtjpldfkhacchdaaDoor
