/-
  Boxes of one cell: what they hold stays, whatever is made and whatever else is written; a function's results where some of them lie in cells. No condition.
-/
import Derived.Laws.ResultCell
import Derived.RangeFuncNested
import Derived.RangeFuncBound
import Derived.RangeFuncCalls
import Derived.RangeFuncLeaves
import Derived.Test.YtmpfkommeakgbaaDoorRows
namespace Go.Proofs.YtmpfkommeakgbaaDoor
open Go.RowKit

theorem boxed_below {w W : World} {n B : Nat} {t : TypeId} {v : Value} (h : Boxed w B t v) (hb : Below n w W) (hn : B < n) : Boxed W B t v := (hb.block B hn).trans h
theorem boxed_putObj {W : World} {l B : Nat} {t : TypeId} {o : Obj} (o' : Obj) (h : W.heap[l]? = some o) (hc : o.isCells = false) {v : Value} (hv : Boxed W B t v) : Boxed (W.putObj l o') B t v :=
  hv.kept (grownBy_putObj' W l o') (fun e => by
    obtain rfl : B = l := by simpa using e
    rw [show W.heap[B]? = _ from hv] at h
    cases h
    cases hc)
theorem grown_of_below {a b : World} (h : Below a.heap.size a b) (row : Option Nat) : a.grownBy b row := ⟨h.os, h.tape, h.output, h.size, fun k hk _ => h.block k hk⟩
theorem boxed_grown {A A' : World} {row : Option Nat} {n B : Nat} {t : TypeId} {v : Value} (h : Boxed A B t v) (hg : A.grownBy A' row) (hr : ∀ r, row = some r → n ≤ r ∧ ∃ o : Obj, A.heap[r]? = some o ∧ o.isCells = false) : Boxed A' B t v :=
  h.kept hg (fun e => by obtain ⟨-, o, ho, hc⟩ := hr B e.symm; rw [show A.heap[B]? = _ from h] at ho; cases ho; cases hc)
theorem below_grown {A A' w : World} {row : Option Nat} {n N : Nat} (h : Below n w A) (hn : n ≤ w.heap.size) (hN : n ≤ N) (hg : A.grownBy A' row) (hr : ∀ r, row = some r → N ≤ r ∧ ∃ o : Obj, A.heap[r]? = some o ∧ o.isCells = false) : Below n w A' :=
  h.grown hg (Nat.le_trans hn h.size) (fun k e => Nat.le_trans hN (hr k e).1)
theorem boxed_put {W : World} {D B : Nat} {t : TypeId} {v : Value} {o : Obj} (o' : Obj) (h : Boxed W B t v) (hK : W.heap[D]? = some o) (hc : o.isCells = false) : (W.putObj D o').cell? ⟨B, 0, none⟩ = some v := (boxed_putObj o' hK hc h).cell
theorem results_ctt {fn : Func} {p t u : Tmp} {ty : TypeId} (h : fn.results = #[.cell p ty, .tmp t, .tmp u]) (tmps : Array Value) (P : Program) (w : World) :
    (results fn tmps).run P w =
      ((asAddr (tmps.getD p undef)).run P w).andThen fun a w₁ => ((loadVar ty a).run P w₁).andThen fun v w₂ => .ok (.tuple #[v, tmps.getD t undef, tmps.getD u undef]) w₂ := by
  simp only [results, h]
  simp [Sem.run_bind, Result.andThen]
theorem results_ccc {fn : Func} {p q r : Tmp} {tp tq tr : TypeId} (h : fn.results = #[.cell p tp, .cell q tq, .cell r tr]) (tmps : Array Value) (P : Program) (w : World) :
    (results fn tmps).run P w =
      ((asAddr (tmps.getD p undef)).run P w).andThen fun a w₁ => ((loadVar tp a).run P w₁).andThen fun u w₂ => ((asAddr (tmps.getD q undef)).run P w₂).andThen fun b w₃ => ((loadVar tq b).run P w₃).andThen fun v w₄ => ((asAddr (tmps.getD r undef)).run P w₄).andThen fun c w₅ => ((loadVar tr c).run P w₅).andThen fun x w₆ => .ok (.tuple #[u, v, x]) w₆ := by
  simp only [results, h]
  simp [Sem.run_bind, Result.andThen]
theorem results_cttt {fn : Func} {p t u x : Tmp} {ty : TypeId} (h : fn.results = #[.cell p ty, .tmp t, .tmp u, .tmp x]) (tmps : Array Value) (P : Program) (w : World) :
    (results fn tmps).run P w =
      ((asAddr (tmps.getD p undef)).run P w).andThen fun a w₁ => ((loadVar ty a).run P w₁).andThen fun v w₂ => .ok (.tuple #[v, tmps.getD t undef, tmps.getD u undef, tmps.getD x undef]) w₂ := by
  simp only [results, h]
  simp [Sem.run_bind, Result.andThen]
end Go.Proofs.YtmpfkommeakgbaaDoor
