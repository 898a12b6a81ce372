/-
  sig.methods makes the table of methods; nothing that was there is changed. No condition.
-/
import Derived.Laws.ResultCell
import Derived.Deep.WholeRow
import Derived.Handy
import Derived.WalkKit
import Derived.WalkSpells
import Derived.WalkLawsBesides
import Derived.Lib.Hide
import Derived.Test.YtmpfkommeakgbaaDoorJSig
namespace Go.Proofs.YtmpfkommeakgbaaDoor
open Go.RowKit

/-- a row of operations that only reckon, carried out -/
def reckon (P : Program) : List Oper → Act → World → Option (Act × World)
  | [], a, w => some (a, w)
  | o :: r, a, w => match o.guard, (execOp a.eval o).run P w with
    | none, .ok (.value v) w' => reckon P r (a.put o.dst v) w'
    | _, _ => none
theorem wpList_reckon {P : Program} {ops : Array Oper} {Q : Exit → Act → World → Prop} {rest : List Oper} : ∀ {l : List Oper} {a : Act} {w : World} {a' : Act} {w' : World}, reckon P l a w = some (a', w') → wpList P ops Q rest a' w' → wpList P ops Q (l ++ rest) a w
  | [], a, w, a', w', h, hr => by
    simp only [reckon, Option.some.injEq, Prod.mk.injEq] at h
    obtain ⟨rfl, rfl⟩ := h
    exact hr
  | o :: l, a, w, a', w', h, hr => by
    unfold reckon at h
    split at h
    · rename_i v w1 hg he
      refine wpList_plain hg fun K hK => ?_
      rw [Oper.wp, he, Oper.upon_value]
      exact hK _ _ (wpList_reckon h hr)
    · cases h

theorem wpList_reckon_n {P : Program} {ops : Array Oper} {Q : Exit → Act → World → Prop} {l : List Oper} {a : Act} {w : World} (n : Nat) {a' : Act} {w' : World} (h : reckon P (l.take n) a w = some (a', w')) (hr : wpList P ops Q (l.drop n) a' w') : wpList P ops Q l a w := by
  have := wpList_reckon h hr
  rwa [List.take_append_drop] at this
def zeroMets : Array Value := (rowMet (List.replicate 58 noMet)).toArray
theorem results_cell {fn : Func} {p : Tmp} {ty : TypeId} (h : fn.results = #[.cell p ty]) (tmps : Array Value) (P : Program) (w : World) :
    (results fn tmps).run P w = ((asAddr (tmps.getD p undef)).run P w).andThen fun a w₁ => (loadVar ty a).run P w₁ := by
  simp only [results, h]
  simp [Sem.run_bind, Result.andThen]
theorem sizeMets : (Tryd.prog.info? 123).map (·.size) = some (rowMet mets).toArray.size := by kernel_rfl
theorem oneMets : (rowMet mets).toArray.all (·.oneCell') = true := by kernel_rfl
theorem zeroMets_size : zeroMets.size = (rowMet mets).toArray.size := by kernel_rfl

set_option maxRecDepth 100000 in
set_option maxHeartbeats 2000000 in
theorem methods_any (w : World) :
    Calls Tryd.prog 74 #[] w fun e w' => e = .returned (.agg (rowMet mets).toArray) ∧ Below w.heap.size w w' := by
  go_enter Tryd.func74, Tryd.ntmps74
  refine wp_seq (wp_region_lit (wpList_reckon_n 1 (a' := ⟨(.pointer (some ⟨w.heap.size, 0, none⟩) :: List.replicate 59 undef).toArray, []⟩) (w' := w.alloc (.cells zeroMets 123)) (by kernel_rfl) ?_))
  refine wpList_nil ?_
  show Code.wp _ _ _ _ _
  refine wp_seq (wp_region_lit (wpList_reckon_n 59 (a' := ⟨(Value.pointer (some ⟨w.heap.size, 0, none⟩) :: (mets.map encMet ++ [Value.agg (rowMet mets).toArray])).toArray, []⟩) (w' := w.alloc (.cells zeroMets 123)) (by kernel_rfl) ?_))
  simp only [List.drop_succ_cons, List.drop_zero]
  refine wpList_plain rfl fun K hK => ?_
  have hs := run_storeAt_new (P := Tryd.prog) w 123 zeroMets (rowMet mets).toArray sizeMets zeroMets_size oneMets
  have he : ∀ (ρ : Operand → Value) (o : Oper) (x y : Operand), o.op = .store 123 x y → ρ x = .pointer (some ⟨w.heap.size, 0, none⟩) → ρ y = .agg (rowMet mets).toArray → (execOp ρ o).run Tryd.prog (w.alloc (.cells zeroMets 123)) = .ok .skip (w.alloc (.cells (rowMet mets).toArray 123)) := by
    intro ρ o x y ho hx hy
    unfold execOp
    rw [ho]
    simp only [hx, hy, Sem.run_bind, hs, Result.andThen]
    rfl
  rw [Oper.wp, he _ _ _ _ rfl (by kernel_rfl) (by kernel_rfl), Oper.upon_skip]
  refine hK _ _ (wpList_nil ?_)
  show Code.wp _ _ _ _ _
  refine wp_ret ?_
  refine bodyPost_ret (v := .agg (rowMet mets).toArray) ?_ rfl ⟨rfl, (Below.refl _ w).alloc (Nat.le_refl _) _⟩
  rw [results_cell rfl]
  have ha : (asAddr (.pointer (some ⟨w.heap.size, 0, none⟩))).run Tryd.prog (w.alloc (.cells (rowMet mets).toArray 123)) = .ok ⟨w.heap.size, 0, none⟩ (w.alloc (.cells (rowMet mets).toArray 123)) := rfl
  refine (congrArg (fun x => Result.andThen x _) ha).trans ?_
  exact run_loadVar_new w 123 (rowMet mets).toArray 58 61 Tryd.underlying123 sizeMets
end Go.Proofs.YtmpfkommeakgbaaDoor
