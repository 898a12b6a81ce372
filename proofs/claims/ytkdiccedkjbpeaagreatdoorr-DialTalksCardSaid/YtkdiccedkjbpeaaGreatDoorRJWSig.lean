/-
  Several texts joined in one file: each says at its own head, below, what it proves, and its conditions.
-/
import Derived.Laws.ResultCell
import Derived.Deep.WholeRow
import Derived.Handy
import Derived.WalkKit
import Derived.WalkSpells
import Derived.WalkLawsBesides
import Derived.Lib.Hide
import Derived.Test.YtkdiccedkjbpeaaGreatDoorRJSig
import Derived.Deep.RegionHeld3
import Derived.Laws.StructEq
import Derived.Test.YtkdiccedkjbpeaaGreatDoorRJMem
import Derived.Deep.Onto
import Derived.Sort.QuietIn
import Derived.Shelf.Abstract
import Derived.Shelf.RegionOpen
import Derived.OwnWalkIn
import Derived.TacticsInMore
import Derived.LoopNIn
import Derived.LoopIn
import Derived.Maps.AppendAt
import Derived.Laws.EntriesVeiled
/-
  sig.methods makes the table of methods; nothing that was there is changed. No condition.
-/
namespace Go.Proofs.YtkdiccedkjbpeaaGreatDoorR
open Go.RowKit

/-- a row of operations that only reckon, carried out -/
def reckon (P : Program) : List Oper → Act → World → Option (Act × World)
  | [], a, w => some (a, w)
  | o :: r, a, w => match o.guard, (execOp a.eval o).run P w with
    | none, .ok (.value v) w' => reckon P r (a.put o.dst v) w'
    | _, _ => none
theorem wpList_reckon {P : Program} {ops : Array Oper} {Q : Exit → Act → World → Prop} {rest : List Oper} : ∀ {l : List Oper} {a : Act} {w : World} {a' : Act} {w' : World}, reckon P l a w = some (a', w') → wpList P ops Q rest a' w' → wpList P ops Q (l ++ rest) a w
  | [], a, w, a', w', h, hr => by
    simp only [reckon, Option.some.injEq, Prod.mk.injEq] at h
    obtain ⟨rfl, rfl⟩ := h
    exact hr
  | o :: l, a, w, a', w', h, hr => by
    unfold reckon at h
    split at h
    · rename_i v w1 hg he
      refine wpList_plain hg fun K hK => ?_
      rw [Oper.wp, he, Oper.upon_value]
      exact hK _ _ (wpList_reckon h hr)
    · cases h

theorem wpList_reckon_n {P : Program} {ops : Array Oper} {Q : Exit → Act → World → Prop} {l : List Oper} {a : Act} {w : World} (n : Nat) {a' : Act} {w' : World} (h : reckon P (l.take n) a w = some (a', w')) (hr : wpList P ops Q (l.drop n) a' w') : wpList P ops Q l a w := by
  have := wpList_reckon h hr
  rwa [List.take_append_drop] at this
def zeroMets : Array Value := (rowMet (List.replicate 58 noMet)).toArray
theorem results_cell {fn : Func} {p : Tmp} {ty : TypeId} (h : fn.results = #[.cell p ty]) (tmps : Array Value) (P : Program) (w : World) :
    (results fn tmps).run P w = ((asAddr (tmps.getD p undef)).run P w).andThen fun a w₁ => (loadVar ty a).run P w₁ := by
  simp only [results, h]
  simp [Sem.run_bind, Result.andThen]
theorem sizeMets : (Tryz.prog.info? 153).map (·.size) = some (rowMet mets).toArray.size := by kernel_rfl
theorem oneMets : (rowMet mets).toArray.all (·.oneCell') = true := by kernel_rfl
theorem zeroMets_size : zeroMets.size = (rowMet mets).toArray.size := by kernel_rfl

set_option maxRecDepth 100000 in
set_option maxHeartbeats 2000000 in
theorem methods_any (w : World) :
    Calls Tryz.prog 119 #[] w fun e w' => e = .returned (.agg (rowMet mets).toArray) ∧ Below w.heap.size w w' := by
  go_enter Tryz.func119, Tryz.ntmps119
  refine wp_seq (wp_region_lit (wpList_reckon_n 1 (a' := ⟨(.pointer (some ⟨w.heap.size, 0, none⟩) :: List.replicate 59 undef).toArray, []⟩) (w' := w.alloc (.cells zeroMets 153)) (by kernel_rfl) ?_))
  refine wpList_nil ?_
  show Code.wp _ _ _ _ _
  refine wp_seq (wp_region_lit (wpList_reckon_n 59 (a' := ⟨(Value.pointer (some ⟨w.heap.size, 0, none⟩) :: (mets.map encMet ++ [Value.agg (rowMet mets).toArray])).toArray, []⟩) (w' := w.alloc (.cells zeroMets 153)) (by kernel_rfl) ?_))
  simp only [List.drop_succ_cons, List.drop_zero]
  refine wpList_plain rfl fun K hK => ?_
  have hs := run_storeAt_new (P := Tryz.prog) w 153 zeroMets (rowMet mets).toArray sizeMets zeroMets_size oneMets
  have he : ∀ (ρ : Operand → Value) (o : Oper) (x y : Operand), o.op = .store 153 x y → ρ x = .pointer (some ⟨w.heap.size, 0, none⟩) → ρ y = .agg (rowMet mets).toArray → (execOp ρ o).run Tryz.prog (w.alloc (.cells zeroMets 153)) = .ok .skip (w.alloc (.cells (rowMet mets).toArray 153)) := by
    intro ρ o x y ho hx hy
    unfold execOp
    rw [ho]
    simp only [hx, hy, Sem.run_bind, hs, Result.andThen]
    rfl
  rw [Oper.wp, he _ _ _ _ rfl (by kernel_rfl) (by kernel_rfl), Oper.upon_skip]
  refine hK _ _ (wpList_nil ?_)
  show Code.wp _ _ _ _ _
  refine wp_ret ?_
  refine bodyPost_ret (v := .agg (rowMet mets).toArray) ?_ rfl ⟨rfl, (Below.refl _ w).alloc (Nat.le_refl _) _⟩
  rw [results_cell rfl]
  have ha : (asAddr (.pointer (some ⟨w.heap.size, 0, none⟩))).run Tryz.prog (w.alloc (.cells (rowMet mets).toArray 153)) = .ok ⟨w.heap.size, 0, none⟩ (w.alloc (.cells (rowMet mets).toArray 153)) := rfl
  refine (congrArg (fun x => Result.andThen x _) ha).trans ?_
  exact run_loadVar_new w 153 (rowMet mets).toArray 58 105 Tryz.underlying153 sizeMets
end Go.Proofs.YtkdiccedkjbpeaaGreatDoorR

/-
  A method's place, and the test by which a method is looked up; nothing that was there is changed. Condition: the place that is looked for stands in a box.
-/
namespace Go.Proofs.YtkdiccedkjbpeaaGreatDoorR
open Go.RowKit

def at2 (c i : Int) : List Value := [.int .i64 c, .int .i64 i]
set_option maxHeartbeats 2000000 in
theorem at_any (m : Met) (w : World) :
    Calls Tryz.prog 91 #[encMet m] w fun e w' => e = .returned (.agg #[.int .i64 m.c, .int .i64 m.i]) ∧ Below w.heap.size w w' := by
  obtain ⟨c, i, v, s, r⟩ := m
  unfold encMet
  dsimp only
  go_enter Tryz.func91, Tryz.ntmps91
  go_wp2
  refine bodyPost_ret (v := .agg #[.int .i64 c, .int .i64 i]) ?_ rfl ⟨rfl, ?_⟩
  · rw [results_cell rfl]
    simp [asAddr, Result.andThen, go_sem]
  · exact (((Below.refl _ w).alloc (Nat.le_refl _) _).alloc (by simp) _)

theorem eq2 (a b c d : Int) (w : World) : (Op.equalIn 10000 130 (.agg #[.int .i64 a, .int .i64 b]) (.agg #[.int .i64 c, .int .i64 d])).run Tryz.prog w = .ok (a == c && b == d) w := by
  have u3 := Tryz.underlying3
  have a3 := Tryz.isAgg3
  have z3 := Tryz.sizeOf3
  rw [show (10000 : Nat) = 9999 + 1 from rfl, Op.equalIn]
  simp only [Sem.run_bind, run_underlying Tryz.underlying130, Result.andThen_ok]
  simp only [Std.Legacy.Range.forIn_eq_forIn_range', Std.Legacy.Range.size, Nat.sub_zero, Nat.add_sub_cancel, Nat.div_one, List.range'_succ, List.range'_zero, List.forIn_cons, List.forIn_nil]
  go_simp
  by_cases h1 : a = c <;> by_cases h2 : b = d <;> simp [h1, h2]

set_option maxHeartbeats 2000000 in
theorem look1_any (m : Met) (c i : Int) (B : Nat) (w : World) (hB : Bx w B 130 (at2 c i)) :
    Calls Tryz.prog 90 #[encMet m, .pointer (some ⟨B, 0, none⟩)] w fun e w' => e = .returned (.bool (isAt c i m)) ∧ Below w.heap.size w w' := by
  have hA := at_any m
  have hE : ∀ w, (Op.equalIn 10000 130 (.agg #[.int .i64 m.c, .int .i64 m.i]) (.agg #[.int .i64 c, .int .i64 i])).run Tryz.prog w = .ok (isAt c i m) w := fun w => eq2 _ _ _ _ w
  have h1 := hB.alloc (.cells (cellsMet m).toArray 105)
  have h2 := Bx.new w 105 (cellsMet m)
  have hb : Below w.heap.size w (w.alloc (.cells (cellsMet m).toArray 105)) := (Below.refl _ w).alloc (Nat.le_refl _) _
  generalize isAt c i m = q at hE
  obtain ⟨c1, i1, v, s, r⟩ := m
  unfold encMet at hA ⊢
  unfold cellsMet at h1 h2 hb
  dsimp only at hA hE h1 h2 hb ⊢
  go_enter Tryz.func90, Tryz.ntmps90
  go_wp2_with fail
  generalize w.alloc (.cells #[.int .i64 c1, .int .i64 i1, .string v, .int .i64 s, .int .i64 r] 105) = w9 at h1 h2 hb
  have keep : ∀ w', Below w9.heap.size w9 w' → w'.cell? ⟨w.heap.size, 0, none⟩ = some (.int .i64 c1) ∧ w'.cell? ⟨w.heap.size, 1, none⟩ = some (.int .i64 i1) ∧ w'.cell? ⟨w.heap.size, 2, none⟩ = some (.string v) ∧ w'.cell? ⟨w.heap.size, 3, none⟩ = some (.int .i64 s) ∧ w'.cell? ⟨w.heap.size, 4, none⟩ = some (.int .i64 r) ∧ w'.cell? ⟨B, 0, none⟩ = some (.int .i64 c) ∧ w'.cell? ⟨B, 1, none⟩ = some (.int .i64 i) := fun w' h => ⟨(h2.kept h).cell 0 (by simp), (h2.kept h).cell 1 (by simp), (h2.kept h).cell 2 (by simp), (h2.kept h).cell 3 (by simp), (h2.kept h).cell 4 (by simp), (h1.kept h).cell 0 (by simp [at2]), (h1.kept h).cell 1 (by simp [at2])⟩
  obtain ⟨x0, x1, x2, x3, x4, y0, y1⟩ := keep w9 (Below.refl _ _)
  have hbs := hb.size
  clear h1 h2 hB
  go_region_held3 (fun w' => w'.cell? ⟨w.heap.size, 0, none⟩ = some (.int .i64 c1) ∧ w'.cell? ⟨w.heap.size, 1, none⟩ = some (.int .i64 i1) ∧ w'.cell? ⟨w.heap.size, 2, none⟩ = some (.string v) ∧ w'.cell? ⟨w.heap.size, 3, none⟩ = some (.int .i64 s) ∧ w'.cell? ⟨w.heap.size, 4, none⟩ = some (.int .i64 r) ∧ w'.cell? ⟨B, 0, none⟩ = some (.int .i64 c) ∧ w'.cell? ⟨B, 1, none⟩ = some (.int .i64 i)) (first | go_keep | (exact keep _ ⟨hq.os, hq.tape, hq.output, hq.size, hq.block⟩)) (first | (go_at_call 91; refine (hA _).mono ?_; rintro e w10 ⟨rfl, hq⟩))
  have hf : Below w9.heap.size w9 w10 := ⟨hq.os, hq.tape, hq.output, hq.size, hq.block⟩
  go_wp2
  go_ret
  exact ⟨rfl, hb.trans (hf.mono hbs)⟩

end Go.Proofs.YtkdiccedkjbpeaaGreatDoorR

/-
  sig.each gives the methods of the table one after the other, till it is told to stop. No condition.
-/
namespace Go.Proofs.YtkdiccedkjbpeaaGreatDoorR
open Go.RowKit Go.Maps Go.Shelf
attribute [local go_sem] Oper.semAt_some

theorem mets_length : mets.length = 58 := by kernel_rfl
/-- a method of the table -/
abbrev MM := { m : Met // m ∈ mets }
def mms : List MM := mets.attach
theorem mms_length : mms.length = 58 := by rw [mms, List.length_attach, mets_length]
theorem mms_val : mms.map Subtype.val = mets := List.attach_map_subtype_val mets

theorem rowMet_at : ∀ (l : List Met) (k : Nat) (hk : k < l.length), ((rowMet l).drop (k * 5)).take 5 = cellsMet l[k]
  | [], k, hk => absurd hk (by simp)
  | m :: l, 0, _ => rfl
  | m :: l, k + 1, hk => by
    have ih := rowMet_at l k (by simpa using hk)
    have e : (k + 1) * 5 = 5 + k * 5 := by omega
    rw [e, ← List.drop_drop]
    exact ih
theorem isAggMet : ∀ w, (isAgg 105).run Tryz.prog w = .ok true w := fun w => by kernel_rfl
theorem sizeOfMet : ∀ w, (sizeOf 105).run Tryz.prog w = .ok 5 w := fun w => by kernel_rfl
theorem index_mets (k : Nat) (hk : k < 58) (w : World) : (Instr.index 153 (.agg (rowMet mets).toArray) (.int .i64 (k : Int))).run Tryz.prog w = .ok (encMet (mets[k]'(by rw [mets_length]; exact hk))) w := by
  have h := rowMet_at mets k (by rw [mets_length]; exact hk)
  have he : (rowMet mets).toArray.extract (k * 5) (k * 5 + 5) = (cellsMet (mets[k]'(by rw [mets_length]; exact hk))).toArray := by
    rw [← h, List.extract_toArray, List.extract_eq_take_drop, Nat.add_sub_cancel_left]
  simp only [Instr.index, Sem.run_bind, asIntOf, run_underlying Tryz.underlying153, Result.andThen_ok, Sem.run_pure]
  rw [if_pos (by omega)]
  simp only [part, Sem.run_bind, sizeOfMet, isAggMet, Result.andThen_ok, Sem.run_pure, Int.toNat_natCast, if_true, he]
  rfl

set_option maxRecDepth 100000 in
set_option maxHeartbeats 2000000 in
theorem each_in (l : Nat) (Kp : World → World → Prop) (J Jx : List MM → World → Prop)
    (hJ : ∀ pre W W', J pre W → Below W.heap.size W W' → J pre W')
    (hY : ∀ pre x W, J pre W → pre.length < 58 → YieldAt Fence.wide 2 Tryz.prog l #[encMet x.1] W fun e W' =>
      (e = .returned (.bool true) ∧ J (pre ++ [x]) W' ∧ Kp W W') ∨ (e = .returned (.bool false) ∧ Jx (pre ++ [x]) W'))
    (W : World) (hJ0 : J [] W) :
    CallsIn Fence.wide 3 Tryz.prog 109 #[.func (.yield l) #[] #[]] W fun e W' => (∃ v, e = .returned v) ∧
      ((∃ ys, ys = mms ∧ J ys W') ∨ (∃ pre, pre <+: mms ∧ Jx pre W')) := by
  refine callsIn_of_wp Tryz.func109 rfl trivial ?_ rfl
  simp only [Tryz.ntmps109, List.size_toArray, List.length_cons, List.length_nil, Nat.reduceAdd, Nat.reduceSub, Array.replicate_succ, Array.replicate_zero, List.push_toArray, List.append_toArray, List.nil_append, List.cons_append]
  gi_wp2_with fail
  refine ⟨trivial, (callsIn_wide.2 (methods_any W)).mono ?_⟩
  rintro e w2 ⟨rfl, hb⟩
  have hJ1 := hJ _ _ _ hJ0 hb
  clear hJ0 hb
  have hidx := index_mets
  generalize (rowMet mets).toArray = T at hidx ⊢
  gi_wp2_with fail
  gi_loopw [5] (fun p wr => ∃ k : Nat, k ≤ 58 ∧ p = .int .i64 k ∧ J (mms.take k) wr) (fun p _ => 58 - (intOf p).toNat)
  case atStart => exact ⟨0, Nat.zero_le _, rfl, hJ1⟩
  case round =>
    obtain ⟨k, hk, rfl, hJs⟩ := hrel
    by_cases hlt : k < 58
    · have hx := hidx k hlt
      have hkm : k < mms.length := by rw [mms_length]; exact hlt
      have hkk : k < mets.length := by rw [mets_length]; exact hlt
      have hv : mms[k].1 = mets[k] := by simp [mms]
      have HT : Hid (mms.take k ++ [mms[k]] = mms.take (k + 1)) := Lib.hid (by rw [List.take_add_one, List.getElem?_eq_getElem hkm]; rfl)
      have HP : Hid (mms.take k ++ [mms[k]] <+: mms) := Lib.hid (by rw [HT.out]; exact List.take_prefix _ _)
      have hl : (mms.take k).length < 58 := by rw [List.length_take]; omega
      have hJ3 := hJ _ wr _ hJs ((Below.refl _ _).alloc (Nat.le_refl _) (.cells (cellsMet mets[k]).toArray 105))
      obtain ⟨fn, tmps, assign, body', hy, hR⟩ := hY _ mms[k] _ hJ3 hl
      rw [hv] at hy
      clear hidx hJs hJ3 hl
      generalize mms.take k ++ [mms[k]] = nx at HT HP hR
      clear hv
      rcases hmk : mets[k] with ⟨c1, i1, v, s, r⟩
      rw [hmk] at hx hy hR
      unfold encMet at hx hy
      unfold cellsMet at hy hR
      dsimp only at hx hy hR
      clear hmk
      have e1 : IntKind.i64.wrap ((k : Int) + 1) = ((k + 1 : Nat) : Int) := by simp only [IntKind.wrap_i64]; omega
      gi_wp2
      refine hR.mono ?_
      rintro e W3 (⟨rfl, hJ3, hk3⟩ | ⟨rfl, hJx3⟩)
      · rw [HT.out] at hJ3
        gi_wp2
        go_roundw
        case rel => exact ⟨k + 1, hlt, rfl, hJ3⟩
        case measure => simp only [intOf]; omega
      · gi_wp2
        refine bodyPost_ret (results_none rfl _ _ _) rfl ?_
        exact ⟨⟨_, rfl⟩, .inr ⟨nx, HP.out, hJx3⟩⟩
    · obtain rfl : k = 58 := by omega
      gi_wp2
      go_end0
      exact ⟨⟨_, rfl⟩, .inl ⟨mms.take 58, List.take_of_length_le (by rw [mms_length]; omega), hJs⟩⟩
end Go.Proofs.YtkdiccedkjbpeaaGreatDoorR

/-
  sig.find answers the first method of the table of which a test holds, and whether there is one; nothing that was there is changed. Condition: the test answers as it is said to, for every method of the table, and changes nothing that was there.
-/
namespace Go.Proofs.YtkdiccedkjbpeaaGreatDoorR
open Go.RowKit Go.Maps Go.Shelf
attribute [local go_sem] Oper.semAt_some

theorem bx_grow {A A' : World} {row : Option Nat} {n B : Nat} {t : TypeId} {l : List Value} (h : Bx A B t l) (hg : A.grownBy A' row) (hr : ∀ r, row = some r → n ≤ r ∧ ∃ o : Obj, A.heap[r]? = some o ∧ o.isCells = false) : Bx A' B t l :=
  (hg.block B h.lt (fun e => by obtain ⟨-, o, ho, hc⟩ := hr B e.symm; rw [show A.heap[B]? = _ from h] at ho; cases ho; cases hc)).trans h
theorem bx_putObj {W : World} {l B : Nat} {t : TypeId} {o : Obj} (o' : Obj) (h : W.heap[l]? = some o) (hc : o.isCells = false) {xs : List Value} (hv : Bx W B t xs) : Bx (W.putObj l o') B t xs := by
  have hne : B ≠ l := fun e => by subst e; rw [show W.heap[B]? = _ from hv] at h; cases h; cases hc
  exact (World.putObj_heap_other hne).trans hv
theorem results_sb {fn : Func} {p q : Tmp} {tp tq : TypeId} (h : fn.results = #[.cell p tp, .cell q tq]) (tmps : Array Value) (P : Program) (w : World) :
    (results fn tmps).run P w =
      ((asAddr (tmps.getD p undef)).run P w).andThen fun a w₁ => ((loadVar tp a).run P w₁).andThen fun u w₂ => ((asAddr (tmps.getD q undef)).run P w₂).andThen fun b w₃ => ((loadVar tq b).run P w₃).andThen fun v w₄ => .ok (.tuple #[u, v]) w₄ := by
  simp only [results, h]
  simp [Sem.run_bind, Result.andThen]

def NoneOf (p : Met → Bool) (pre : List MM) : Prop := ∀ x ∈ pre, p x.1 = false
def FoundOf (p : Met → Bool) (W : World) (R : Nat) (pre : List MM) : Prop := ∃ q x, pre = q ++ [x] ∧ NoneOf p q ∧ p x.1 = true ∧ Bx W R 105 (cellsMet x.1)
theorem found_none {p : Met → Bool} (h : NoneOf p mms) : fst p = noMet ∧ mets.any p = false := by
  have hm : ∀ m ∈ mets, p m = false := fun m hm => h ⟨m, hm⟩ (List.mem_attach _ _)
  refine ⟨by rw [fst, List.find?_eq_none.2 (fun m hmm => by rw [hm m hmm]; simp)]; rfl, ?_⟩
  rw [List.any_eq_false]
  exact fun m hmm => by rw [hm m hmm]; simp
theorem found_list {p : Met → Bool} {l a b : List Met} {x : Met} (hl : l = a ++ x :: b) (h : ∀ m ∈ a, p m = false) (hx : p x = true) : (l.find? p).getD noMet = x ∧ l.any p = true := by
  subst hl
  constructor
  · rw [List.find?_append, List.find?_eq_none.2 (fun m hmm => by rw [h m hmm]; simp)]
    simp [hx]
  · rw [List.any_append, List.any_cons, hx]
    simp
theorem found_at {p : Met → Bool} {q : List MM} {x : MM} (hpre : q ++ [x] <+: mms) (h : NoneOf p q) (hx : p x.1 = true) : fst p = x.1 ∧ mets.any p = true := by
  obtain ⟨u, hu⟩ := hpre
  have e := congrArg (List.map Subtype.val) hu
  rw [mms_val, List.map_append, List.map_append, List.append_assoc] at e
  exact found_list e.symm (fun m hmm => by obtain ⟨y, hy, rfl⟩ := List.mem_map.1 hmm; exact h y hy) hx

set_option maxRecDepth 100000 in
set_option maxHeartbeats 2000000 in
theorem find_any (p : Met → Bool) (g B : Nat) (w : World) (he : ∀ args w, (callFunc g args).run Tryz.prog w = .ok (.enter g args) w)
    (hp : ∀ m ∈ mets, ∀ W, Below w.heap.size w W → Calls Tryz.prog g #[encMet m, .pointer (some ⟨B, 0, none⟩)] W fun e W' => e = .returned (.bool (p m)) ∧ Below W.heap.size W W') :
    Calls Tryz.prog 89 #[.func (.func g) #[] #[.pointer (some ⟨B, 0, none⟩)]] w fun e w' => e = .returned (.tuple #[encMet (fst p), .bool (mets.any p)]) ∧ Below w.heap.size w w' := by
  refine (callsIn_wide (n := 4)).1 ?_
  refine callsIn_of_wp_marks Tryz.func89 rfl trivial ?_ rfl
  simp only [Tryz.ntmps89, List.size_toArray, List.length_cons, List.length_nil, Nat.reduceAdd, Nat.reduceSub, Array.replicate_succ, Array.replicate_zero, List.push_toArray, List.append_toArray, List.nil_append, List.cons_append]
  gi_wp2_with fail
  obtain ⟨W0, hW0⟩ : ∃ W0, (((w.alloc (.cells #[.func (.func g) #[] #[.pointer (some ⟨B, 0, none⟩)]] 133)).alloc (.cells #[.int .i64 0, .int .i64 0, .string ⟨#[]⟩, .int .i64 0, .int .i64 0] 105)).alloc (.cells #[.bool false] 4)) = W0 := ⟨_, rfl⟩
  have q0 : Boxed W0 w.heap.size 133 (.func (.func g) #[] #[.pointer (some ⟨B, 0, none⟩)]) := by
    have h := Boxed.new w 133 (.func (.func g) #[] #[.pointer (some ⟨B, 0, none⟩)])
    rw [← hW0]
    exact (h.alloc _).alloc _
  have q1 : Bx W0 (w.heap.size + 1) 105 [.int .i64 0, .int .i64 0, .string ⟨#[]⟩, .int .i64 0, .int .i64 0] := by
    have h := Bx.new (w.alloc (.cells #[.func (.func g) #[] #[.pointer (some ⟨B, 0, none⟩)]] 133)) 105 [.int .i64 0, .int .i64 0, .string ⟨#[]⟩, .int .i64 0, .int .i64 0]
    rw [World.size_alloc] at h
    rw [← hW0]
    exact h.alloc _
  have q2 : Boxed W0 (w.heap.size + 1 + 1) 4 (.bool false) := by
    have h := Boxed.new ((w.alloc (.cells #[.func (.func g) #[] #[.pointer (some ⟨B, 0, none⟩)]] 133)).alloc (.cells #[.int .i64 0, .int .i64 0, .string ⟨#[]⟩, .int .i64 0, .int .i64 0] 105)) 4 (.bool false)
    rw [World.size_alloc, World.size_alloc] at h
    rw [← hW0]
    exact h
  have hb1 : Below w.heap.size w W0 := by rw [← hW0]; exact (((Below.refl _ w).alloc (Nat.le_refl _) _).alloc (by simp) _).alloc (by simp; omega) _
  have hsz : W0.heap.size = w.heap.size + 3 := by rw [← hW0]; simp
  rw [hW0]
  clear hW0
  have hbs := hb1.size
  refine wpIn_rangeFunc_ownH (α := MM) rfl (by decide) (gf := 109) (lb := #[]) rfl trivial (enters_of Tryz.func109 (by kernel_rfl) rfl)
    (encs := fun x => #[encMet x.1]) (Kp := fun _ _ => True) (S := fun ys => ys = mms) (Sp := fun pre => pre <+: mms) (N := 58) (w0 := W0)
    (fun l J Jx W hW hJa _ hY h0' => each_in l (fun _ _ => True) J Jx (fun pre A A' h hb => hJa pre A A' none h (grown_of_below hb none) (fun r e => by cases e)) hY W h0')
    (fun _ _ => trivial) (fun _ _ _ _ _ _ _ _ => trivial) (Below.refl _ _) (fun _ => rfl)
    (fun pre W => NoneOf p pre ∧ Below W0.heap.size W0 W)
    (fun c pre W => c = .ret ∧ FoundOf p W (w.heap.size + 1) pre ∧ Boxed W (w.heap.size + 1 + 1) 4 (.bool true) ∧ Below w.heap.size w W)
    (fun s A A' row hs hg hr => ⟨hs.1, below_grown hs.2 (Nat.le_refl _) (Nat.le_refl _) hg hr⟩)
    (fun c s A A' row hs hg hr => ⟨hs.1, by obtain ⟨q, x, h1, h2, h3, h4⟩ := hs.2.1; exact ⟨q, x, h1, h2, h3, bx_grow h4 hg hr⟩, boxed_grown hs.2.2.1 hg hr, below_grown hs.2.2.2 (Nat.le_refl _) hbs hg hr⟩)
    ⟨(fun _ h => by cases h), Below.refl _ _⟩
    (fun x a' W => ∃ Bq, Bx W Bq 105 (cellsMet x.1) ∧ W0.heap.size ≤ Bq ∧ a' = { tmps := #[.func (.func g) #[] #[.pointer (some ⟨B, 0, none⟩)], .pointer (some ⟨w.heap.size, 0, none⟩), .pointer (some ⟨w.heap.size + 1, 0, none⟩), .pointer (some ⟨w.heap.size + 1 + 1, 0, none⟩), .pointer (some ⟨Bq, 0, none⟩), encMet x.1, undef, undef, undef, undef, undef], defers := [] })
    (fun x a' _ A A' row hs hg hr => by obtain ⟨Bq, h2, h4, h3⟩ := hs; exact ⟨Bq, bx_grow h2 hg hr, h4, h3⟩)
    ?assign ?body ?done ?stop
  case assign =>
    rintro l pre ⟨⟨c1, i1, v, s, r⟩, hm⟩ W K ⟨i1', iB⟩ hK
    unfold encMet cellsMet at *
    dsimp only at *
    gi_wp2
    exact hK _ _ ((KeepsOthers.alloc _ _).from _) trivial ⟨i1', iB.alloc iB.size _⟩ ⟨W.heap.size, Bx.new W _ _, iB.size, rfl⟩
  case body =>
    rintro l pre ⟨m, hm⟩ a' W hl ⟨r, hr'⟩ ⟨i1, iB⟩ ⟨Bq, bX, hBx, rfl⟩ hlt
    have hC := hp m hm W (hb1.trans (iB.mono hbs))
    have p0 := (boxed_below q0 iB q0.lt)
    have c0 := p0.cell
    have HN : Hid (p m = false → NoneOf p (pre ++ [⟨m, hm⟩])) := Lib.hid (fun hq x hx => by
      rcases List.mem_append.1 hx with h | h
      · exact i1 x h
      · rw [List.mem_singleton.1 h]; exact hq)
    have HF : Hid (NoneOf p pre ∧ (⟨m, hm⟩ : MM).1 = m) := Lib.hid ⟨i1, rfl⟩
    dsimp only at bX ⊢
    generalize hxm : (⟨m, hm⟩ : MM) = xm at HN HF ⊢
    clear hxm
    have HP := Lib.hid (show p m = p xm.1 by rw [HF.out.2])
    generalize p m = pm at hC HN HP
    obtain ⟨c1, j1, v, s, k1⟩ := m
    unfold cellsMet at bX
    unfold encMet at hC ⊢
    dsimp only at bX hC ⊢
    have x0 := bX.cell 0 (by simp)
    have x1 := bX.cell 1 (by simp)
    have x2 := bX.cell 2 (by simp)
    have x3 := bX.cell 3 (by simp)
    have x4 := bX.cell 4 (by simp)
    dsimp only [List.getElem_cons_zero, List.getElem_cons_succ] at x0 x1 x2 x3 x4
    clear p0
    gi_wp2_with fail
    refine ⟨trivial, (CallsIn.inRound l (callsIn_wide.2 hC)).mono ?_⟩
    rintro e W1 ⟨rfl, hq⟩
    have iB1 := iB.trans (hq.mono iB.size)
    have bX1 := bX.kept hq
    have hk1 : KeepsFrom W0.heap.size W W1 := KeepsFrom.of_grownBy (grown_of_below hq none) (fun j e => by cases e)
    have p1 := q1.below iB1 q1.lt
    have p2 := boxed_below q2 iB1 q2.lt
    have hb2 := hb1.trans (iB1.mono hbs)
    clear x0 x1 x2 x3 x4 bX hC hq c0 iB hp he
    cases pm
    · have HN2 := Lib.hid (HN.out rfl)
      clear HN HF HP p1 p2 bX1
      gi_wp2
      exact ⟨hk1, trivial, HN2.out, iB1⟩
    · have x0 := bX1.cell 0 (by simp)
      have x1 := bX1.cell 1 (by simp)
      have x2 := bX1.cell 2 (by simp)
      have x3 := bX1.cell 3 (by simp)
      have x4 := bX1.cell 4 (by simp)
      dsimp only [List.getElem_cons_zero, List.getElem_cons_succ] at x0 x1 x2 x3 x4
      obtain ⟨a0, f0, a1, f1, a2, f2, a3, f3, a4, f4, bR⟩ := p1.store5 (.int .i64 c1) (.int .i64 j1) (.string v) (.int .i64 s) (.int .i64 k1)
      have hb3 := below_store5 hb2 (B := w.heap.size + 1) (by omega) (.int .i64 c1) (.int .i64 j1) (.string v) (.int .i64 s) (.int .i64 k1)
      have k2 : Boxed (((((W1.setCell ⟨w.heap.size + 1, 0, none⟩ (.int .i64 c1)).setCell ⟨w.heap.size + 1, 1, none⟩ (.int .i64 j1)).setCell ⟨w.heap.size + 1, 2, none⟩ (.string v)).setCell ⟨w.heap.size + 1, 3, none⟩ (.int .i64 s)).setCell ⟨w.heap.size + 1, 4, none⟩ (.int .i64 k1)) (w.heap.size + 1 + 1) 4 (.bool false) := ((((Bx.other (l := [.bool false]) p2 (by omega) 0 _).other (by omega) 1 _).other (by omega) 2 _).other (by omega) 3 _).other (by omega) 4 _
      have c2 := k2.cell
      have f5 := k2.frozen
      have s2 := k2.set (.bool true)
      have d1 := bR.other (B' := w.heap.size + 1 + 1) (by omega) 0 (.bool true)
      have hb4 := hb3.setCell (p := ⟨w.heap.size + 1 + 1, 0, none⟩) (by simp; omega) (.bool true)
      have hk0 := (((((KeepsOthers.setCell W1 ⟨w.heap.size + 1, 0, none⟩ (.int .i64 c1)).trans (KeepsOthers.setCell _ ⟨w.heap.size + 1, 1, none⟩ (.int .i64 j1))).trans (KeepsOthers.setCell _ ⟨w.heap.size + 1, 2, none⟩ (.string v))).trans (KeepsOthers.setCell _ ⟨w.heap.size + 1, 3, none⟩ (.int .i64 s))).trans (KeepsOthers.setCell _ ⟨w.heap.size + 1, 4, none⟩ (.int .i64 k1))).trans (KeepsOthers.setCell _ ⟨w.heap.size + 1 + 1, 0, none⟩ (.bool true))
      have hk2 := hk1.trans (hk0.from W0.heap.size)
      clear HN p1 p2 bX1 k2 bR hb2 hb3 iB1 hk1 hk0
      gi_wp2
      exact ⟨hk2, rfl, ⟨pre, xm, rfl, HF.out.1, HP.out.symm, by rw [HF.out.2]; exact d1⟩, s2, hb4⟩
  case done =>
    rintro D ys W hD rfl ⟨i1, iB⟩ hK
    have H := Lib.hid (found_none i1)
    have p1 := q1.below iB q1.lt
    have p2 := boxed_below q2 iB q2.lt
    have hb2 := hb1.trans (iB.mono hbs)
    obtain ⟨a0, f0, a1, f1, a2, f2, a3, f3, a4, f4, bR⟩ := p1.store5 (.int .i64 0) (.int .i64 0) (.string ⟨#[]⟩) (.int .i64 0) (.int .i64 0)
    have hb3 := below_store5 hb2 (B := w.heap.size + 1) (by omega) (.int .i64 0) (.int .i64 0) (.string ⟨#[]⟩) (.int .i64 0) (.int .i64 0)
    have k2 : Boxed (((((W.setCell ⟨w.heap.size + 1, 0, none⟩ (.int .i64 0)).setCell ⟨w.heap.size + 1, 1, none⟩ (.int .i64 0)).setCell ⟨w.heap.size + 1, 2, none⟩ (.string ⟨#[]⟩)).setCell ⟨w.heap.size + 1, 3, none⟩ (.int .i64 0)).setCell ⟨w.heap.size + 1, 4, none⟩ (.int .i64 0)) (w.heap.size + 1 + 1) 4 (.bool false) := ((((Bx.other (l := [.bool false]) p2 (by omega) 0 _).other (by omega) 1 _).other (by omega) 2 _).other (by omega) 3 _).other (by omega) 4 _
    have c2 := k2.cell
    have f5 := k2.frozen
    have s2 := k2.set (.bool false)
    have d1 := bR.other (B' := w.heap.size + 1 + 1) (by omega) 0 (.bool false)
    have hb4 := hb3.setCell (p := ⟨w.heap.size + 1 + 1, 0, none⟩) (by simp; omega) (.bool false)
    have hk0 := (((((KeepsOthers.setCell W ⟨w.heap.size + 1, 0, none⟩ (.int .i64 0)).trans (KeepsOthers.setCell _ ⟨w.heap.size + 1, 1, none⟩ (.int .i64 0))).trans (KeepsOthers.setCell _ ⟨w.heap.size + 1, 2, none⟩ (.string ⟨#[]⟩))).trans (KeepsOthers.setCell _ ⟨w.heap.size + 1, 3, none⟩ (.int .i64 0))).trans (KeepsOthers.setCell _ ⟨w.heap.size + 1, 4, none⟩ (.int .i64 0))).trans (KeepsOthers.setCell _ ⟨w.heap.size + 1 + 1, 0, none⟩ (.bool false))
    have hK' := hk0.same D _ hK rfl
    clear p1 p2 k2 bR hb2 hb3 iB i1 he hp hk0
    gi_wp2
    refine ⟨by simp, .inl ⟨_, _, rfl, run_takeDeferred hK', ?_⟩⟩
    have e1 := bx_putObj (.deferred none) hK' rfl d1
    have e2 := boxed_put (.deferred none) s2 hK' rfl
    have y0 := e1.cell 0 (by simp)
    have y1 := e1.cell 1 (by simp)
    have y2 := e1.cell 2 (by simp)
    have y3 := e1.cell 3 (by simp)
    have y4 := e1.cell 4 (by simp)
    dsimp only [List.getElem_cons_zero, List.getElem_cons_succ] at y0 y1 y2 y3 y4
    refine ⟨.tuple #[.agg #[.int .i64 0, .int .i64 0, .string ⟨#[]⟩, .int .i64 0, .int .i64 0], .bool false], ?_, by rw [H.out.1, H.out.2]; rfl, hb4.trans (belowK_b (w := w) (Nat.le_refl _) _ D _ _ (by omega) hK' rfl rfl)⟩
    rw [results_sb rfl]
    simp [asAddr, Result.andThen, go_sem, e2, y0, y1, y2, y3, y4]
  case stop =>
    rintro D c pre W hD hpre ⟨rfl, ⟨q, x, rfl, i1, i2, i3⟩, i4, iB⟩ hK
    have H := Lib.hid (found_at hpre i1 i2)
    clear i1 i2 hpre
    obtain ⟨⟨c1, j1, v, s, k1⟩, hm⟩ := x
    unfold cellsMet at i3
    dsimp only at i3 H
    gi_wp2
    refine ⟨by simp, .inl ⟨_, _, rfl, run_takeDeferred hK, ?_⟩⟩
    have e1 := bx_putObj (.deferred none) hK rfl i3
    have e2 := boxed_put (.deferred none) i4 hK rfl
    have y0 := e1.cell 0 (by simp)
    have y1 := e1.cell 1 (by simp)
    have y2 := e1.cell 2 (by simp)
    have y3 := e1.cell 3 (by simp)
    have y4 := e1.cell 4 (by simp)
    dsimp only [List.getElem_cons_zero, List.getElem_cons_succ] at y0 y1 y2 y3 y4
    refine ⟨.tuple #[.agg #[.int .i64 c1, .int .i64 j1, .string v, .int .i64 s, .int .i64 k1], .bool true], ?_, by rw [H.out.1, H.out.2]; rfl, iB.trans (belowK_b (w := w) (Nat.le_refl _) _ D _ _ (by omega) hK rfl rfl)⟩
    rw [results_sb rfl]
    simp [asAddr, Result.andThen, go_sem, e2, y0, y1, y2, y3, y4]
end Go.Proofs.YtkdiccedkjbpeaaGreatDoorR

/-
  sig.lookUp and Of answer what the table says of a class and an id; nothing that was there is changed. No condition.
-/
namespace Go.Proofs.YtkdiccedkjbpeaaGreatDoorR
open Go.RowKit Go.Maps Go.Shelf

theorem mets_small : ∀ m ∈ mets, 0 ≤ m.i ∧ m.i ≤ 1000 ∧ 0 ≤ m.r ∧ m.r ≤ 1000 :=
  mets_all (q := fun m => decide (0 ≤ m.i ∧ m.i ≤ 1000 ∧ 0 ≤ m.r ∧ m.r ≤ 1000)) (fun m h => of_decide_eq_true h) (by kernel_rfl)

set_option maxRecDepth 100000 in
set_option maxHeartbeats 2000000 in
theorem lookUp_any (c i : Int) (w : World) :
    Calls Tryz.prog 74 #[.int .i64 c, .int .i64 i] w fun e w' => e = .returned (.tuple #[encMet (fst (isAt c i)), .bool (sIs c i)]) ∧ Below w.heap.size w w' := by
  have hmf : ∀ (p : Value) (w : World), (Instr.makeFunc (.func 90) #[] #[p]).run Tryz.prog w = .ok (.func (.func 90) #[] #[p]) w := fun _ _ => by kernel_rfl
  have HI := Lib.hid (show sIs c i = mets.any (isAt c i) from rfl)
  have h1 := Bx.new (w.alloc (.cells #[.int .i64 0, .int .i64 0, .string ⟨#[]⟩, .int .i64 0, .int .i64 0] 105)) 130 (at2 c i)
  have h2 := (Bx.new w 105 [.int .i64 0, .int .i64 0, .string ⟨#[]⟩, .int .i64 0, .int .i64 0]).alloc (.cells (at2 c i).toArray 130)
  have hb : Below w.heap.size w ((w.alloc (.cells #[.int .i64 0, .int .i64 0, .string ⟨#[]⟩, .int .i64 0, .int .i64 0] 105)).alloc (.cells (at2 c i).toArray 130)) := ((Below.refl _ w).alloc (Nat.le_refl _) _).alloc (by simp) _
  rw [World.size_alloc] at h1
  have hF := find_any (isAt c i) 90 (w.heap.size + 1) ((w.alloc (.cells #[.int .i64 0, .int .i64 0, .string ⟨#[]⟩, .int .i64 0, .int .i64 0] 105)).alloc (.cells (at2 c i).toArray 130)) (enters_of Tryz.func90 (by kernel_rfl) rfl) (fun m hm W hW => look1_any m c i _ W (h1.kept hW))
  clear h1
  rw [← HI.out] at hF
  generalize sIs c i = q at hF
  generalize fst (isAt c i) = m at hF
  obtain ⟨c1, j1, v, s, k1⟩ := m
  unfold encMet at hF ⊢
  unfold at2 at hF h2 hb
  dsimp only at hF h2 hb ⊢
  have hbs := hb.size
  go_enter Tryz.func74, Tryz.ntmps74
  go_wp2_with fail
  refine hF.mono ?_
  rintro e w1 ⟨rfl, hq⟩
  have p1 := h2.kept hq
  have hb2 := hb.trans (hq.mono hbs)
  obtain ⟨a0, f0, a1, f1, a2, f2, a3, f3, a4, f4, bR⟩ := p1.store5 (.int .i64 c1) (.int .i64 j1) (.string v) (.int .i64 s) (.int .i64 k1)
  have hb3 := below_store5 hb2 (B := w.heap.size) (by omega) (.int .i64 c1) (.int .i64 j1) (.string v) (.int .i64 s) (.int .i64 k1)
  clear hF h2 hb hq p1 hb2 hbs
  go_wp2
  have y0 := bR.cell 0 (by simp)
  have y1 := bR.cell 1 (by simp)
  have y2 := bR.cell 2 (by simp)
  have y3 := bR.cell 3 (by simp)
  have y4 := bR.cell 4 (by simp)
  dsimp only [List.getElem_cons_zero, List.getElem_cons_succ] at y0 y1 y2 y3 y4
  refine bodyPost_ret (v := .tuple #[.agg #[.int .i64 c1, .int .i64 j1, .string v, .int .i64 s, .int .i64 k1], .bool q]) ?_ rfl ⟨rfl, hb3⟩
  rw [results_cell_tmp rfl]
  simp [asAddr, Result.andThen, go_sem, y0, y1, y2, y3, y4]

set_option maxHeartbeats 2000000 in
theorem of_any (c i : Int) (w : World) :
    Calls Tryz.prog 47 #[.int .i64 c, .int .i64 i] w fun e w' => e = .returned (.tuple #[.string (sOf c i), .bool (sIs c i)]) ∧ Below w.heap.size w w' := by
  have hF := lookUp_any c i w
  have HI := Lib.hid (show sOf c i = (fst (isAt c i)).v from rfl)
  generalize sOf c i = o at HI
  generalize fst (isAt c i) = m at hF HI
  generalize sIs c i = q at hF
  obtain ⟨c1, j1, v, s, k1⟩ := m
  unfold encMet at hF
  dsimp only at hF HI
  go_enter Tryz.func47, Tryz.ntmps47
  go_wp2_with fail
  refine hF.mono ?_
  rintro e w1 ⟨rfl, hb⟩
  clear hF
  go_wp2
  go_ret2
  exact ⟨by rw [HI.out]; rfl, hb.alloc hb.size _⟩

end Go.Proofs.YtkdiccedkjbpeaaGreatDoorR
