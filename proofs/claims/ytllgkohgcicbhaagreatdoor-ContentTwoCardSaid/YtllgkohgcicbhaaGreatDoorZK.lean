/-
  Several texts joined in one file: each says at its own head, below, what it proves, and its conditions.
-/
import Derived.Laws.ResultCell
import Derived.Deep.WholeRow
import Derived.Handy
import Derived.WalkKit
import Derived.WalkSpells
import Derived.WalkLawsBesides
import Derived.Lib.Hide
import Derived.Test.YtllgkohgcicbhaaGreatDoorZA
import Derived.Deep.RegionHeld3
import Derived.Laws.StructEq
import Derived.Deep.Onto
import Derived.Sort.QuietIn
import Derived.Shelf.Abstract
import Derived.Shelf.RegionOpen
import Derived.OwnWalkIn
import Derived.TacticsInMore
import Derived.LoopNIn
import Derived.LoopIn
import Derived.Maps.AppendAt
import Derived.Laws.EntriesVeiled
import Derived.Laws.BytesArg
/-
  sig.methods makes the table of methods; nothing that was there is changed. No condition.
-/
namespace Go.Proofs.YtllgkohgcicbhaaGreatDoor
open Go.RowKit

/-- a row of operations that only reckon, carried out -/
def reckon (P : Program) : List Oper → Act → World → Option (Act × World)
  | [], a, w => some (a, w)
  | o :: r, a, w => match o.guard, (execOp a.eval o).run P w with
    | none, .ok (.value v) w' => reckon P r (a.put o.dst v) w'
    | _, _ => none
theorem wpList_reckon {P : Program} {ops : Array Oper} {Q : Exit → Act → World → Prop} {rest : List Oper} : ∀ {l : List Oper} {a : Act} {w : World} {a' : Act} {w' : World}, reckon P l a w = some (a', w') → wpList P ops Q rest a' w' → wpList P ops Q (l ++ rest) a w
  | [], a, w, a', w', h, hr => by
    simp only [reckon, Option.some.injEq, Prod.mk.injEq] at h
    obtain ⟨rfl, rfl⟩ := h
    exact hr
  | o :: l, a, w, a', w', h, hr => by
    unfold reckon at h
    split at h
    · rename_i v w1 hg he
      refine wpList_plain hg fun K hK => ?_
      rw [Oper.wp, he, Oper.upon_value]
      exact hK _ _ (wpList_reckon h hr)
    · cases h

theorem wpList_reckon_n {P : Program} {ops : Array Oper} {Q : Exit → Act → World → Prop} {l : List Oper} {a : Act} {w : World} (n : Nat) {a' : Act} {w' : World} (h : reckon P (l.take n) a w = some (a', w')) (hr : wpList P ops Q (l.drop n) a' w') : wpList P ops Q l a w := by
  have := wpList_reckon h hr
  rwa [List.take_append_drop] at this
def zeroMets : Array Value := (rowMet (List.replicate 58 noMet)).toArray
theorem results_cell {fn : Func} {p : Tmp} {ty : TypeId} (h : fn.results = #[.cell p ty]) (tmps : Array Value) (P : Program) (w : World) :
    (results fn tmps).run P w = ((asAddr (tmps.getD p undef)).run P w).andThen fun a w₁ => (loadVar ty a).run P w₁ := by
  simp only [results, h]
  simp [Sem.run_bind, Result.andThen]
theorem sizeMets : (Tryz.prog.info? 217).map (·.size) = some (rowMet mets).toArray.size := by kernel_rfl
theorem oneMets : (rowMet mets).toArray.all (·.oneCell') = true := by kernel_rfl
theorem zeroMets_size : zeroMets.size = (rowMet mets).toArray.size := by kernel_rfl

set_option maxRecDepth 100000 in
set_option maxHeartbeats 2000000 in
theorem methods_any (w : World) :
    Calls Tryz.prog 150 #[] w fun e w' => e = .returned (.agg (rowMet mets).toArray) ∧ Below w.heap.size w w' := by
  go_enter Tryz.func150, Tryz.ntmps150
  refine wp_seq (wp_region_lit (wpList_reckon_n 1 (a' := ⟨(.pointer (some ⟨w.heap.size, 0, none⟩) :: List.replicate 59 undef).toArray, []⟩) (w' := w.alloc (.cells zeroMets 217)) (by kernel_rfl) ?_))
  refine wpList_nil ?_
  show Code.wp _ _ _ _ _
  refine wp_seq (wp_region_lit (wpList_reckon_n 59 (a' := ⟨(Value.pointer (some ⟨w.heap.size, 0, none⟩) :: (mets.map encMet ++ [Value.agg (rowMet mets).toArray])).toArray, []⟩) (w' := w.alloc (.cells zeroMets 217)) (by kernel_rfl) ?_))
  simp only [List.drop_succ_cons, List.drop_zero]
  refine wpList_plain rfl fun K hK => ?_
  have hs := run_storeAt_new (P := Tryz.prog) w 217 zeroMets (rowMet mets).toArray sizeMets zeroMets_size oneMets
  have he : ∀ (ρ : Operand → Value) (o : Oper) (x y : Operand), o.op = .store 217 x y → ρ x = .pointer (some ⟨w.heap.size, 0, none⟩) → ρ y = .agg (rowMet mets).toArray → (execOp ρ o).run Tryz.prog (w.alloc (.cells zeroMets 217)) = .ok .skip (w.alloc (.cells (rowMet mets).toArray 217)) := by
    intro ρ o x y ho hx hy
    unfold execOp
    rw [ho]
    simp only [hx, hy, Sem.run_bind, hs, Result.andThen]
    rfl
  rw [Oper.wp, he _ _ _ _ rfl (by kernel_rfl) (by kernel_rfl), Oper.upon_skip]
  refine hK _ _ (wpList_nil ?_)
  show Code.wp _ _ _ _ _
  refine wp_ret ?_
  refine bodyPost_ret (v := .agg (rowMet mets).toArray) ?_ rfl ⟨rfl, (Below.refl _ w).alloc (Nat.le_refl _) _⟩
  rw [results_cell rfl]
  have ha : (asAddr (.pointer (some ⟨w.heap.size, 0, none⟩))).run Tryz.prog (w.alloc (.cells (rowMet mets).toArray 217)) = .ok ⟨w.heap.size, 0, none⟩ (w.alloc (.cells (rowMet mets).toArray 217)) := rfl
  refine (congrArg (fun x => Result.andThen x _) ha).trans ?_
  exact run_loadVar_new w 217 (rowMet mets).toArray 58 153 Tryz.underlying217 sizeMets
end Go.Proofs.YtllgkohgcicbhaaGreatDoor

/-
  A method's place, and the test by which a method is looked up; nothing that was there is changed. Condition: the place that is looked for stands in a box.
-/
namespace Go.Proofs.YtllgkohgcicbhaaGreatDoor
open Go.RowKit

def at2 (c i : Int) : List Value := [.int .i64 c, .int .i64 i]
set_option maxHeartbeats 2000000 in
theorem at_any (m : Met) (w : World) :
    Calls Tryz.prog 111 #[encMet m] w fun e w' => e = .returned (.agg #[.int .i64 m.c, .int .i64 m.i]) ∧ Below w.heap.size w w' := by
  obtain ⟨c, i, v, s, r⟩ := m
  unfold encMet
  dsimp only
  go_enter Tryz.func111, Tryz.ntmps111
  go_wp2
  refine bodyPost_ret (v := .agg #[.int .i64 c, .int .i64 i]) ?_ rfl ⟨rfl, ?_⟩
  · rw [results_cell rfl]
    simp [asAddr, Result.andThen, go_sem]
  · exact (((Below.refl _ w).alloc (Nat.le_refl _) _).alloc (by simp) _)

theorem eq2 (a b c d : Int) (w : World) : (Op.equalIn 10000 140 (.agg #[.int .i64 a, .int .i64 b]) (.agg #[.int .i64 c, .int .i64 d])).run Tryz.prog w = .ok (a == c && b == d) w := by
  have u3 := Tryz.underlying3
  have a3 := Tryz.isAgg3
  have z3 := Tryz.sizeOf3
  rw [show (10000 : Nat) = 9999 + 1 from rfl, Op.equalIn]
  simp only [Sem.run_bind, run_underlying Tryz.underlying140, Result.andThen_ok]
  simp only [Std.Legacy.Range.forIn_eq_forIn_range', Std.Legacy.Range.size, Nat.sub_zero, Nat.add_sub_cancel, Nat.div_one, List.range'_succ, List.range'_zero, List.forIn_cons, List.forIn_nil]
  go_simp
  by_cases h1 : a = c <;> by_cases h2 : b = d <;> simp [h1, h2]

set_option maxHeartbeats 2000000 in
theorem look1_any (m : Met) (c i : Int) (B : Nat) (w : World) (hB : Bx w B 140 (at2 c i)) :
    Calls Tryz.prog 110 #[encMet m, .pointer (some ⟨B, 0, none⟩)] w fun e w' => e = .returned (.bool (isAt c i m)) ∧ Below w.heap.size w w' := by
  have hA := at_any m
  have hE : ∀ w, (Op.equalIn 10000 140 (.agg #[.int .i64 m.c, .int .i64 m.i]) (.agg #[.int .i64 c, .int .i64 i])).run Tryz.prog w = .ok (isAt c i m) w := fun w => eq2 _ _ _ _ w
  have h1 := hB.alloc (.cells (cellsMet m).toArray 153)
  have h2 := Bx.new w 153 (cellsMet m)
  have hb : Below w.heap.size w (w.alloc (.cells (cellsMet m).toArray 153)) := (Below.refl _ w).alloc (Nat.le_refl _) _
  generalize isAt c i m = q at hE
  obtain ⟨c1, i1, v, s, r⟩ := m
  unfold encMet at hA ⊢
  unfold cellsMet at h1 h2 hb
  dsimp only at hA hE h1 h2 hb ⊢
  go_enter Tryz.func110, Tryz.ntmps110
  go_wp2_with fail
  generalize w.alloc (.cells #[.int .i64 c1, .int .i64 i1, .string v, .int .i64 s, .int .i64 r] 153) = w9 at h1 h2 hb
  have keep : ∀ w', Below w9.heap.size w9 w' → w'.cell? ⟨w.heap.size, 0, none⟩ = some (.int .i64 c1) ∧ w'.cell? ⟨w.heap.size, 1, none⟩ = some (.int .i64 i1) ∧ w'.cell? ⟨w.heap.size, 2, none⟩ = some (.string v) ∧ w'.cell? ⟨w.heap.size, 3, none⟩ = some (.int .i64 s) ∧ w'.cell? ⟨w.heap.size, 4, none⟩ = some (.int .i64 r) ∧ w'.cell? ⟨B, 0, none⟩ = some (.int .i64 c) ∧ w'.cell? ⟨B, 1, none⟩ = some (.int .i64 i) := fun w' h => ⟨(h2.kept h).cell 0 (by simp), (h2.kept h).cell 1 (by simp), (h2.kept h).cell 2 (by simp), (h2.kept h).cell 3 (by simp), (h2.kept h).cell 4 (by simp), (h1.kept h).cell 0 (by simp [at2]), (h1.kept h).cell 1 (by simp [at2])⟩
  obtain ⟨x0, x1, x2, x3, x4, y0, y1⟩ := keep w9 (Below.refl _ _)
  have hbs := hb.size
  clear h1 h2 hB
  go_region_held3 (fun w' => w'.cell? ⟨w.heap.size, 0, none⟩ = some (.int .i64 c1) ∧ w'.cell? ⟨w.heap.size, 1, none⟩ = some (.int .i64 i1) ∧ w'.cell? ⟨w.heap.size, 2, none⟩ = some (.string v) ∧ w'.cell? ⟨w.heap.size, 3, none⟩ = some (.int .i64 s) ∧ w'.cell? ⟨w.heap.size, 4, none⟩ = some (.int .i64 r) ∧ w'.cell? ⟨B, 0, none⟩ = some (.int .i64 c) ∧ w'.cell? ⟨B, 1, none⟩ = some (.int .i64 i)) (first | go_keep | (exact keep _ ⟨hq.os, hq.tape, hq.output, hq.size, hq.block⟩)) (first | (go_at_call 111; refine (hA _).mono ?_; rintro e w10 ⟨rfl, hq⟩))
  have hf : Below w9.heap.size w9 w10 := ⟨hq.os, hq.tape, hq.output, hq.size, hq.block⟩
  go_wp2
  go_ret
  exact ⟨rfl, hb.trans (hf.mono hbs)⟩

end Go.Proofs.YtllgkohgcicbhaaGreatDoor

/-
  sig.each gives the methods of the table one after the other, till it is told to stop. No condition.
-/
namespace Go.Proofs.YtllgkohgcicbhaaGreatDoor
open Go.RowKit Go.Maps Go.Shelf
attribute [local go_sem] Oper.semAt_some

theorem mets_length : mets.length = 58 := by kernel_rfl
/-- a method of the table -/
abbrev MM := { m : Met // m ∈ mets }
def mms : List MM := mets.attach
theorem mms_length : mms.length = 58 := by rw [mms, List.length_attach, mets_length]
theorem mms_val : mms.map Subtype.val = mets := List.attach_map_subtype_val mets

theorem rowMet_at : ∀ (l : List Met) (k : Nat) (hk : k < l.length), ((rowMet l).drop (k * 5)).take 5 = cellsMet l[k]
  | [], k, hk => absurd hk (by simp)
  | m :: l, 0, _ => rfl
  | m :: l, k + 1, hk => by
    have ih := rowMet_at l k (by simpa using hk)
    have e : (k + 1) * 5 = 5 + k * 5 := by omega
    rw [e, ← List.drop_drop]
    exact ih
theorem isAggMet : ∀ w, (isAgg 153).run Tryz.prog w = .ok true w := fun w => by kernel_rfl
theorem sizeOfMet : ∀ w, (sizeOf 153).run Tryz.prog w = .ok 5 w := fun w => by kernel_rfl
theorem index_mets (k : Nat) (hk : k < 58) (w : World) : (Instr.index 217 (.agg (rowMet mets).toArray) (.int .i64 (k : Int))).run Tryz.prog w = .ok (encMet (mets[k]'(by rw [mets_length]; exact hk))) w := by
  have h := rowMet_at mets k (by rw [mets_length]; exact hk)
  have he : (rowMet mets).toArray.extract (k * 5) (k * 5 + 5) = (cellsMet (mets[k]'(by rw [mets_length]; exact hk))).toArray := by
    rw [← h, List.extract_toArray, List.extract_eq_take_drop, Nat.add_sub_cancel_left]
  simp only [Instr.index, Sem.run_bind, asIntOf, run_underlying Tryz.underlying217, Result.andThen_ok, Sem.run_pure]
  rw [if_pos (by omega)]
  simp only [part, Sem.run_bind, sizeOfMet, isAggMet, Result.andThen_ok, Sem.run_pure, Int.toNat_natCast, if_true, he]
  rfl

set_option maxRecDepth 100000 in
set_option maxHeartbeats 2000000 in
theorem each_in (l : Nat) (Kp : World → World → Prop) (J Jx : List MM → World → Prop)
    (hJ : ∀ pre W W', J pre W → Below W.heap.size W W' → J pre W')
    (hY : ∀ pre x W, J pre W → pre.length < 58 → YieldAt Fence.wide 2 Tryz.prog l #[encMet x.1] W fun e W' =>
      (e = .returned (.bool true) ∧ J (pre ++ [x]) W' ∧ Kp W W') ∨ (e = .returned (.bool false) ∧ Jx (pre ++ [x]) W'))
    (W : World) (hJ0 : J [] W) :
    CallsIn Fence.wide 3 Tryz.prog 136 #[.func (.yield l) #[] #[]] W fun e W' => (∃ v, e = .returned v) ∧
      ((∃ ys, ys = mms ∧ J ys W') ∨ (∃ pre, pre <+: mms ∧ Jx pre W')) := by
  refine callsIn_of_wp Tryz.func136 rfl trivial ?_ rfl
  simp only [Tryz.ntmps136, List.size_toArray, List.length_cons, List.length_nil, Nat.reduceAdd, Nat.reduceSub, Array.replicate_succ, Array.replicate_zero, List.push_toArray, List.append_toArray, List.nil_append, List.cons_append]
  gi_wp2_with fail
  refine ⟨trivial, (callsIn_wide.2 (methods_any W)).mono ?_⟩
  rintro e w2 ⟨rfl, hb⟩
  have hJ1 := hJ _ _ _ hJ0 hb
  clear hJ0 hb
  have hidx := index_mets
  generalize (rowMet mets).toArray = T at hidx ⊢
  gi_wp2_with fail
  gi_loopw [5] (fun p wr => ∃ k : Nat, k ≤ 58 ∧ p = .int .i64 k ∧ J (mms.take k) wr) (fun p _ => 58 - (intOf p).toNat)
  case atStart => exact ⟨0, Nat.zero_le _, rfl, hJ1⟩
  case round =>
    obtain ⟨k, hk, rfl, hJs⟩ := hrel
    by_cases hlt : k < 58
    · have hx := hidx k hlt
      have hkm : k < mms.length := by rw [mms_length]; exact hlt
      have hkk : k < mets.length := by rw [mets_length]; exact hlt
      have hv : mms[k].1 = mets[k] := by simp [mms]
      have HT : Hid (mms.take k ++ [mms[k]] = mms.take (k + 1)) := Lib.hid (by rw [List.take_add_one, List.getElem?_eq_getElem hkm]; rfl)
      have HP : Hid (mms.take k ++ [mms[k]] <+: mms) := Lib.hid (by rw [HT.out]; exact List.take_prefix _ _)
      have hl : (mms.take k).length < 58 := by rw [List.length_take]; omega
      have hJ3 := hJ _ wr _ hJs ((Below.refl _ _).alloc (Nat.le_refl _) (.cells (cellsMet mets[k]).toArray 153))
      obtain ⟨fn, tmps, assign, body', hy, hR⟩ := hY _ mms[k] _ hJ3 hl
      rw [hv] at hy
      clear hidx hJs hJ3 hl
      generalize mms.take k ++ [mms[k]] = nx at HT HP hR
      clear hv
      rcases hmk : mets[k] with ⟨c1, i1, v, s, r⟩
      rw [hmk] at hx hy hR
      unfold encMet at hx hy
      unfold cellsMet at hy hR
      dsimp only at hx hy hR
      clear hmk
      have e1 : IntKind.i64.wrap ((k : Int) + 1) = ((k + 1 : Nat) : Int) := by simp only [IntKind.wrap_i64]; omega
      gi_wp2
      refine hR.mono ?_
      rintro e W3 (⟨rfl, hJ3, hk3⟩ | ⟨rfl, hJx3⟩)
      · rw [HT.out] at hJ3
        gi_wp2
        go_roundw
        case rel => exact ⟨k + 1, hlt, rfl, hJ3⟩
        case measure => simp only [intOf]; omega
      · gi_wp2
        refine bodyPost_ret (results_none rfl _ _ _) rfl ?_
        exact ⟨⟨_, rfl⟩, .inr ⟨nx, HP.out, hJx3⟩⟩
    · obtain rfl : k = 58 := by omega
      gi_wp2
      go_end0
      exact ⟨⟨_, rfl⟩, .inl ⟨mms.take 58, List.take_of_length_le (by rw [mms_length]; omega), hJs⟩⟩
end Go.Proofs.YtllgkohgcicbhaaGreatDoor

/-
  sig.find answers the first method of the table of which a test holds, and whether there is one; nothing that was there is changed. Condition: the test answers as it is said to, for every method of the table, and changes nothing that was there.
-/
namespace Go.Proofs.YtllgkohgcicbhaaGreatDoor
open Go.RowKit Go.Maps Go.Shelf
attribute [local go_sem] Oper.semAt_some

theorem bx_grow {A A' : World} {row : Option Nat} {n B : Nat} {t : TypeId} {l : List Value} (h : Bx A B t l) (hg : A.grownBy A' row) (hr : ∀ r, row = some r → n ≤ r ∧ ∃ o : Obj, A.heap[r]? = some o ∧ o.isCells = false) : Bx A' B t l :=
  (hg.block B h.lt (fun e => by obtain ⟨-, o, ho, hc⟩ := hr B e.symm; rw [show A.heap[B]? = _ from h] at ho; cases ho; cases hc)).trans h
theorem bx_putObj {W : World} {l B : Nat} {t : TypeId} {o : Obj} (o' : Obj) (h : W.heap[l]? = some o) (hc : o.isCells = false) {xs : List Value} (hv : Bx W B t xs) : Bx (W.putObj l o') B t xs := by
  have hne : B ≠ l := fun e => by subst e; rw [show W.heap[B]? = _ from hv] at h; cases h; cases hc
  exact (World.putObj_heap_other hne).trans hv
theorem results_sb {fn : Func} {p q : Tmp} {tp tq : TypeId} (h : fn.results = #[.cell p tp, .cell q tq]) (tmps : Array Value) (P : Program) (w : World) :
    (results fn tmps).run P w =
      ((asAddr (tmps.getD p undef)).run P w).andThen fun a w₁ => ((loadVar tp a).run P w₁).andThen fun u w₂ => ((asAddr (tmps.getD q undef)).run P w₂).andThen fun b w₃ => ((loadVar tq b).run P w₃).andThen fun v w₄ => .ok (.tuple #[u, v]) w₄ := by
  simp only [results, h]
  simp [Sem.run_bind, Result.andThen]

def NoneOf (p : Met → Bool) (pre : List MM) : Prop := ∀ x ∈ pre, p x.1 = false
def FoundOf (p : Met → Bool) (W : World) (R : Nat) (pre : List MM) : Prop := ∃ q x, pre = q ++ [x] ∧ NoneOf p q ∧ p x.1 = true ∧ Bx W R 153 (cellsMet x.1)
theorem found_none {p : Met → Bool} (h : NoneOf p mms) : fst p = noMet ∧ mets.any p = false := by
  have hm : ∀ m ∈ mets, p m = false := fun m hm => h ⟨m, hm⟩ (List.mem_attach _ _)
  refine ⟨by rw [fst, List.find?_eq_none.2 (fun m hmm => by rw [hm m hmm]; simp)]; rfl, ?_⟩
  rw [List.any_eq_false]
  exact fun m hmm => by rw [hm m hmm]; simp
theorem found_list {p : Met → Bool} {l a b : List Met} {x : Met} (hl : l = a ++ x :: b) (h : ∀ m ∈ a, p m = false) (hx : p x = true) : (l.find? p).getD noMet = x ∧ l.any p = true := by
  subst hl
  constructor
  · rw [List.find?_append, List.find?_eq_none.2 (fun m hmm => by rw [h m hmm]; simp)]
    simp [hx]
  · rw [List.any_append, List.any_cons, hx]
    simp
theorem found_at {p : Met → Bool} {q : List MM} {x : MM} (hpre : q ++ [x] <+: mms) (h : NoneOf p q) (hx : p x.1 = true) : fst p = x.1 ∧ mets.any p = true := by
  obtain ⟨u, hu⟩ := hpre
  have e := congrArg (List.map Subtype.val) hu
  rw [mms_val, List.map_append, List.map_append, List.append_assoc] at e
  exact found_list e.symm (fun m hmm => by obtain ⟨y, hy, rfl⟩ := List.mem_map.1 hmm; exact h y hy) hx

set_option maxRecDepth 100000 in
set_option maxHeartbeats 2000000 in
theorem find_any (p : Met → Bool) (g B : Nat) (w : World) (he : ∀ args w, (callFunc g args).run Tryz.prog w = .ok (.enter g args) w)
    (hp : ∀ m ∈ mets, ∀ W, Below w.heap.size w W → Calls Tryz.prog g #[encMet m, .pointer (some ⟨B, 0, none⟩)] W fun e W' => e = .returned (.bool (p m)) ∧ Below W.heap.size W W') :
    Calls Tryz.prog 109 #[.func (.func g) #[] #[.pointer (some ⟨B, 0, none⟩)]] w fun e w' => e = .returned (.tuple #[encMet (fst p), .bool (mets.any p)]) ∧ Below w.heap.size w w' := by
  refine (callsIn_wide (n := 4)).1 ?_
  refine callsIn_of_wp_marks Tryz.func109 rfl trivial ?_ rfl
  simp only [Tryz.ntmps109, List.size_toArray, List.length_cons, List.length_nil, Nat.reduceAdd, Nat.reduceSub, Array.replicate_succ, Array.replicate_zero, List.push_toArray, List.append_toArray, List.nil_append, List.cons_append]
  gi_wp2_with fail
  obtain ⟨W0, hW0⟩ : ∃ W0, (((w.alloc (.cells #[.func (.func g) #[] #[.pointer (some ⟨B, 0, none⟩)]] 182)).alloc (.cells #[.int .i64 0, .int .i64 0, .string ⟨#[]⟩, .int .i64 0, .int .i64 0] 153)).alloc (.cells #[.bool false] 4)) = W0 := ⟨_, rfl⟩
  have q0 : Boxed W0 w.heap.size 182 (.func (.func g) #[] #[.pointer (some ⟨B, 0, none⟩)]) := by
    have h := Boxed.new w 182 (.func (.func g) #[] #[.pointer (some ⟨B, 0, none⟩)])
    rw [← hW0]
    exact (h.alloc _).alloc _
  have q1 : Bx W0 (w.heap.size + 1) 153 [.int .i64 0, .int .i64 0, .string ⟨#[]⟩, .int .i64 0, .int .i64 0] := by
    have h := Bx.new (w.alloc (.cells #[.func (.func g) #[] #[.pointer (some ⟨B, 0, none⟩)]] 182)) 153 [.int .i64 0, .int .i64 0, .string ⟨#[]⟩, .int .i64 0, .int .i64 0]
    rw [World.size_alloc] at h
    rw [← hW0]
    exact h.alloc _
  have q2 : Boxed W0 (w.heap.size + 1 + 1) 4 (.bool false) := by
    have h := Boxed.new ((w.alloc (.cells #[.func (.func g) #[] #[.pointer (some ⟨B, 0, none⟩)]] 182)).alloc (.cells #[.int .i64 0, .int .i64 0, .string ⟨#[]⟩, .int .i64 0, .int .i64 0] 153)) 4 (.bool false)
    rw [World.size_alloc, World.size_alloc] at h
    rw [← hW0]
    exact h
  have hb1 : Below w.heap.size w W0 := by rw [← hW0]; exact (((Below.refl _ w).alloc (Nat.le_refl _) _).alloc (by simp) _).alloc (by simp; omega) _
  have hsz : W0.heap.size = w.heap.size + 3 := by rw [← hW0]; simp
  rw [hW0]
  clear hW0
  have hbs := hb1.size
  refine wpIn_rangeFunc_ownH (α := MM) rfl (by decide) (gf := 136) (lb := #[]) rfl trivial (enters_of Tryz.func136 (by kernel_rfl) rfl)
    (encs := fun x => #[encMet x.1]) (Kp := fun _ _ => True) (S := fun ys => ys = mms) (Sp := fun pre => pre <+: mms) (N := 58) (w0 := W0)
    (fun l J Jx W hW hJa _ hY h0' => each_in l (fun _ _ => True) J Jx (fun pre A A' h hb => hJa pre A A' none h (grown_of_below hb none) (fun r e => by cases e)) hY W h0')
    (fun _ _ => trivial) (fun _ _ _ _ _ _ _ _ => trivial) (Below.refl _ _) (fun _ => rfl)
    (fun pre W => NoneOf p pre ∧ Below W0.heap.size W0 W)
    (fun c pre W => c = .ret ∧ FoundOf p W (w.heap.size + 1) pre ∧ Boxed W (w.heap.size + 1 + 1) 4 (.bool true) ∧ Below w.heap.size w W)
    (fun s A A' row hs hg hr => ⟨hs.1, below_grown hs.2 (Nat.le_refl _) (Nat.le_refl _) hg hr⟩)
    (fun c s A A' row hs hg hr => ⟨hs.1, by obtain ⟨q, x, h1, h2, h3, h4⟩ := hs.2.1; exact ⟨q, x, h1, h2, h3, bx_grow h4 hg hr⟩, boxed_grown hs.2.2.1 hg hr, below_grown hs.2.2.2 (Nat.le_refl _) hbs hg hr⟩)
    ⟨(fun _ h => by cases h), Below.refl _ _⟩
    (fun x a' W => ∃ Bq, Bx W Bq 153 (cellsMet x.1) ∧ W0.heap.size ≤ Bq ∧ a' = { tmps := #[.func (.func g) #[] #[.pointer (some ⟨B, 0, none⟩)], .pointer (some ⟨w.heap.size, 0, none⟩), .pointer (some ⟨w.heap.size + 1, 0, none⟩), .pointer (some ⟨w.heap.size + 1 + 1, 0, none⟩), .pointer (some ⟨Bq, 0, none⟩), encMet x.1, undef, undef, undef, undef, undef], defers := [] })
    (fun x a' _ A A' row hs hg hr => by obtain ⟨Bq, h2, h4, h3⟩ := hs; exact ⟨Bq, bx_grow h2 hg hr, h4, h3⟩)
    ?assign ?body ?done ?stop
  case assign =>
    rintro l pre ⟨⟨c1, i1, v, s, r⟩, hm⟩ W K ⟨i1', iB⟩ hK
    unfold encMet cellsMet at *
    dsimp only at *
    gi_wp2
    exact hK _ _ ((KeepsOthers.alloc _ _).from _) trivial ⟨i1', iB.alloc iB.size _⟩ ⟨W.heap.size, Bx.new W _ _, iB.size, rfl⟩
  case body =>
    rintro l pre ⟨m, hm⟩ a' W hl ⟨r, hr'⟩ ⟨i1, iB⟩ ⟨Bq, bX, hBx, rfl⟩ hlt
    have hC := hp m hm W (hb1.trans (iB.mono hbs))
    have p0 := (boxed_below q0 iB q0.lt)
    have c0 := p0.cell
    have HN : Hid (p m = false → NoneOf p (pre ++ [⟨m, hm⟩])) := Lib.hid (fun hq x hx => by
      rcases List.mem_append.1 hx with h | h
      · exact i1 x h
      · rw [List.mem_singleton.1 h]; exact hq)
    have HF : Hid (NoneOf p pre ∧ (⟨m, hm⟩ : MM).1 = m) := Lib.hid ⟨i1, rfl⟩
    dsimp only at bX ⊢
    generalize hxm : (⟨m, hm⟩ : MM) = xm at HN HF ⊢
    clear hxm
    have HP := Lib.hid (show p m = p xm.1 by rw [HF.out.2])
    generalize p m = pm at hC HN HP
    obtain ⟨c1, j1, v, s, k1⟩ := m
    unfold cellsMet at bX
    unfold encMet at hC ⊢
    dsimp only at bX hC ⊢
    have x0 := bX.cell 0 (by simp)
    have x1 := bX.cell 1 (by simp)
    have x2 := bX.cell 2 (by simp)
    have x3 := bX.cell 3 (by simp)
    have x4 := bX.cell 4 (by simp)
    dsimp only [List.getElem_cons_zero, List.getElem_cons_succ] at x0 x1 x2 x3 x4
    clear p0
    gi_wp2_with fail
    refine ⟨trivial, (CallsIn.inRound l (callsIn_wide.2 hC)).mono ?_⟩
    rintro e W1 ⟨rfl, hq⟩
    have iB1 := iB.trans (hq.mono iB.size)
    have bX1 := bX.kept hq
    have hk1 : KeepsFrom W0.heap.size W W1 := KeepsFrom.of_grownBy (grown_of_below hq none) (fun j e => by cases e)
    have p1 := q1.below iB1 q1.lt
    have p2 := boxed_below q2 iB1 q2.lt
    have hb2 := hb1.trans (iB1.mono hbs)
    clear x0 x1 x2 x3 x4 bX hC hq c0 iB hp he
    cases pm
    · have HN2 := Lib.hid (HN.out rfl)
      clear HN HF HP p1 p2 bX1
      gi_wp2
      exact ⟨hk1, trivial, HN2.out, iB1⟩
    · have x0 := bX1.cell 0 (by simp)
      have x1 := bX1.cell 1 (by simp)
      have x2 := bX1.cell 2 (by simp)
      have x3 := bX1.cell 3 (by simp)
      have x4 := bX1.cell 4 (by simp)
      dsimp only [List.getElem_cons_zero, List.getElem_cons_succ] at x0 x1 x2 x3 x4
      obtain ⟨a0, f0, a1, f1, a2, f2, a3, f3, a4, f4, bR⟩ := p1.store5 (.int .i64 c1) (.int .i64 j1) (.string v) (.int .i64 s) (.int .i64 k1)
      have hb3 := below_store5 hb2 (B := w.heap.size + 1) (by omega) (.int .i64 c1) (.int .i64 j1) (.string v) (.int .i64 s) (.int .i64 k1)
      have k2 : Boxed (((((W1.setCell ⟨w.heap.size + 1, 0, none⟩ (.int .i64 c1)).setCell ⟨w.heap.size + 1, 1, none⟩ (.int .i64 j1)).setCell ⟨w.heap.size + 1, 2, none⟩ (.string v)).setCell ⟨w.heap.size + 1, 3, none⟩ (.int .i64 s)).setCell ⟨w.heap.size + 1, 4, none⟩ (.int .i64 k1)) (w.heap.size + 1 + 1) 4 (.bool false) := ((((Bx.other (l := [.bool false]) p2 (by omega) 0 _).other (by omega) 1 _).other (by omega) 2 _).other (by omega) 3 _).other (by omega) 4 _
      have c2 := k2.cell
      have f5 := k2.frozen
      have s2 := k2.set (.bool true)
      have d1 := bR.other (B' := w.heap.size + 1 + 1) (by omega) 0 (.bool true)
      have hb4 := hb3.setCell (p := ⟨w.heap.size + 1 + 1, 0, none⟩) (by simp; omega) (.bool true)
      have hk0 := (((((KeepsOthers.setCell W1 ⟨w.heap.size + 1, 0, none⟩ (.int .i64 c1)).trans (KeepsOthers.setCell _ ⟨w.heap.size + 1, 1, none⟩ (.int .i64 j1))).trans (KeepsOthers.setCell _ ⟨w.heap.size + 1, 2, none⟩ (.string v))).trans (KeepsOthers.setCell _ ⟨w.heap.size + 1, 3, none⟩ (.int .i64 s))).trans (KeepsOthers.setCell _ ⟨w.heap.size + 1, 4, none⟩ (.int .i64 k1))).trans (KeepsOthers.setCell _ ⟨w.heap.size + 1 + 1, 0, none⟩ (.bool true))
      have hk2 := hk1.trans (hk0.from W0.heap.size)
      clear HN p1 p2 bX1 k2 bR hb2 hb3 iB1 hk1 hk0
      gi_wp2
      exact ⟨hk2, rfl, ⟨pre, xm, rfl, HF.out.1, HP.out.symm, by rw [HF.out.2]; exact d1⟩, s2, hb4⟩
  case done =>
    rintro D ys W hD rfl ⟨i1, iB⟩ hK
    have H := Lib.hid (found_none i1)
    have p1 := q1.below iB q1.lt
    have p2 := boxed_below q2 iB q2.lt
    have hb2 := hb1.trans (iB.mono hbs)
    obtain ⟨a0, f0, a1, f1, a2, f2, a3, f3, a4, f4, bR⟩ := p1.store5 (.int .i64 0) (.int .i64 0) (.string ⟨#[]⟩) (.int .i64 0) (.int .i64 0)
    have hb3 := below_store5 hb2 (B := w.heap.size + 1) (by omega) (.int .i64 0) (.int .i64 0) (.string ⟨#[]⟩) (.int .i64 0) (.int .i64 0)
    have k2 : Boxed (((((W.setCell ⟨w.heap.size + 1, 0, none⟩ (.int .i64 0)).setCell ⟨w.heap.size + 1, 1, none⟩ (.int .i64 0)).setCell ⟨w.heap.size + 1, 2, none⟩ (.string ⟨#[]⟩)).setCell ⟨w.heap.size + 1, 3, none⟩ (.int .i64 0)).setCell ⟨w.heap.size + 1, 4, none⟩ (.int .i64 0)) (w.heap.size + 1 + 1) 4 (.bool false) := ((((Bx.other (l := [.bool false]) p2 (by omega) 0 _).other (by omega) 1 _).other (by omega) 2 _).other (by omega) 3 _).other (by omega) 4 _
    have c2 := k2.cell
    have f5 := k2.frozen
    have s2 := k2.set (.bool false)
    have d1 := bR.other (B' := w.heap.size + 1 + 1) (by omega) 0 (.bool false)
    have hb4 := hb3.setCell (p := ⟨w.heap.size + 1 + 1, 0, none⟩) (by simp; omega) (.bool false)
    have hk0 := (((((KeepsOthers.setCell W ⟨w.heap.size + 1, 0, none⟩ (.int .i64 0)).trans (KeepsOthers.setCell _ ⟨w.heap.size + 1, 1, none⟩ (.int .i64 0))).trans (KeepsOthers.setCell _ ⟨w.heap.size + 1, 2, none⟩ (.string ⟨#[]⟩))).trans (KeepsOthers.setCell _ ⟨w.heap.size + 1, 3, none⟩ (.int .i64 0))).trans (KeepsOthers.setCell _ ⟨w.heap.size + 1, 4, none⟩ (.int .i64 0))).trans (KeepsOthers.setCell _ ⟨w.heap.size + 1 + 1, 0, none⟩ (.bool false))
    have hK' := hk0.same D _ hK rfl
    clear p1 p2 k2 bR hb2 hb3 iB i1 he hp hk0
    gi_wp2
    refine ⟨by simp, .inl ⟨_, _, rfl, run_takeDeferred hK', ?_⟩⟩
    have e1 := bx_putObj (.deferred none) hK' rfl d1
    have e2 := boxed_put (.deferred none) s2 hK' rfl
    have y0 := e1.cell 0 (by simp)
    have y1 := e1.cell 1 (by simp)
    have y2 := e1.cell 2 (by simp)
    have y3 := e1.cell 3 (by simp)
    have y4 := e1.cell 4 (by simp)
    dsimp only [List.getElem_cons_zero, List.getElem_cons_succ] at y0 y1 y2 y3 y4
    refine ⟨.tuple #[.agg #[.int .i64 0, .int .i64 0, .string ⟨#[]⟩, .int .i64 0, .int .i64 0], .bool false], ?_, by rw [H.out.1, H.out.2]; rfl, hb4.trans (belowK_b (w := w) (Nat.le_refl _) _ D _ _ (by omega) hK' rfl rfl)⟩
    rw [results_sb rfl]
    simp [asAddr, Result.andThen, go_sem, e2, y0, y1, y2, y3, y4]
  case stop =>
    rintro D c pre W hD hpre ⟨rfl, ⟨q, x, rfl, i1, i2, i3⟩, i4, iB⟩ hK
    have H := Lib.hid (found_at hpre i1 i2)
    clear i1 i2 hpre
    obtain ⟨⟨c1, j1, v, s, k1⟩, hm⟩ := x
    unfold cellsMet at i3
    dsimp only at i3 H
    gi_wp2
    refine ⟨by simp, .inl ⟨_, _, rfl, run_takeDeferred hK, ?_⟩⟩
    have e1 := bx_putObj (.deferred none) hK rfl i3
    have e2 := boxed_put (.deferred none) i4 hK rfl
    have y0 := e1.cell 0 (by simp)
    have y1 := e1.cell 1 (by simp)
    have y2 := e1.cell 2 (by simp)
    have y3 := e1.cell 3 (by simp)
    have y4 := e1.cell 4 (by simp)
    dsimp only [List.getElem_cons_zero, List.getElem_cons_succ] at y0 y1 y2 y3 y4
    refine ⟨.tuple #[.agg #[.int .i64 c1, .int .i64 j1, .string v, .int .i64 s, .int .i64 k1], .bool true], ?_, by rw [H.out.1, H.out.2]; rfl, iB.trans (belowK_b (w := w) (Nat.le_refl _) _ D _ _ (by omega) hK rfl rfl)⟩
    rw [results_sb rfl]
    simp [asAddr, Result.andThen, go_sem, e2, y0, y1, y2, y3, y4]
end Go.Proofs.YtllgkohgcicbhaaGreatDoor

/-
  sig.lookUp and Of answer what the table says of a class and an id; nothing that was there is changed. No condition.
-/
namespace Go.Proofs.YtllgkohgcicbhaaGreatDoor
open Go.RowKit Go.Maps Go.Shelf

theorem mets_small : ∀ m ∈ mets, 0 ≤ m.i ∧ m.i ≤ 1000 ∧ 0 ≤ m.r ∧ m.r ≤ 1000 :=
  mets_all (q := fun m => decide (0 ≤ m.i ∧ m.i ≤ 1000 ∧ 0 ≤ m.r ∧ m.r ≤ 1000)) (fun m h => of_decide_eq_true h) (by kernel_rfl)

set_option maxRecDepth 100000 in
set_option maxHeartbeats 2000000 in
theorem lookUp_any (c i : Int) (w : World) :
    Calls Tryz.prog 88 #[.int .i64 c, .int .i64 i] w fun e w' => e = .returned (.tuple #[encMet (fst (isAt c i)), .bool (sIs c i)]) ∧ Below w.heap.size w w' := by
  have hmf : ∀ (p : Value) (w : World), (Instr.makeFunc (.func 110) #[] #[p]).run Tryz.prog w = .ok (.func (.func 110) #[] #[p]) w := fun _ _ => by kernel_rfl
  have HI := Lib.hid (show sIs c i = mets.any (isAt c i) from rfl)
  have h1 := Bx.new (w.alloc (.cells #[.int .i64 0, .int .i64 0, .string ⟨#[]⟩, .int .i64 0, .int .i64 0] 153)) 140 (at2 c i)
  have h2 := (Bx.new w 153 [.int .i64 0, .int .i64 0, .string ⟨#[]⟩, .int .i64 0, .int .i64 0]).alloc (.cells (at2 c i).toArray 140)
  have hb : Below w.heap.size w ((w.alloc (.cells #[.int .i64 0, .int .i64 0, .string ⟨#[]⟩, .int .i64 0, .int .i64 0] 153)).alloc (.cells (at2 c i).toArray 140)) := ((Below.refl _ w).alloc (Nat.le_refl _) _).alloc (by simp) _
  rw [World.size_alloc] at h1
  have hF := find_any (isAt c i) 110 (w.heap.size + 1) ((w.alloc (.cells #[.int .i64 0, .int .i64 0, .string ⟨#[]⟩, .int .i64 0, .int .i64 0] 153)).alloc (.cells (at2 c i).toArray 140)) (enters_of Tryz.func110 (by kernel_rfl) rfl) (fun m hm W hW => look1_any m c i _ W (h1.kept hW))
  clear h1
  rw [← HI.out] at hF
  generalize sIs c i = q at hF
  generalize fst (isAt c i) = m at hF
  obtain ⟨c1, j1, v, s, k1⟩ := m
  unfold encMet at hF ⊢
  unfold at2 at hF h2 hb
  dsimp only at hF h2 hb ⊢
  have hbs := hb.size
  go_enter Tryz.func88, Tryz.ntmps88
  go_wp2_with fail
  refine hF.mono ?_
  rintro e w1 ⟨rfl, hq⟩
  have p1 := h2.kept hq
  have hb2 := hb.trans (hq.mono hbs)
  obtain ⟨a0, f0, a1, f1, a2, f2, a3, f3, a4, f4, bR⟩ := p1.store5 (.int .i64 c1) (.int .i64 j1) (.string v) (.int .i64 s) (.int .i64 k1)
  have hb3 := below_store5 hb2 (B := w.heap.size) (by omega) (.int .i64 c1) (.int .i64 j1) (.string v) (.int .i64 s) (.int .i64 k1)
  clear hF h2 hb hq p1 hb2 hbs
  go_wp2
  have y0 := bR.cell 0 (by simp)
  have y1 := bR.cell 1 (by simp)
  have y2 := bR.cell 2 (by simp)
  have y3 := bR.cell 3 (by simp)
  have y4 := bR.cell 4 (by simp)
  dsimp only [List.getElem_cons_zero, List.getElem_cons_succ] at y0 y1 y2 y3 y4
  refine bodyPost_ret (v := .tuple #[.agg #[.int .i64 c1, .int .i64 j1, .string v, .int .i64 s, .int .i64 k1], .bool q]) ?_ rfl ⟨rfl, hb3⟩
  rw [results_cell_tmp rfl]
  simp [asAddr, Result.andThen, go_sem, y0, y1, y2, y3, y4]

set_option maxHeartbeats 2000000 in
theorem of_any (c i : Int) (w : World) :
    Calls Tryz.prog 72 #[.int .i64 c, .int .i64 i] w fun e w' => e = .returned (.tuple #[.string (sOf c i), .bool (sIs c i)]) ∧ Below w.heap.size w w' := by
  have hF := lookUp_any c i w
  have HI := Lib.hid (show sOf c i = (fst (isAt c i)).v from rfl)
  generalize sOf c i = o at HI
  generalize fst (isAt c i) = m at hF HI
  generalize sIs c i = q at hF
  obtain ⟨c1, j1, v, s, k1⟩ := m
  unfold encMet at hF
  dsimp only at hF HI
  go_enter Tryz.func72, Tryz.ntmps72
  go_wp2_with fail
  refine hF.mono ?_
  rintro e w1 ⟨rfl, hb⟩
  clear hF
  go_wp2
  go_ret2
  exact ⟨by rw [HI.out]; rfl, hb.alloc hb.size _⟩

end Go.Proofs.YtllgkohgcicbhaaGreatDoor

/-
  sig.Content answers whether a content follows a method; nothing that was there is changed. Condition: the package's table of contents is as its text lays it.
-/
namespace Go.Proofs.YtllgkohgcicbhaaGreatDoor
open Go.RowKit

/-- the table of contents, cell by cell -/
def conL : List Int := [60, 40, 60, 50, 60, 60, 60, 71]
def Con (w : World) : Prop := ∀ i (h : i < 8), w.cell? ⟨0, i, none⟩ = some (.int .i64 (conL[i]'h))
theorem Con.below {w w' : World} (h : Con w) (hb : Below w.heap.size w w') : Con w' := by
  have hlt : 0 < w.heap.size := by
    rcases Nat.lt_or_ge 0 w.heap.size with k | k
    · exact k
    · have := h 0 (by decide); simp [World.cell?, Array.getElem?_eq_none k] at this
  exact fun i hi => (hb.cell (p := ⟨0, i, none⟩) hlt).trans (h i hi)
theorem belowMore {w W : World} (h : Below w.heap.size w W) (o : Obj) : Below w.heap.size w (W.alloc o) := h.alloc h.size o
theorem cont_is (c i : Int) : sCont c i = ((60 == c && 40 == i) || ((60 == c && 50 == i) || ((60 == c && 60 == i) || (60 == c && 71 == i)))) := by
  unfold sCont
  by_cases h : c = 60
  · subst h
    have e : ∀ n : Int, (i == n) = (n == i) := fun n => Bool.eq_iff_iff.2 (by simp only [beq_iff_eq]; exact ⟨fun h => h.symm, fun h => h.symm⟩)
    simp [e, Bool.or_assoc]
  · have h1 : (c == 60) = false := by simpa using h
    have h2 : ((60 : Int) == c) = false := by simpa using fun k => h k.symm
    simp [h1, h2]

set_option maxHeartbeats 2000000 in
theorem content_any (c i : Int) (w : World) (hk : Con w) :
    Calls Tryz.prog 54 #[.int .i64 c, .int .i64 i] w fun e w' => e = .returned (.bool (sCont c i)) ∧ Below w.heap.size w w' := by
  have hA : Con (w.alloc (.cells #[.int .i64 c, .int .i64 i] 140)) := hk.below ((Below.refl _ _).alloc (Nat.le_refl _) _)
  clear hk
  have c0 : (w.alloc (.cells #[.int .i64 c, .int .i64 i] 140)).cell? ⟨0, 0, none⟩ = some (.int .i64 60) := hA 0 (by decide)
  have c1 : (w.alloc (.cells #[.int .i64 c, .int .i64 i] 140)).cell? ⟨0, 1, none⟩ = some (.int .i64 40) := hA 1 (by decide)
  have c2 : (w.alloc (.cells #[.int .i64 c, .int .i64 i] 140)).cell? ⟨0, 2, none⟩ = some (.int .i64 60) := hA 2 (by decide)
  have c3 : (w.alloc (.cells #[.int .i64 c, .int .i64 i] 140)).cell? ⟨0, 3, none⟩ = some (.int .i64 50) := hA 3 (by decide)
  have c4 : (w.alloc (.cells #[.int .i64 c, .int .i64 i] 140)).cell? ⟨0, 4, none⟩ = some (.int .i64 60) := hA 4 (by decide)
  have c5 : (w.alloc (.cells #[.int .i64 c, .int .i64 i] 140)).cell? ⟨0, 5, none⟩ = some (.int .i64 60) := hA 5 (by decide)
  have c6 : (w.alloc (.cells #[.int .i64 c, .int .i64 i] 140)).cell? ⟨0, 6, none⟩ = some (.int .i64 60) := hA 6 (by decide)
  have c7 : (w.alloc (.cells #[.int .i64 c, .int .i64 i] 140)).cell? ⟨0, 7, none⟩ = some (.int .i64 71) := hA 7 (by decide)
  clear hA
  have i0 : ∀ w, (Instr.index 141 (.agg #[.int .i64 60, .int .i64 40, .int .i64 60, .int .i64 50, .int .i64 60, .int .i64 60, .int .i64 60, .int .i64 71]) (.int .i64 0)).run Tryz.prog w = .ok (.agg #[.int .i64 60, .int .i64 40]) w := fun _ => by kernel_rfl
  have i1 : ∀ w, (Instr.index 141 (.agg #[.int .i64 60, .int .i64 40, .int .i64 60, .int .i64 50, .int .i64 60, .int .i64 60, .int .i64 60, .int .i64 71]) (.int .i64 1)).run Tryz.prog w = .ok (.agg #[.int .i64 60, .int .i64 50]) w := fun _ => by kernel_rfl
  have i2 : ∀ w, (Instr.index 141 (.agg #[.int .i64 60, .int .i64 40, .int .i64 60, .int .i64 50, .int .i64 60, .int .i64 60, .int .i64 60, .int .i64 71]) (.int .i64 2)).run Tryz.prog w = .ok (.agg #[.int .i64 60, .int .i64 60]) w := fun _ => by kernel_rfl
  have i3 : ∀ w, (Instr.index 141 (.agg #[.int .i64 60, .int .i64 40, .int .i64 60, .int .i64 50, .int .i64 60, .int .i64 60, .int .i64 60, .int .i64 71]) (.int .i64 3)).run Tryz.prog w = .ok (.agg #[.int .i64 60, .int .i64 71]) w := fun _ => by kernel_rfl
  have E0 := eq2 60 40 c i
  have E1 := eq2 60 50 c i
  have E2 := eq2 60 60 c i
  have E3 := eq2 60 71 c i
  have HC := Lib.hid (cont_is c i)
  generalize sCont c i = q at HC
  generalize (60 == c && 40 == i) = q0 at E0 HC
  generalize (60 == c && 50 == i) = q1 at E1 HC
  generalize (60 == c && 60 == i) = q2 at E2 HC
  generalize (60 == c && 71 == i) = q3 at E3 HC
  go_enter Tryz.func54, Tryz.ntmps54
  go_wp2
  cases q0
  · cases q1
    · cases q2
      · cases q3
        · go_rounds 5
          go_ret
          exact ⟨by rw [HC.out]; rfl, belowMore (belowMore (belowMore (belowMore (belowMore (Below.refl _ w) _) _) _) _) _⟩
        · go_rounds 4
          go_ret
          exact ⟨by rw [HC.out]; rfl, belowMore (belowMore (belowMore (belowMore (belowMore (Below.refl _ w) _) _) _) _) _⟩
      · go_rounds 3
        go_ret
        exact ⟨by rw [HC.out]; rfl, belowMore (belowMore (belowMore (belowMore (Below.refl _ w) _) _) _) _⟩
    · go_rounds 2
      go_ret
      exact ⟨by rw [HC.out]; rfl, belowMore (belowMore (belowMore (Below.refl _ w) _) _) _⟩
  · go_rounds 1
    go_ret
    exact ⟨by rw [HC.out]; rfl, belowMore (belowMore (Below.refl _ w) _) _⟩
end Go.Proofs.YtllgkohgcicbhaaGreatDoor

/-
  The document's own list of methods is that of the table; nothing that was there is changed. No condition.
-/
namespace Go.Proofs.YtllgkohgcicbhaaGreatDoor
open Go.RowKit

/-- a row of the document's list, cell by cell -/
def cellsRw (m : Met) : List Value := [.int .i64 m.c, .int .i64 m.i, .int .u8 (sideI m.s), .string m.v]
def rowRw (l : List Met) : List Value := l.flatMap cellsRw
theorem rowRw_snoc (l : List Met) (m : Met) : rowRw (l ++ [m]) = rowRw l ++ cellsRw m := by simp [rowRw]
theorem infoRw : (Tryz.prog.info? 118).map (fun i => (i.zero, i.size, i.bytes)) = some (some (.agg #[.int .i64 0, .int .i64 0, .int .u8 0, .string ⟨#[]⟩]), 4, 40) := by kernel_rfl
theorem info_parts4 {P : Program} {t : TypeId} {z : Option Value} {a b : Nat} (h : (P.info? t).map (fun i => (i.zero, i.size, i.bytes)) = some (z, a, b)) : ∃ i, P.info? t = some i ∧ i.zero = z ∧ i.size = a ∧ i.bytes = b := by
  obtain ⟨i, hi, he⟩ := Option.map_eq_some_iff.1 h
  simp only [Prod.mk.injEq] at he
  exact ⟨i, hi, he.1, he.2.1, he.2.2⟩
theorem cell_four_new (w : World) (x y z u : Value) (t : TypeId) : ∀ j v, [x, y, z, u][j]? = some v → (w.alloc (.cells #[x, y, z, u] t)).cell? ((⟨w.heap.size, 0, none⟩ : Addr).add j) = some v := by
  intro j v hj
  match j, hj with
  | 0, hj => simp at hj; subst hj; simp [Addr.add]
  | 1, hj => simp at hj; subst hj; simp [Addr.add]
  | 2, hj => simp at hj; subst hj; simp [Addr.add]
  | 3, hj => simp at hj; subst hj; simp [Addr.add]
theorem conv_cell (W : World) (g : Nat) (a : Int) (h : W.cell? ⟨g, 0, none⟩ = some (.int .u8 a)) :
    (convert 59 9 (.slice (some ⟨g, 0, none⟩) 1 1)).run Tryz.prog W = .ok (.string ⟨#[UInt8.ofNat a.toNat]⟩) W := by
  refine run_convert_bytes_arg (P := Tryz.prog) _ 59 5 Tryz.underlying59 Tryz.underlying5 g 0 1 1 [a] rfl (fun i hi => ?_) 9 Tryz.underlying9
  obtain rfl : i = 0 := by simpa using hi
  exact h
theorem conv_drew (w : World) (a : Int) : (convert 59 9 (.slice (some ⟨w.heap.size, 0, none⟩) 1 1)).run Tryz.prog (w.alloc (.cells #[.int .u8 a] 5)).drew = .ok (.string ⟨#[UInt8.ofNat a.toNat]⟩) (w.alloc (.cells #[.int .u8 a] 5)).drew :=
  conv_cell _ _ a (by show (w.alloc (.cells #[.int .u8 a] 5)).cell? _ = _; rw [World.cell?_alloc_new]; rfl)

set_option maxRecDepth 100000 in
set_option maxHeartbeats 4000000 in
theorem rall_any (w : World) :
    Calls Tryz.prog 67 #[] w fun e w' => ∃ v, e = .returned v ∧ w'.ownsRow w.heap.size 118 4 v 58 (rowRw mets) ∧ Below w.heap.size w w' := by
  have hcv := conv_drew
  obtain ⟨i0, hi, hz0, hz1, hz2⟩ := info_parts4 infoRw
  go_enter Tryz.func67, Tryz.ntmps67
  generalize hT : (ByteArray.mk (List.toArray (List.append _ _))) = T
  have hTr : T = refText := hT.symm.trans (by kernel_rfl)
  have hTs : T.size = 384 := by rw [hTr, refText_size]
  have hB : ∀ k (h : k < T.size), ((T[k]'h).toNat : Int) = refI k := by subst hTr; exact fun k h => by rw [refText_at, refI]
  clear hT hTr
  go_wp2_with fail
  go_loopw [1, 2, 3] (fun o c i wr => ∃ (j : Nat) (t : RTok), Hid (j ≤ 65 ∧ rtoks[j]? = some t) ∧ c = .int .i64 t.c ∧ i = .int .i64 (t.p : Int) ∧ wr.ownsRow w.heap.size 118 4 o t.r (rowRw (mets.take t.r)) ∧ Below w.heap.size w wr) (fun _ _ i _ => 384 - (intOf i).toNat)
  case atStart => exact ⟨0, _, Lib.hid ⟨by omega, rtoks_first⟩, rfl, rfl, World.ownsRow_nil _ _ _ _, Below.refl _ _⟩
  case round =>
    obtain ⟨j, t, HJ, rfl, rfl, hown, hb⟩ := hrel
    by_cases hj : j < 65
    · obtain ⟨u, HU, hst⟩ : ∃ u, Hid (j + 1 ≤ 65 ∧ rtoks[j + 1]? = some u) ∧ RStep t u := by
        have h1 := rstep_at j hj
        have h2 := HJ.out.2
        rw [List.getElem?_eq_getElem (by rw [rtoks_length]; omega)] at h2
        rw [Option.some.inj h2] at h1
        exact ⟨_, Lib.hid ⟨hj, List.getElem?_eq_getElem (by rw [rtoks_length]; omega)⟩, h1⟩
      clear HJ hj
      obtain ⟨p, q, e, c0, r, cl⟩ := t
      obtain ⟨⟨hpq, hq⟩, hdig, hnd, hcl, hrow⟩ := hst
      dsimp only at hpq hq hdig hnd hcl hrow hown ⊢
      have hp : p < 384 := by omega
      have HC := Lib.hid hcl
      have HR := Lib.hid hrow
      have HN := Lib.hid hnd
      have HD := Lib.hid hdig
      clear hcl hrow hnd hdig
      go_wp2_with fail
      go_loop [3, 4] (fun i n => ∃ x k : Nat, Hid (x = p + k) ∧ x ≤ q ∧ i = .int .i64 (x : Int) ∧ n = .int .i64 (valTo p k)) (fun i _ => 384 - (intOf i).toNat)
      case atStart => exact ⟨p, 0, Lib.hid rfl, hpq, rfl, rfl⟩
      case round =>
        obtain ⟨x, k, HX, hxq, rfl, rfl⟩ := hrel
        have hxT : x < T.size := by omega
        have hBx := hB x hxT
        have hx384 : x < 384 := by omega
        by_cases hlt : x < q
        · obtain ⟨d0, d1, v0, v1⟩ := HD.out k (by have := HX.out; omega)
          have HV : Hid (valTo p (k + 1) = 10 * valTo p k + (refI x - 48)) := Lib.hid (by rw [HX.out]; rfl)
          have HX1 : Hid (x + 1 = p + (k + 1)) := Lib.hid (by have := HX.out; omega)
          rw [← HX.out] at d0 d1
          generalize valTo p k = v at v0 v1 HV
          generalize refI x = d at hBx d0 d1 HV
          have e1 : IntKind.i64.wrap (10 * v) = 10 * v := by simp only [IntKind.wrap_i64]; omega
          have e2 : IntKind.u8.wrap (d - 48) = d - 48 := by simp only [IntKind.wrap_u8]; omega
          have e3 : IntKind.i64.wrap (d - 48) = d - 48 := by simp only [IntKind.wrap_i64]; omega
          have e4 : IntKind.i64.wrap (10 * v + (d - 48)) = 10 * v + (d - 48) := by simp only [IntKind.wrap_i64]; omega
          have e5 : IntKind.i64.wrap ((x : Int) + 1) = ((x + 1 : Nat) : Int) := by simp only [IntKind.wrap_i64]; omega
          clear HC HR HN HD hB HX hcv
          go_wp2
          exact ⟨⟨x + 1, k + 1, HX1, by omega, rfl, by rw [HV.out]⟩, by simp only [intOf]; omega⟩
        · obtain rfl : x = q := by omega
          have HK : Hid (valTo p k = valTo p (x - p)) := Lib.hid (by have := HX.out; congr 1; omega)
          have hnd := HN.out
          generalize hvk : valTo p k = v at HK
          clear hvk HX HN HD
          have e5 : IntKind.i64.wrap ((x : Int) + 1) = ((x + 1 : Nat) : Int) := by simp only [IntKind.wrap_i64]; omega
          cases cl
          · obtain ⟨g1, g2, g3, g4, g5, g6, g7, g8, g9, g10, g11, g12, g13⟩ := HR.out rfl
            have HG : Hid (u.c = c0 ∧ u.p = e + 1 ∧ u.r = r + 1) := Lib.hid ⟨g7, g6, g8⟩
            have HM : Hid (mets.take (r + 1) = mets.take r ++ [mets.getD r noMet] ∧ cellsRw (mets.getD r noMet) = [.int .i64 c0, .int .i64 v, .int .u8 (refI x), .string (sigTo x (e - (x + 1)))]) := Lib.hid ⟨by
              rw [List.take_add_one, List.getD_eq_getElem?_getD, List.getElem?_eq_getElem (by rw [show mets.length = 58 from rfl]; exact g9)]; rfl, by rw [cellsRw, g10, g11, g12, g13, HK.out]⟩
            have HL := Lib.hid g4
            have HE := Lib.hid g5
            have t1 : (refI x == 58) = false := by simpa using g1
            have t2 : 48 ≤ refI x := by omega
            generalize hd : refI x = d at hBx hnd t1 t2 HM
            have HB := Lib.hid hB
            clear HC HR g1 g4 g5 g6 g7 g8 g10 g11 g12 g13 hd hB
            obtain ⟨w1, rfl⟩ : ∃ w1, w1 = wr := ⟨wr, rfl⟩
            have hbx := Bx.new w1 118 [.int .i64 c0, .int .i64 v, .int .u8 d, .string ⟨#[]⟩]
            have hbb : Below w1.heap.size w1 (w1.alloc (.cells #[.int .i64 c0, .int .i64 v, .int .u8 d, .string ⟨#[]⟩] 118)) := (Below.refl _ _).alloc (Nat.le_refl _) _
            go_wp2
            generalize w1.alloc (.cells #[.int .i64 c0, .int .i64 v, .int .u8 d, .string ⟨#[]⟩] 118) = w2 at hbx hbb
            have hS0 : (⟨#[]⟩ : ByteArray) = sigTo x 0 := by rw [sigTo, List.take_zero]
            rw [hS0] at hbx
            clear hS0
            go_loopw [3] (fun i w3 => ∃ y k : Nat, Hid (y = x + 1 + k) ∧ y ≤ e ∧ i = .int .i64 (y : Int) ∧ Bx w3 w1.heap.size 118 [.int .i64 c0, .int .i64 v, .int .u8 d, .string (sigTo x k)] ∧ Below w1.heap.size w1 w3) (fun i _ => 384 - (intOf i).toNat)
            case atStart => exact ⟨x + 1, 0, Lib.hid rfl, g2, rfl, hbx, hbb⟩
            case round =>
              obtain ⟨y, k, HX, hye, rfl, hbx3, hb3⟩ := hrel
              have hyT : y < T.size := by omega
              have hBy := HB.out y hyT
              have hy384 : y < 384 := by omega
              have e6 : IntKind.i64.wrap ((y : Int) + 1) = ((y + 1 : Nat) : Int) := by simp only [IntKind.wrap_i64]; omega
              by_cases hlt2 : y < e
              · obtain ⟨d1, d2⟩ := HL.out k (by have := HX.out; omega)
                rw [← HX.out] at d1 d2
                have t3 : (refI y != 44) = true := by simpa using d1
                have t4 : (refI y != 59) = true := by simpa using d2
                have HS : Hid (sigTo x (k + 1) = sigTo x k ++ ⟨#[UInt8.ofNat (refI y).toNat]⟩) := Lib.hid (by
                  rw [sigTo_succ x k (by have := HX.out; omega), ← HX.out, refI]
                  simp)
                have hsz := sigTo_size x k
                have HX1 : Hid (y + 1 = x + 1 + (k + 1)) := Lib.hid (by have := HX.out; omega)
                have hk384 : k ≤ 384 := by have := HX.out; omega
                obtain ⟨r0, r1⟩ := refI_le y
                generalize refI y = b at hBy t3 t4 HS r0 r1
                clear HL HE HM HG d1 d2 HX HB hbx hbb hown t1 t2 hnd hBx
                generalize sigTo x k = sg at hbx3 HS hsz
                have x3 := hbx3.cell 3 (by simp)
                dsimp only [List.getElem_cons_zero, List.getElem_cons_succ] at x3
                have f3 := hbx3.frozen 3
                have hss : ∀ w', (Op.stringOp .add sg ⟨#[UInt8.ofNat b.toNat]⟩).run Tryz.prog w' = .ok (.string (sg ++ ⟨#[UInt8.ofNat b.toNat]⟩)) w' := fun w' => run_string_add_sum w' sg ⟨#[UInt8.ofNat b.toNat]⟩ (by have : (⟨#[UInt8.ofNat b.toNat]⟩ : ByteArray).size = 1 := rfl; omega)
                have kp : ∀ w', Below wr.heap.size wr w' → w'.cell? ⟨w1.heap.size, 3, none⟩ = some (.string sg) ∧ w'.frozen? ⟨w1.heap.size, 3, none⟩ = false := fun w' h => ⟨(hbx3.kept h).cell 3 (by simp), (hbx3.kept h).frozen 3⟩
                have kp2 : ∀ o, (wr.alloc o).drew.cell? ⟨w1.heap.size, 3, none⟩ = some (.string sg) ∧ (wr.alloc o).drew.frozen? ⟨w1.heap.size, 3, none⟩ = false := fun o => kp _ (((Below.refl _ wr).alloc (Nat.le_refl _) o).drew)
                go_wp2
                obtain ⟨kc, kf⟩ : (∀ o, (wr.alloc o).drew.cell? ⟨w1.heap.size, 3, none⟩ = some (.string sg)) ∧ (∀ o, (wr.alloc o).drew.frozen? ⟨w1.heap.size, 3, none⟩ = false) := ⟨fun o => (kp2 o).1, fun o => (kp2 o).2⟩
                clear kp kp2
                go_region
                go_wp2
                exact ⟨⟨y + 1, k + 1, HX1, by omega, rfl, by rw [HS.out]; exact (hbx3.alloc _).set 3 _, ((hb3.alloc hb3.size _).setCell (p := ⟨w1.heap.size, 3, none⟩) (Nat.le_refl _) _).drew⟩, by simp only [intOf]; omega⟩
              · obtain rfl : y = e := by omega
                have HK3 : Hid (sigTo x k = sigTo x (y - (x + 1))) := Lib.hid (by have := HX.out; congr 1; omega)
                have hown3 := rowKept hown hb3
                have hbr3 := hb.trans (hb3.mono hb.size)
                have hbs := hbr3.size
                have hrl : r < 58 := g9
                have x0 := hbx3.cell 0 (by simp)
                have x1 := hbx3.cell 1 (by simp)
                have x2 := hbx3.cell 2 (by simp)
                have x3 := hbx3.cell 3 (by simp)
                dsimp only [List.getElem_cons_zero, List.getElem_cons_succ] at x0 x1 x2 x3
                generalize sigTo x k = sg at hbx3 x3 HK3
                have hy := HE.out
                clear HL HE HB hbx hbb hown t1 t2 hnd hBx hcv hbx3 hb hb3 HX
                rcases hy with hy | hy
                · rw [hy] at hBy
                  clear hy
                  go_wp2_with (first
                  | (at_builtin; refine wpList_append_own _ rfl _ _ 115 rfl w.heap.size 118 i0 (.agg #[.int .i64 0, .int .i64 0, .int .u8 0, .string ⟨#[]⟩]) 4 40 Tryz.underlying115 hi hz0 hz1 hz2 rfl (by decide) _ _ _ rfl (hown3.alloc _) ⟨wr.heap.size, 0, none⟩ 1 1 [.int .i64 c0, .int .i64 v, .int .u8 d, .string sg] rfl rfl (cell_four_new _ _ _ _ _ _) (by simp [Value.oneCell']) (by unfold maxLen; omega) (by omega) (by simp; omega) ?_))
                  intro o' w4 hown' hgrow _
                  have hb4 := rowBelow (Nat.le_refl _) hown3 hbr3 hgrow
                  have Hown : Hid (w4.ownsRow w.heap.size 118 4 o' (r + 1) (rowRw (mets.take (r + 1)))) := Lib.hid (by rw [HM.out.1, rowRw_snoc, HM.out.2, ← HK3.out]; exact hown')
                  clear hown' hgrow hown3 hbr3
                  go_wp2
                  exact ⟨⟨j + 1, u, HU, by rw [HG.out.1], by rw [HG.out.2.1]; rfl, by rw [HG.out.2.2]; exact Hown.out, hb4⟩, by simp only [intOf]; omega⟩
                · rw [hy] at hBy
                  clear hy
                  go_wp2_with (first
                  | (at_builtin; refine wpList_append_own _ rfl _ _ 115 rfl w.heap.size 118 i0 (.agg #[.int .i64 0, .int .i64 0, .int .u8 0, .string ⟨#[]⟩]) 4 40 Tryz.underlying115 hi hz0 hz1 hz2 rfl (by decide) _ _ _ rfl (hown3.alloc _) ⟨wr.heap.size, 0, none⟩ 1 1 [.int .i64 c0, .int .i64 v, .int .u8 d, .string sg] rfl rfl (cell_four_new _ _ _ _ _ _) (by simp [Value.oneCell']) (by unfold maxLen; omega) (by omega) (by simp; omega) ?_))
                  intro o' w4 hown' hgrow _
                  have hb4 := rowBelow (Nat.le_refl _) hown3 hbr3 hgrow
                  have Hown : Hid (w4.ownsRow w.heap.size 118 4 o' (r + 1) (rowRw (mets.take (r + 1)))) := Lib.hid (by rw [HM.out.1, rowRw_snoc, HM.out.2, ← HK3.out]; exact hown')
                  clear hown' hgrow hown3 hbr3
                  go_wp2
                  exact ⟨⟨j + 1, u, HU, by rw [HG.out.1], by rw [HG.out.2.1]; rfl, by rw [HG.out.2.2]; exact Hown.out, hb4⟩, by simp only [intOf]; omega⟩
          · obtain ⟨g1, g2, g3, g4⟩ := HC.out rfl
            have HG : Hid (u.c = v ∧ u.p = x + 1 ∧ u.r = r) := Lib.hid ⟨by rw [g3, HK.out], g2, g4⟩
            rw [g1] at hBx
            clear HC HR hB hnd g1 g2 g3 g4 hcv
            go_wp2
            exact ⟨⟨j + 1, u, HU, by rw [HG.out.1], by rw [HG.out.2.1]; rfl, by rw [HG.out.2.2]; exact hown, hb⟩, by simp only [intOf]; omega⟩
    · obtain rfl : j = 65 := by have := HJ.out.1; omega
      obtain rfl : t = ⟨384, 384, 384, 90, 58, true⟩ := by have h := HJ.out.2; rw [rtoks_last] at h; exact (Option.some.inj h).symm
      dsimp only at hown ⊢
      clear hcv hB HJ
      go_wp2
      go_ret
      exact ⟨_, rfl, by rw [List.take_of_length_le (by rw [show mets.length = 58 from rfl]; omega)] at hown; exact hown, hb⟩
end Go.Proofs.YtllgkohgcicbhaaGreatDoor

/-
  The document's own Of answers as the program's; nothing that was there is changed. No condition.
-/
namespace Go.Proofs.YtllgkohgcicbhaaGreatDoor
open Go.RowKit

/-- the four cells of the row k -/
theorem rw_cells (l : List Met) : ∀ (k : Nat) (h : k < l.length), (rowRw l)[k * 4]? = some (.int .i64 l[k].c) ∧ (rowRw l)[k * 4 + 1]? = some (.int .i64 l[k].i) ∧ (rowRw l)[k * 4 + 2]? = some (.int .u8 (sideI l[k].s)) ∧ (rowRw l)[k * 4 + 3]? = some (.string l[k].v) := by
  induction l with
  | nil => intro k h; cases h
  | cons f l ih =>
    intro k h
    have e : rowRw (f :: l) = [.int .i64 f.c, .int .i64 f.i, .int .u8 (sideI f.s), .string f.v] ++ rowRw l := by simp [rowRw, cellsRw]
    cases k with
    | zero => rw [e]; simp
    | succ k =>
      obtain ⟨h1, h2, h3, h4⟩ := ih k (by simpa using h)
      rw [e]
      refine ⟨?_, ?_, ?_, ?_⟩
      · rw [show (k + 1) * 4 = k * 4 + 1 + 1 + 1 + 1 by omega]
        simpa using h1
      · rw [show (k + 1) * 4 + 1 = (k * 4 + 1) + 1 + 1 + 1 + 1 by omega]
        simpa using h2
      · rw [show (k + 1) * 4 + 2 = (k * 4 + 2) + 1 + 1 + 1 + 1 by omega]
        simpa using h3
      · rw [show (k + 1) * 4 + 3 = (k * 4 + 3) + 1 + 1 + 1 + 1 by omega]
        simpa using h4
theorem vals_met {w : World} {A : Option Addr} (h : ValsAt w A (rowRw mets)) (hl : (rowRw mets).length = 58 * 4) : ∃ b off, A = some ⟨b, off, none⟩ ∧ ∀ k (hk : k < mets.length),
    w.cell? ⟨b, off + k * 4, none⟩ = some (.int .i64 mets[k].c) ∧ w.cell? ⟨b, off + k * 4 + 1, none⟩ = some (.int .i64 mets[k].i) ∧ w.cell? ⟨b, off + k * 4 + 2, none⟩ = some (.int .u8 (sideI mets[k].s)) ∧ w.cell? ⟨b, off + k * 4 + 3, none⟩ = some (.string mets[k].v) := by
  obtain ⟨b, off, hA, hlt, hc⟩ := h (by omega)
  refine ⟨b, off, hA, fun k hk => ?_⟩
  obtain ⟨h1, h2, h3, h4⟩ := rw_cells mets k hk
  have g : ∀ i v, (rowRw mets)[i]? = some v → w.cell? ⟨b, off + i, none⟩ = some v := fun i v hv => by
    obtain ⟨hi, he⟩ := List.getElem?_eq_some_iff.1 hv
    rw [hc i hi, he]
  exact ⟨g _ _ h1, g _ _ h2, g _ _ h3, g _ _ h4⟩
/-- what is looked for stands at k, or it isn't among the first k -/
def NotIn (p : Met → Bool) (k : Nat) : Prop := ∀ m ∈ mets.take k, p m = false
theorem notIn_succ {p : Met → Bool} {k : Nat} (h : NotIn p k) (hk : k < mets.length) (hp : p mets[k] = false) : NotIn p (k + 1) := by
  intro m hm
  rw [List.take_add_one, List.getElem?_eq_getElem hk] at hm
  rcases List.mem_append.1 hm with h1 | h1
  · exact h m h1
  · rw [List.mem_singleton.1 h1]; exact hp
theorem first_at {p : Met → Bool} {k : Nat} (h : NotIn p k) (hk : k < mets.length) (hp : p mets[k] = true) : fst p = mets[k] ∧ mets.any p = true :=
  found_list (by rw [← List.drop_eq_getElem_cons hk, List.take_append_drop]) h hp
theorem first_none {p : Met → Bool} (h : NotIn p 58) : fst p = noMet ∧ mets.any p = false := by
  have hm : ∀ m ∈ mets, p m = false := fun m hm => h m (by rw [List.take_of_length_le (by rw [mets_length]; omega)]; exact hm)
  refine ⟨by rw [fst, List.find?_eq_none.2 (fun m hmm => by rw [hm m hmm]; simp)]; rfl, ?_⟩
  rw [List.any_eq_false]
  exact fun m hmm => by rw [hm m hmm]; simp

set_option maxRecDepth 100000 in
set_option maxHeartbeats 2000000 in
theorem rof_any (c i : Int) (w : World) :
    Calls Tryz.prog 41 #[.int .i64 c, .int .i64 i] w fun e w' => e = .returned (.tuple #[.string (sOf c i), .bool (sIs c i)]) ∧ Below w.heap.size w w' := by
  have H1 := Lib.hid (show sOf c i = (fst (isAt c i)).v from rfl)
  have H2 := Lib.hid (show sIs c i = mets.any (isAt c i) from rfl)
  go_enter Tryz.func41, Tryz.ntmps41
  go_wp2_with fail
  refine (rall_any w).mono ?_
  rintro e w1 ⟨v, rfl, hown, hb⟩
  obtain ⟨A, cap, rfl, hv, hl⟩ := vals_row hown
  obtain ⟨b, off, rfl, hc⟩ := vals_met hv hl
  clear hown hv hl
  go_wp2
  go_loop [7] (fun x => ∃ k : Nat, k ≤ 58 ∧ x = .int .i64 k ∧ Hid (NotIn (isAt c i) k)) (fun x => 58 - (intOf x).toNat)
  case atStart => exact ⟨0, Nat.zero_le _, rfl, Lib.hid (fun m hm => by cases hm)⟩
  case round =>
    obtain ⟨k, hk, rfl, HN⟩ := hrel
    by_cases hlt : k < 58
    · have hkl : k < mets.length := by rw [mets_length]; exact hlt
      obtain ⟨x0, x1, x2, x3⟩ := hc k hkl
      have HS : Hid (isAt c i mets[k] = false → NotIn (isAt c i) (k + 1)) := Lib.hid (notIn_succ HN.out hkl)
      have HF : Hid (isAt c i mets[k] = true → fst (isAt c i) = mets[k] ∧ mets.any (isAt c i) = true) := Lib.hid (first_at HN.out hkl)
      have HQ : Hid (isAt c i mets[k] = (mets[k].c == c && mets[k].i == i)) := Lib.hid rfl
      have e1 : IntKind.i64.wrap ((k : Int) + 1) = ((k + 1 : Nat) : Int) := by simp only [IntKind.wrap_i64]; omega
      clear hc HN
      generalize mets[k] = m at x0 x1 x2 x3 HS HF HQ
      obtain ⟨c1, j1, v1, s1, r1⟩ := m
      dsimp only at x0 x1 x2 x3 HQ
      cases t1 : (c1 == c)
      · have HS2 := Lib.hid (HS.out (by rw [HQ.out, t1]; rfl))
        clear HS HF HQ
        go_wp2
        exact ⟨⟨k + 1, hlt, rfl, HS2⟩, by simp only [intOf]; omega⟩
      · cases t2 : (j1 == i)
        · have HS2 := Lib.hid (HS.out (by rw [HQ.out, t1, t2]; rfl))
          clear HS HF HQ
          go_wp2
          exact ⟨⟨k + 1, hlt, rfl, HS2⟩, by simp only [intOf]; omega⟩
        · have HF2 := Lib.hid (HF.out (by rw [HQ.out, t1, t2]; rfl))
          clear HS HF HQ
          go_wp2
          go_ret2
          exact ⟨by rw [H1.out, H2.out, HF2.out.1, HF2.out.2]; rfl, hb⟩
    · obtain rfl : k = 58 := by omega
      have HF2 := Lib.hid (first_none HN.out)
      clear hc HN
      go_wp2
      go_ret2
      exact ⟨by rw [H1.out, H2.out, HF2.out.1, HF2.out.2]; rfl, hb⟩

end Go.Proofs.YtllgkohgcicbhaaGreatDoor
