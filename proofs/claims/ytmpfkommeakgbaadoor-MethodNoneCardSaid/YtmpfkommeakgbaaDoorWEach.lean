/-
  sig.each gives the methods of the table one after the other, till it is told to stop. No condition.
-/
import Derived.Deep.Onto
import Derived.Sort.QuietIn
import Derived.Shelf.Abstract
import Derived.Shelf.RegionOpen
import Derived.WalkKit
import Derived.OwnWalkIn
import Derived.TacticsInMore
import Derived.LoopNIn
import Derived.LoopIn
import Derived.Maps.AppendAt
import Derived.Laws.EntriesVeiled
import Derived.Test.YtmpfkommeakgbaaDoorJMem
import Derived.Test.YtmpfkommeakgbaaDoorWSigA0
namespace Go.Proofs.YtmpfkommeakgbaaDoor
open Go.RowKit Go.Maps Go.Shelf
attribute [local go_sem] Oper.semAt_some

theorem mets_length : mets.length = 58 := by kernel_rfl
/-- a method of the table -/
abbrev MM := { m : Met // m ∈ mets }
def mms : List MM := mets.attach
theorem mms_length : mms.length = 58 := by rw [mms, List.length_attach, mets_length]
theorem mms_val : mms.map Subtype.val = mets := List.attach_map_subtype_val mets

theorem rowMet_at : ∀ (l : List Met) (k : Nat) (hk : k < l.length), ((rowMet l).drop (k * 5)).take 5 = cellsMet l[k]
  | [], k, hk => absurd hk (by simp)
  | m :: l, 0, _ => rfl
  | m :: l, k + 1, hk => by
    have ih := rowMet_at l k (by simpa using hk)
    have e : (k + 1) * 5 = 5 + k * 5 := by omega
    rw [e, ← List.drop_drop]
    exact ih
theorem isAggMet : ∀ w, (isAgg 61).run Tryd.prog w = .ok true w := fun w => by kernel_rfl
theorem sizeOfMet : ∀ w, (sizeOf 61).run Tryd.prog w = .ok 5 w := fun w => by kernel_rfl
theorem index_mets (k : Nat) (hk : k < 58) (w : World) : (Instr.index 123 (.agg (rowMet mets).toArray) (.int .i64 (k : Int))).run Tryd.prog w = .ok (encMet (mets[k]'(by rw [mets_length]; exact hk))) w := by
  have h := rowMet_at mets k (by rw [mets_length]; exact hk)
  have he : (rowMet mets).toArray.extract (k * 5) (k * 5 + 5) = (cellsMet (mets[k]'(by rw [mets_length]; exact hk))).toArray := by
    rw [← h, List.extract_toArray, List.extract_eq_take_drop, Nat.add_sub_cancel_left]
  simp only [Instr.index, Sem.run_bind, asIntOf, run_underlying Tryd.underlying123, Result.andThen_ok, Sem.run_pure]
  rw [if_pos (by omega)]
  simp only [part, Sem.run_bind, sizeOfMet, isAggMet, Result.andThen_ok, Sem.run_pure, Int.toNat_natCast, if_true, he]
  rfl

set_option maxRecDepth 100000 in
set_option maxHeartbeats 2000000 in
theorem each_in (l : Nat) (Kp : World → World → Prop) (J Jx : List MM → World → Prop)
    (hJ : ∀ pre W W', J pre W → Below W.heap.size W W' → J pre W')
    (hY : ∀ pre x W, J pre W → pre.length < 58 → YieldAt Fence.wide 2 Tryd.prog l #[encMet x.1] W fun e W' =>
      (e = .returned (.bool true) ∧ J (pre ++ [x]) W' ∧ Kp W W') ∨ (e = .returned (.bool false) ∧ Jx (pre ++ [x]) W'))
    (W : World) (hJ0 : J [] W) :
    CallsIn Fence.wide 3 Tryd.prog 60 #[.func (.yield l) #[] #[]] W fun e W' => (∃ v, e = .returned v) ∧
      ((∃ ys, ys = mms ∧ J ys W') ∨ (∃ pre, pre <+: mms ∧ Jx pre W')) := by
  refine callsIn_of_wp Tryd.func60 rfl trivial ?_ rfl
  simp only [Tryd.ntmps60, List.size_toArray, List.length_cons, List.length_nil, Nat.reduceAdd, Nat.reduceSub, Array.replicate_succ, Array.replicate_zero, List.push_toArray, List.append_toArray, List.nil_append, List.cons_append]
  gi_wp2_with fail
  refine ⟨trivial, (callsIn_wide.2 (methods_any W)).mono ?_⟩
  rintro e w2 ⟨rfl, hb⟩
  have hJ1 := hJ _ _ _ hJ0 hb
  clear hJ0 hb
  have hidx := index_mets
  generalize (rowMet mets).toArray = T at hidx ⊢
  gi_wp2_with fail
  gi_loopw [5] (fun p wr => ∃ k : Nat, k ≤ 58 ∧ p = .int .i64 k ∧ J (mms.take k) wr) (fun p _ => 58 - (intOf p).toNat)
  case atStart => exact ⟨0, Nat.zero_le _, rfl, hJ1⟩
  case round =>
    obtain ⟨k, hk, rfl, hJs⟩ := hrel
    by_cases hlt : k < 58
    · have hx := hidx k hlt
      have hkm : k < mms.length := by rw [mms_length]; exact hlt
      have hkk : k < mets.length := by rw [mets_length]; exact hlt
      have hv : mms[k].1 = mets[k] := by simp [mms]
      have HT : Hid (mms.take k ++ [mms[k]] = mms.take (k + 1)) := Lib.hid (by rw [List.take_add_one, List.getElem?_eq_getElem hkm]; rfl)
      have HP : Hid (mms.take k ++ [mms[k]] <+: mms) := Lib.hid (by rw [HT.out]; exact List.take_prefix _ _)
      have hl : (mms.take k).length < 58 := by rw [List.length_take]; omega
      have hJ3 := hJ _ wr _ hJs ((Below.refl _ _).alloc (Nat.le_refl _) (.cells (cellsMet mets[k]).toArray 61))
      obtain ⟨fn, tmps, assign, body', hy, hR⟩ := hY _ mms[k] _ hJ3 hl
      rw [hv] at hy
      clear hidx hJs hJ3 hl
      generalize mms.take k ++ [mms[k]] = nx at HT HP hR
      clear hv
      rcases hmk : mets[k] with ⟨c1, i1, v, s, r⟩
      rw [hmk] at hx hy hR
      unfold encMet at hx hy
      unfold cellsMet at hy hR
      dsimp only at hx hy hR
      clear hmk
      have e1 : IntKind.i64.wrap ((k : Int) + 1) = ((k + 1 : Nat) : Int) := by simp only [IntKind.wrap_i64]; omega
      gi_wp2
      refine hR.mono ?_
      rintro e W3 (⟨rfl, hJ3, hk3⟩ | ⟨rfl, hJx3⟩)
      · rw [HT.out] at hJ3
        gi_wp2
        go_roundw
        case rel => exact ⟨k + 1, hlt, rfl, hJ3⟩
        case measure => simp only [intOf]; omega
      · gi_wp2
        refine bodyPost_ret (results_none rfl _ _ _) rfl ?_
        exact ⟨⟨_, rfl⟩, .inr ⟨nx, HP.out, hJx3⟩⟩
    · obtain rfl : k = 58 := by omega
      gi_wp2
      go_end0
      exact ⟨⟨_, rfl⟩, .inl ⟨mms.take 58, List.take_of_length_le (by rw [mms_length]; omega), hJs⟩⟩
end Go.Proofs.YtmpfkommeakgbaaDoor
