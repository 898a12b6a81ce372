/-
  slices.Clone of values, in memory of its own; nothing that was there is changed. Conditions: the values lie in old memory, of at most 2^47 bytes.
-/
import Derived.Laws.OwnMore
import Derived.Test.YtllgkohgcicbhaaGreatDoorZA
import Derived.Test.YtllgkohgcicbhaaGreatDoorZE
namespace Go.Proofs.YtllgkohgcicbhaaGreatDoor
open Go.RowKit

theorem own_emptyV (w : World) (e : TypeId) (size : Nat) : (w.alloc (.cells #[] e)).ownsRow w.heap.size e size (.slice (some ⟨w.heap.size, 0, none⟩) 0 0) 0 [] :=
  ⟨by simp, .inr ⟨w.heap.size, 0, #[], rfl, Nat.le_refl _, World.alloc_heap_new w _, Nat.le_refl _, Nat.zero_le _, by simp, by simp⟩⟩

set_option maxRecDepth 100000 in
set_option maxHeartbeats 1000000 in
theorem clone_any (A : Option Addr) (cap : Nat) (l : List MV) (w : World) (hA : ValsAt w A (rowV l)) (h0 : A = none → l.length = 0 ∧ cap = 0) (hl : l.length * 24 ≤ 140737488355328) :
    Calls Tryz.prog 86 #[.slice A l.length cap] w fun e w' => ∃ v, e = .returned v ∧ w'.ownsRow w.heap.size 58 2 v l.length (rowV l) ∧ Below w.heap.size w w' := by
  obtain ⟨i0, hi, hz0, hz1, hz2⟩ := info_partsV infoVal
  cases A with
  | none =>
    obtain ⟨e1, rfl⟩ := h0 rfl
    obtain rfl : l = [] := List.eq_nil_of_length_eq_zero e1
    clear h0 hA hl e1
    dsimp only [List.length_nil]
    have hq : ∀ w, (binOp BinOp.eql 22 (.slice none 0 0) (.slice none 0 0)).run Tryz.prog w = .ok (.bool true) w := fun _ => by kernel_rfl
    go_enter Tryz.func86, Tryz.ntmps86
    go_wp2
    go_ret
    exact ⟨_, rfl, World.ownsRow_nil _ _ _ _, Below.refl _ _⟩
  | some ad =>
    have hrl := Lib.hid (rowV_length l)
    have h1c := Lib.hid (rowV_one l)
    clear h0
    have HA : Hid (ValsAt (w.alloc (.cells #[] 58)) (some ad) (rowV l)) := Lib.hid (hA.below ((Below.refl _ w).alloc (Nat.le_refl _) _))
    generalize rowV l = row at hrl h1c HA ⊢
    generalize l.length = n at hrl hl ⊢
    clear hA
    have hq : ∀ w, (binOp BinOp.eql 22 (.slice (some ad) n cap) (.slice none 0 0)).run Tryz.prog w = .ok (.bool false) w := fun _ => by kernel_rfl
    go_enter Tryz.func86, Tryz.ntmps86
    go_wp2_with (at_builtin; refine wpList_append_row rfl _ _ 22 rfl w.heap.size 58 i0 (.agg #[.int .u64 0, .string ⟨#[]⟩]) 2 24 Tryz.underlying22 hi hz0 hz1 hz2 rfl (by decide) (.slice (some ⟨w.heap.size, 0, none⟩) 0 0) 0 [] rfl (own_emptyV w 58 2) (some ad) n cap row rfl hrl.out HA.out (fun e => by cases e) h1c.out ?s4 ?s5 ?s6 ?s7)
    case s4 => unfold maxLen; omega
    case s5 => omega
    case s6 => simp
    case s7 =>
      intro v1 w1 hown hgrow
      have hB := ((Below.refl w.heap.size w).alloc (Nat.le_refl _) (.cells #[] 58)).grown hgrow (by simp) (fun q hq => ((own_emptyV w 58 2).lt q hq).1)
      have Hown : Hid (w1.ownsRow w.heap.size 58 2 v1 n row) := Lib.hid (by simpa using hown)
      clear hown hgrow HA
      go_wp2
      go_ret
      exact ⟨_, rfl, Hown.out, hB⟩

end Go.Proofs.YtllgkohgcicbhaaGreatDoor
