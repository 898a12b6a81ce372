/-
  The document's own Rights of what is said: none, or one method: nothing that was there is changed. Condition: the method's values are numbers and texts of fewer than 2^47 bytes.
-/
import Derived.Test.YtebkolhibifbpaaGreatDoorRMRight
import Derived.Test.YtebkolhibifbpaaGreatDoorWServe9
namespace Go.Proofs.YtebkolhibifbpaaGreatDoor
open Go.RowKit

def saidOk : Option Me → Bool
  | none => true
  | some m => mE m == 0
def saidWf : Option Me → Prop
  | none => True
  | some m => wfM m
theorem SaidAt.upto {n : Nat} {w : World} {A : Option Addr} {k : Nat} {s : Option Me} (h : SaidAt n w A k s) : k ≤ 1 := by
  cases s with
  | none => rw [(said_none h).2]; decide
  | some m => rw [(said_parts h).1]; decide
set_option maxRecDepth 100000 in
set_option maxHeartbeats 2000000 in
theorem rights_none (c : Nat) (w : World) : Calls Tryz.prog 8 #[.slice none 0 c] w fun e w' => e = .returned (.bool true) ∧ Below w.heap.size w w' := by
  go_enter Tryz.func8, Tryz.ntmps8
  go_wp2_with fail
  go_loopw [3] (fun v wr => v = .int .i64 0 ∧ Below w.heap.size w wr) (fun v _ => 0)
  case atStart => exact ⟨rfl, Below.refl _ _⟩
  case round =>
    obtain ⟨rfl, hbr⟩ := hrel
    go_wp2
    go_ret
    exact ⟨rfl, hbr⟩
set_option maxRecDepth 100000 in
set_option maxHeartbeats 2000000 in
theorem rights_some (m : Me) (b : Nat) (A : Option Addr) (c cap : Nat) (w : World) (hm : wfM m) (hb : Bx w b 37 [.int .i64 m.c, .int .i64 m.i, .slice A m.l.length cap]) (hA : ValsAt w A (rowV m.l)) : Calls Tryz.prog 8 #[.slice (some ⟨b, 0, none⟩) 1 c] w fun e w' => e = .returned (.bool (mE m == 0)) ∧ Below w.heap.size w w' := by
  have hR := fun W (h : Below w.heap.size w W) => rright6_any m A cap W hm (hA.below h)
  generalize mE m = x at hR ⊢
  obtain ⟨mc, mi, ml⟩ := m
  unfold encM at hR
  dsimp only at hR hb
  clear hm hA
  go_enter Tryz.func8, Tryz.ntmps8
  go_wp2_with fail
  go_loopw [3] (fun v wr => ∃ k : Nat, k ≤ 1 ∧ v = .int .i64 k ∧ Below w.heap.size w wr ∧ Hid (k = 1 → x = 0)) (fun v _ => 1 - (intOf v).toNat)
  case atStart => exact ⟨0, Nat.zero_le _, rfl, Below.refl _ _, Lib.hid (fun h => absurd h (by decide))⟩
  case round =>
    obtain ⟨k, hk, rfl, hbr, HK⟩ := hrel
    by_cases hk0 : k = 0
    · subst hk0
      have hRr := hR wr hbr
      obtain ⟨x0, x1, x2⟩ := (hb.kept hbr).three
      clear hR hk HK
      go_wp2_with fail
      with_reducible refine hRr.mono ?_
      rintro e w1 ⟨rfl, hb1⟩
      have hB1 := hbr.trans (hb1.mono hbr.size)
      clear hRr hbr hb1 x0 x1 x2 hb
      by_cases hx : x = 0
      · have HX := Lib.hid hx
        subst hx
        go_wp2
        go_roundw
        case rel => exact ⟨1, Nat.le_refl _, rfl, hB1, Lib.hid (by first | exact fun _ => rfl | exact fun _ => trivial | trivial)⟩
        case measure => simp only [intOf]; omega
      · have e1 : (x != 0) = true := bne_iff_ne.2 hx
        have e2 : Hid ((x == 0) = false) := Lib.hid (beq_eq_false_iff_ne.2 hx)
        go_wp2
        go_ret
        exact ⟨by rw [e2.out]; rfl, hB1⟩
    · obtain rfl : k = 1 := by omega
      have hx := HK.out rfl
      have e2 : Hid ((x == 0) = true) := Lib.hid (beq_iff_eq.2 hx)
      clear hR hb HK hx
      go_wp2
      go_ret
      exact ⟨by rw [e2.out]; rfl, hbr⟩
theorem rights_said (s : Option Me) (n : Nat) (A : Option Addr) (k c : Nat) (w : World) (hw : saidWf s) (hS : SaidAt n w A k s) : Calls Tryz.prog 8 #[.slice A k c] w fun e w' => e = .returned (.bool (saidOk s)) ∧ Below w.heap.size w w' := by
  cases s with
  | none =>
    obtain ⟨rfl, rfl⟩ := said_none hS
    exact rights_none c w
  | some m =>
    obtain ⟨rfl, b, A', c', rfl, -, hb, hr⟩ := said_parts hS
    exact rights_some m b A' c c' w hw hb hr.vals
end Go.Proofs.YtebkolhibifbpaaGreatDoor
