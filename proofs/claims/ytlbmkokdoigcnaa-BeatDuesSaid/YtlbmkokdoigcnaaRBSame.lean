/-
  interchangeref12.Same of two rows that read the same answers true; interchangeref05.Ints too. Nothing that was there is changed. Condition: the row has less than a million places.
-/
import Derived.WalkSmall
import Derived.Deep.QuietTactic
import Derived.BigQuiet
import Derived.Deep.RegionHeld3
import Derived.Test.YtlbmkokdoigcnaaWBeatT
namespace Go.Proofs.Ytlbmkokdoigcnaa
open Go.RowKit Go.Shelf

set_option maxRecDepth 100000 in
set_option maxHeartbeats 2000000 in
theorem rsame_any (A B : Option Addr) (ca cb : Nat) (l : List DP) (w : World) (hA : InD w A ca l) (hB : InD w B cb l) (hl : l.length < 1000000) :
    Calls Try.prog 15 #[.slice A l.length ca, .slice B l.length cb] w fun e w' => e = .returned (.bool true) ∧ Below w.heap.size w w' := by
  obtain ⟨n, hn⟩ : ∃ n, n = l.length := ⟨_, rfl⟩
  rw [← hn]
  have HN := Lib.hid hn
  have HA := Lib.hid hA
  have HB := Lib.hid hB
  rw [← hn] at hl
  clear hn hA hB
  go_enter Try.func15, Try.ntmps15
  go_wp2_with fail
  go_loopw [5] (fun y wr => ∃ k : Nat, y = .int .i64 k ∧ k ≤ n ∧ Below w.heap.size w wr) (fun y _ => n - (intOf y).toNat)
  case atStart => exact ⟨0, rfl, Nat.zero_le _, Below.refl _ _⟩
  case round =>
    obtain ⟨k, rfl, hk, hb⟩ := hrel
    by_cases hlt : k < n
    · have hnl : n = l.length := HN.out
      obtain ⟨g, o, rfl, hgl, hcs⟩ := vals_d (HA.out.below hb).1 (by omega)
      obtain ⟨g', o', rfl, hgl', hcs'⟩ := vals_d (HB.out.below hb).1 (by omega)
      obtain ⟨c1, c2⟩ := hcs k (by omega)
      obtain ⟨d1, d2⟩ := hcs' k (by omega)
      have e1 : IntKind.i64.wrap ((k : Int) + 1) = ((k + 1 : Nat) : Int) := by simp only [IntKind.wrap_i64]; omega
      have k0 : (0 : Int) ≤ (k : Int) := by omega
      have k1 : (k : Int) < (n : Int) := by omega
      generalize atD l k = d at *
      obtain ⟨da, di⟩ := d
      dsimp only at c1 c2 d1 d2
      clear hcs hcs' hnl
      go_wp2
      go_quiet (fail)
      go_wp2
      go_roundw
      case rel => exact ⟨k + 1, rfl, hlt, below_drewN hb _⟩
      case measure => simp only [intOf]; omega
    · obtain rfl : k = n := by omega
      go_wp2
      go_ret
      exact ⟨rfl, hb⟩

/-- a row of numbers, in memory -/
def InI (w : World) (A : Option Addr) (l : List Int) : Prop := ValsAt w A (intVals l)
theorem intVals_length (l : List Int) : (intVals l).length = l.length := by simp [intVals]
theorem ini_at {w : World} {A : Option Addr} {l : List Int} (h : InI w A l) (h0 : 0 < l.length) : ∃ b off, A = some ⟨b, off, none⟩ ∧ b < w.heap.size ∧ ∀ k, k < l.length → w.cell? ⟨b, off + k, none⟩ = some (.int .i64 (l.getD k 0)) := by
  obtain ⟨b, off, hA, hlt, hc⟩ := h (by rw [intVals_length]; exact h0)
  refine ⟨b, off, hA, hlt, fun k hk => ?_⟩
  rw [hc k (by rw [intVals_length]; exact hk)]
  simp [intVals, List.getD_eq_getElem?_getD, hk]
theorem ini_of {w : World} {base : Nat} {v : Value} {l : List Int} {n : Nat} (h : w.ownsRow base 3 1 v n (intVals l)) : ∃ A c, v = .slice A n c ∧ InI w A l ∧ l.length = n := by
  obtain ⟨A, c, rfl, hv, hl⟩ := vals_row h
  rw [intVals_length] at hl
  exact ⟨A, c, rfl, hv, by omega⟩

set_option maxRecDepth 100000 in
set_option maxHeartbeats 2000000 in
theorem rints_any (A B : Option Addr) (ca cb n : Nat) (l : List Int) (w : World) (hA : InI w A l) (hB : InI w B l) (hn : l.length = n) (hl : n < 1000000) :
    Calls Try.prog 20 #[.slice A n ca, .slice B n cb] w fun e w' => e = .returned (.bool true) ∧ Below w.heap.size w w' := by
  have HN := Lib.hid hn
  have HA := Lib.hid hA
  have HB := Lib.hid hB
  clear hn hA hB
  go_enter Try.func20, Try.ntmps20
  go_wp2_with fail
  go_loopw [5] (fun y wr => ∃ k : Nat, y = .int .i64 k ∧ k ≤ n ∧ Below w.heap.size w wr) (fun y _ => n - (intOf y).toNat)
  case atStart => exact ⟨0, rfl, Nat.zero_le _, Below.refl _ _⟩
  case round =>
    obtain ⟨k, rfl, hk, hb⟩ := hrel
    by_cases hlt : k < n
    · have hnl : l.length = n := HN.out
      obtain ⟨g, o, rfl, hgl, hcs⟩ := ini_at (ValsAt.below HA.out hb) (by omega)
      obtain ⟨g', o', rfl, hgl', hcs'⟩ := ini_at (ValsAt.below HB.out hb) (by omega)
      have c1 := hcs k (by omega)
      have d1 := hcs' k (by omega)
      have e1 : IntKind.i64.wrap ((k : Int) + 1) = ((k + 1 : Nat) : Int) := by simp only [IntKind.wrap_i64]; omega
      have k0 : (0 : Int) ≤ (k : Int) := by omega
      have k1 : (k : Int) < (n : Int) := by omega
      generalize l.getD k 0 = d at *
      clear hcs hcs' hnl
      go_wp2
      go_quiet (fail)
      go_wp2
      go_roundw
      case rel => exact ⟨k + 1, rfl, hlt, below_drewN hb _⟩
      case measure => simp only [intOf]; omega
    · obtain rfl : k = n := by omega
      go_wp2
      go_ret
      exact ⟨rfl, hb⟩
end Go.Proofs.Ytlbmkokdoigcnaa
