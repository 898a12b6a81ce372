/-
  The document's own Strings of interchangeref02 answers true at two rows with the same texts; nothing that was there is changed. Condition: there are fewer than 2^50 texts.
-/
import Derived.Test.YtdgpemkoicoheaaDoorMStr
import Derived.Test.YtdgpemkoicoheaaDoorPText
namespace Go.Proofs.YtdgpemkoicoheaaDoor
open Go.RowKit

set_option maxHeartbeats 400000 in
theorem strings_same (A B : Option Addr) (ca cb : Nat) (l : List ByteArray) (w : World) (hl : l.length < 1125899906842624) (hA : ValsAt w A (l.map Value.string)) (hB : ValsAt w B (l.map Value.string)) :
    Calls Tryd.prog 21 #[.slice A l.length ca, .slice B l.length cb] w fun e w' => e = .returned (.bool true) ∧ Below w.heap.size w w' := by
  go_enter Tryd.func21, Tryd.ntmps21
  go_wp2
  go_loopw [5] (fun v wr => ∃ k : Nat, k ≤ l.length ∧ v = .int .i64 k ∧ Below w.heap.size w wr) (fun v _ => l.length - (intOf v).toNat)
  case atStart => exact ⟨0, Nat.zero_le _, rfl, Below.refl _ _⟩
  case round =>
    obtain ⟨k, hk, rfl, hb⟩ := hrel
    by_cases hlt : k < l.length
    · obtain ⟨b1, o1, rfl, hb1, hc1⟩ := hA (by simp; omega)
      obtain ⟨b2, o2, rfl, hb2, hc2⟩ := hB (by simp; omega)
      have h1 := (hb.cell (p := ⟨b1, o1 + k, none⟩) hb1).trans (hc1 k (by simpa using hlt))
      have h2 := (hb.cell (p := ⟨b2, o2 + k, none⟩) hb2).trans (hc2 k (by simpa using hlt))
      rw [List.getElem_map] at h1 h2
      clear hc1 hc2 hA hB
      generalize l[k] = x at *
      go_wp2
      go_quiet (fail)
      go_wp2
      go_roundw
      case rel => exact ⟨k + 1, by omega, by go_num, below_drewN hb _⟩
      case measure => simp [intOf]; omega
    · obtain rfl : k = l.length := by omega
      go_wp2
      go_ret
      exact ⟨rfl, hb⟩
end Go.Proofs.YtdgpemkoicoheaaDoor
