/-
  The document's examples of chapter 5 come out; nothing that was there is changed. No condition.
-/
import Derived.Test.YtapjpkcollkikaaWReps
namespace Go.Proofs.Ytapjpkcollkikaa
open Go.RowKit Go.Maps Go.Shelf

set_option maxHeartbeats 2000000 in
theorem sigShown_any (w : World) :
    Calls Try.prog 6 #[] w fun e w' => e = .returned (.bool true) ∧ Below w.heap.size w w' := by
  have h1 := of_any 10 30 w
  have e1 : sOf 10 30 = ⟨#[115, 108, 115]⟩ := by kernel_rfl
  have e2 : sIs 10 30 = true := by kernel_rfl
  have e3 : sReps 60 70 = [71, 72] := by kernel_rfl
  have h2 := replies_any 60 70
  rw [e1, e2] at h1
  rw [e3] at h2
  clear e1 e2 e3
  go_enter Try.func6, Try.ntmps6
  go_wp2_with fail
  refine h1.mono ?_
  rintro e w1 ⟨rfl, hb⟩
  clear h1
  go_wp2_with fail
  refine (h2 w1).mono ?_
  rintro e w2 ⟨v, rfl, hown, hb2⟩
  clear h2
  obtain ⟨A, c, rfl, hv⟩ := vals_of_row hown
  obtain ⟨b, off, rfl, hbl, hc⟩ := hv (by simp [intVals])
  have c0 : w2.cell? ⟨b, off, none⟩ = some (.int .i64 71) := hc 0 (by simp [intVals])
  have c1 : w2.cell? ⟨b, off + 1, none⟩ = some (.int .i64 72) := hc 1 (by simp [intVals])
  have hb3 := hb.trans (hb2.mono hb.size)
  clear hown hc hv hb hb2
  go_wp2
  go_ret
  exact ⟨rfl, hb3⟩
end Go.Proofs.Ytapjpkcollkikaa
