/-
  The document's own form of chapter 7 tells whether a head is right, but for its size and values; nothing that was there is changed. Conditions: its flags are a uint64.
-/
import Derived.BigQuiet
import Derived.Deep.QuietTactic
import Derived.Deep.RegionHeld3
import Derived.Test.YtjpldfkhacchdaaDoorRPWhich
import Derived.Test.YtjpldfkhacchdaaDoorWPShape
namespace Go.Proofs.YtjpldfkhacchdaaDoor
open Go.RowKit

theorem nat_of_beq {a b : Nat} (h : ((a : Int) == (b : Int)) = true) : a = b := by
  rw [beq_iff_eq] at h
  omega

set_option maxRecDepth 100000 in
set_option maxHeartbeats 8000000 in
theorem rform_any (h : He) (A : Option Addr) (cap : Nat) (w : World) (hf0 : 0 ≤ h.f) (hf1 : h.f < 18446744073709551616) :
    Calls Tryd.prog 36 #[encH h A cap] w fun e w' => e = .returned (.bool (decide (shOk h))) ∧ Below w.heap.size w w' := by
  obtain ⟨c, z, f, l⟩ := h
  unfold encH
  dsimp only at *
  obtain ⟨W0, hW0⟩ : ∃ W0, W0 = w.alloc (.cells #[.int .i64 c, .int .u64 z, .int .u64 f, .slice A l.length cap] 25) := ⟨_, rfl⟩
  have hb0 : Below w.heap.size w W0 := by rw [hW0]; exact (Below.refl _ w).alloc (Nat.le_refl _) _
  have hx : Bx W0 w.heap.size 25 [.int .i64 c, .int .u64 z, .int .u64 f, .slice A l.length cap] := by rw [hW0]; exact Bx.new w 25 [.int .i64 c, .int .u64 z, .int .u64 f, .slice A l.length cap]
  have keep : ∀ w', Below W0.heap.size W0 w' → w'.cell? ⟨w.heap.size, 0, none⟩ = some (.int .i64 c) ∧ w'.cell? ⟨w.heap.size, 2, none⟩ = some (.int .u64 f) ∧ w'.cell? ⟨w.heap.size, 3, none⟩ = some (.slice A l.length cap) := fun w' hb => ⟨(hx.kept hb).cell 0 (by simp), (hx.kept hb).cell 2 (by simp), (hx.kept hb).cell 3 (by simp)⟩
  obtain ⟨x0, x2, x3⟩ := keep W0 (Below.refl _ _)
  clear hx
  have HQ : Hid (∀ q : Bool, (q = true ↔ (c = 60 ∧ f < 65536 ∧ f % 4 = 0 ∧ (wh f).length = l.length)) → decide (shOk ⟨c, z, f, l⟩) = q) := Lib.hid (by
    intro q hq
    cases q
    · exact decide_eq_false (fun h => by have := hq.2 h; cases this)
    · exact decide_eq_true (hq.1 rfl))
  generalize decide (shOk ⟨c, z, f, l⟩) = q at HQ
  cases t1 : (c == 60)
  · have HF : Hid (q = false) := Lib.hid (HQ.out false ⟨(fun h => by cases h), fun h => by rw [h.1] at t1; cases t1⟩)
    clear HQ
    go_enter Tryd.func36, Tryd.ntmps36
    go_wp2_with fail
    rw [← hW0]
    go_quiet (fail)
    go_wp2
    go_ret
    exact ⟨by rw [HF.out]; rfl, below_drewN hb0 _⟩
  · cases t2 : decide (f < 65536)
    · have HF : Hid (q = false) := Lib.hid (HQ.out false ⟨(fun h => by cases h), fun h => by rw [decide_eq_false_iff_not] at t2; exact absurd h.2.1 t2⟩)
      clear HQ
      go_enter Tryd.func36, Tryd.ntmps36
      go_wp2_with fail
      rw [← hW0]
      go_quiet (fail)
      go_wp2
      go_ret
      exact ⟨by rw [HF.out]; rfl, below_drewN hb0 _⟩
    · have hm : f.tmod 4 = f % 4 := Int.tmod_eq_emod_of_nonneg hf0
      cases t3 : (f.tmod 4 == 0)
      · have HF : Hid (q = false) := Lib.hid (HQ.out false ⟨(fun h => by cases h), fun h => by rw [hm, h.2.2.1] at t3; cases t3⟩)
        clear HQ hm
        go_enter Tryd.func36, Tryd.ntmps36
        go_wp2_with fail
        rw [← hW0]
        go_quiet (fail)
        go_wp2
        go_ret
        exact ⟨by rw [HF.out]; rfl, below_drewN hb0 _⟩
      · have HF : Hid (q = (((wh f).length : Int) == (l.length : Int))) := Lib.hid (HQ.out _ ⟨fun h => ⟨by simpa using t1, by simpa using t2, by rw [← hm]; simpa using t3, nat_of_beq h⟩, fun h => by simp [h.2.2.2]⟩)
        have hWh := fun W => rwhich_len f W hf0 hf1
        clear HQ hm
        generalize (wh f).length = n at HF hWh
        go_enter Tryd.func36, Tryd.ntmps36
        go_wp2_with fail
        rw [← hW0]
        clear hW0
        go_region_held3 (fun w' => w'.cell? ⟨w.heap.size, 0, none⟩ = some (.int .i64 c) ∧ w'.cell? ⟨w.heap.size, 2, none⟩ = some (.int .u64 f) ∧ w'.cell? ⟨w.heap.size, 3, none⟩ = some (.slice A l.length cap)) (first | go_keep | (exact keep _ ⟨hq.os, hq.tape, hq.output, hq.size, hq.block⟩)) (first | (go_at_call 30; refine (hWh _).mono ?_; rintro e w3 ⟨A2, c2, rfl, -, hq⟩))
        have hf : Below W0.heap.size W0 w3 := ⟨hq.os, hq.tape, hq.output, hq.size, hq.block⟩
        go_wp2
        go_ret
        exact ⟨by rw [HF.out]; rfl, hb0.trans (hf.mono hb0.size)⟩
end Go.Proofs.YtjpldfkhacchdaaDoor
