/-
  BeatNone answers true, whatever the numbers; nothing that was there is changed. No condition.
-/
import Derived.Test.YtlbmkokdoigcnaaWBShown
import Derived.Test.YtlbmkokdoigcnaaWBTick
namespace Go.Proofs.Ytlbmkokdoigcnaa
open Go.RowKit Go.Shelf

theorem held_idem (n m : Int) (h : 0 ≤ m) : heldN (heldN n m) m = heldN n m := by unfold heldN; omega
theorem held_in (n m : Int) (h1 : 0 ≤ n) (h2 : n ≤ m) : heldN n m = n := by unfold heldN; omega
theorem cnt_in (k : BT) (h : wfB k) : cnt k = k := by
  obtain ⟨e, i, o⟩ := k
  obtain ⟨h1, h2, h3, h4, h5, h6⟩ := h
  unfold cnt
  dsimp only at *
  rw [held_in e 65535 h1 h2, held_in i _ h3 h4, held_in o _ h5 h6]

set_option maxRecDepth 100000 in
set_option maxHeartbeats 4000000 in
theorem beatNone_walk (a b now : Int) (w : World) : Calls Try.prog 9 #[.int .i64 a, .int .i64 b, .int .i64 now] w fun e w' => e = .returned (.bool true) ∧ Below w.heap.size w w' := by
  have hT := tick_any ⟨0, a, b⟩ now
  have hW := when_any ⟨0, a, b⟩
  have hk : ∃ x y, cnt ⟨0, a, b⟩ = ⟨0, x, y⟩ ∧ 0 ≤ x ∧ x ≤ 1099511627776 ∧ 0 ≤ y ∧ y ≤ 1099511627776 := by
    have h := cnt_wf ⟨0, a, b⟩
    exact ⟨_, _, rfl, h.2.2.1, h.2.2.2.1, h.2.2.2.2.1, h.2.2.2.2.2⟩
  obtain ⟨x, y, hk, hx1, hx2, hy1, hy2⟩ := hk
  rw [hk] at hT hW
  have hG := got_any ⟨0, x, y⟩ now
  have hS := sent_any ⟨0, x, y⟩ now
  rw [cnt_in ⟨0, x, y⟩ ⟨Int.le_refl 0, (by show (0 : Int) ≤ 65535; decide), hx1, hx2, hy1, hy2⟩] at hG hS
  generalize heldN now 1099511627776 = t at *
  have hs : sendK ⟨0, x, y⟩ t = false := by simp [sendK]
  have hg : goneK ⟨0, x, y⟩ t = false := by simp [goneK]
  have ht : tickK ⟨0, x, y⟩ t = ⟨0, x, y⟩ := by rw [tickK, hs]; rfl
  rw [hs, hg, ht] at hT
  generalize whenK ⟨0, x, y⟩ = z at hW
  unfold gotK at hG
  unfold sentK at hS
  unfold encB at *
  dsimp only at *
  have t1 : decide (x ≤ max x t) = true := by simp; omega
  have t2 : decide (y ≤ max y t) = true := by simp; omega
  have t1' : x ≤ max x t := by omega
  have t2' : y ≤ max y t := by omega
  generalize max x t = mx at *
  generalize max y t = my at *
  have f1 : ∀ (w : World) (p q r : Value), (Instr.field 41 (.agg #[p, q, r]) 1).run Try.prog w = .ok q w := fun _ _ _ _ => by kernel_rfl
  have f2 : ∀ (w : World) (p q r : Value), (Instr.field 41 (.agg #[p, q, r]) 2).run Try.prog w = .ok r w := fun _ _ _ _ => by kernel_rfl
  clear hk hx1 hx2 hy1 hy2 hs hg ht
  go_enter Try.func9, Try.ntmps9
  go_wp2_with fail
  refine (bshown_any w).mono ?_
  rintro e w1 ⟨rfl, hb1⟩
  go_wp2_with fail
  refine (hT _).mono ?_
  rintro e w2 ⟨rfl, hb2⟩
  have hB2 := hb1.trans (hb2.mono hb1.size)
  have hb3 : Below w2.heap.size w2 (w2.alloc (.cells #[.int .i64 0, .int .i64 x, .int .i64 y] 41)) := (Below.refl _ w2).alloc (Nat.le_refl _) _
  have hx3 := Bx.new w2 41 [.int .i64 0, .int .i64 x, .int .i64 y]
  obtain ⟨W3, hW3⟩ : ∃ W3, W3 = w2.alloc (.cells #[.int .i64 0, .int .i64 x, .int .i64 y] 41) := ⟨_, rfl⟩
  have hx3' : Bx W3 w2.heap.size 41 [.int .i64 0, .int .i64 x, .int .i64 y] := by rw [hW3]; exact hx3
  rw [← hW3] at hb3
  have hB3 := hB2.trans (hb3.mono hB2.size)
  clear hb1 hb2 hB2 hT hb3 hx3
  go_wp2_with fail
  rw [← hW3]
  clear hW3
  refine (hW _).mono ?_
  rintro e w4 ⟨rfl, hb4⟩
  have hB4 := hB3.trans (hb4.mono hB3.size)
  have hx4 := hx3'.kept hb4
  have keep : ∀ w', Below w4.heap.size w4 w' → w'.cell? ⟨w2.heap.size, 0, none⟩ = some (.int .i64 0) ∧ w'.cell? ⟨w2.heap.size, 1, none⟩ = some (.int .i64 x) ∧ w'.cell? ⟨w2.heap.size, 2, none⟩ = some (.int .i64 y) := fun w' h => (hx4.kept h).threeB
  clear hW hB3 hb4 hx3' hx4
  go_upto_region 4 with fail
  go_region_held3 (fun w' => w'.cell? ⟨w2.heap.size, 0, none⟩ = some (.int .i64 0) ∧ w'.cell? ⟨w2.heap.size, 1, none⟩ = some (.int .i64 x) ∧ w'.cell? ⟨w2.heap.size, 2, none⟩ = some (.int .i64 y)) (first | (with_reducible exact keep _ hf2) | (with_reducible exact keep _ hf1) | (with_reducible exact keep _ (Below.refl _ w4).drew)) (first | (go_at_call 23; refine (hG _).mono ?_; rintro e' w5 ⟨rfl, hr5⟩; have hf1 : Below w4.heap.size w4 w5 := ⟨hr5.os, hr5.tape, hr5.output, hr5.size, hr5.block⟩) | (go_at_call 24; refine (hS _).mono ?_; rintro e' w6 ⟨rfl, hr6⟩; have hf2 : Below w4.heap.size w4 w6 := hf1.trans (hr6.mono hf1.size)))
  have hB6 := hB4.trans (hf2.mono hB4.size)
  clear keep hf1 hf2 hr5 hr6 hG hS hB4
  go_wp2
  go_ret
  exact ⟨rfl, hB6⟩
end Go.Proofs.Ytlbmkokdoigcnaa
