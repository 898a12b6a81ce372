/-
  A method's place, its replies' places, and the two tests by which methods are found; nothing that was there is changed. Conditions: ids and numbers of replies as small as the table's; the place that is looked for stands in a box.
-/
import Derived.Deep.RegionHeld3
import Derived.Laws.StructEq
import Derived.Test.YtapjpkcollkikaaWMeths
import Derived.Test.YtapjpkcollkikaaMBox
namespace Go.Proofs.Ytapjpkcollkikaa
open Go.RowKit

def at2 (c i : Int) : List Value := [.int .i64 c, .int .i64 i]
set_option maxHeartbeats 2000000 in
theorem at_any (m : Met) (w : World) :
    Calls Try.prog 14 #[encMet m] w fun e w' => e = .returned (.agg #[.int .i64 m.c, .int .i64 m.i]) ∧ Below w.heap.size w w' := by
  obtain ⟨c, i, v, s, r⟩ := m
  unfold encMet
  dsimp only
  go_enter Try.func14, Try.ntmps14
  go_wp2
  refine bodyPost_ret (v := .agg #[.int .i64 c, .int .i64 i]) ?_ rfl ⟨rfl, ?_⟩
  · rw [results_cell rfl]
    simp [asAddr, Result.andThen, go_sem]
  · exact (((Below.refl _ w).alloc (Nat.le_refl _) _).alloc (by simp) _)

set_option maxHeartbeats 2000000 in
theorem reply_any (m : Met) (k : Int) (w : World) (hi : 0 ≤ m.i ∧ m.i ≤ 1000) (hk : 0 ≤ k ∧ k ≤ 1000) :
    Calls Try.prog 16 #[encMet m, .int .i64 k] w fun e w' => e = .returned (.agg #[.int .i64 m.c, .int .i64 (m.i + 1 + k)]) ∧ Below w.heap.size w w' := by
  obtain ⟨c, i, v, s, r⟩ := m
  unfold encMet
  dsimp only at hi ⊢
  have e1 : IntKind.i64.wrap (i + 1) = i + 1 := by simp only [IntKind.wrap_i64]; omega
  have e2 : IntKind.i64.wrap (i + 1 + k) = i + 1 + k := by simp only [IntKind.wrap_i64]; omega
  go_enter Try.func16, Try.ntmps16
  go_wp2
  refine bodyPost_ret (v := .agg #[.int .i64 c, .int .i64 (i + 1 + k)]) ?_ rfl ⟨rfl, ?_⟩
  · rw [results_cell rfl]
    simp [asAddr, Result.andThen, go_sem]
  · exact (((Below.refl _ w).alloc (Nat.le_refl _) _).alloc (by simp) _)

theorem eq2 (a b c d : Int) (w : World) : (Op.equalIn 10000 27 (.agg #[.int .i64 a, .int .i64 b]) (.agg #[.int .i64 c, .int .i64 d])).run Try.prog w = .ok (a == c && b == d) w := by
  have u3 := Try.underlying3
  have a3 := Try.isAgg3
  have z3 := Try.sizeOf3
  rw [show (10000 : Nat) = 9999 + 1 from rfl, Op.equalIn]
  simp only [Sem.run_bind, run_underlying Try.underlying27, Result.andThen_ok]
  simp only [Std.Legacy.Range.forIn_eq_forIn_range', Std.Legacy.Range.size, Nat.sub_zero, Nat.add_sub_cancel, Nat.div_one, List.range'_succ, List.range'_zero, List.forIn_cons, List.forIn_nil]
  go_simp
  by_cases h1 : a = c <;> by_cases h2 : b = d <;> simp [h1, h2]

set_option maxHeartbeats 2000000 in
theorem look1_any (m : Met) (c i : Int) (B : Nat) (w : World) (hB : Bx w B 27 (at2 c i)) :
    Calls Try.prog 21 #[encMet m, .pointer (some ⟨B, 0, none⟩)] w fun e w' => e = .returned (.bool (isAt c i m)) ∧ Below w.heap.size w w' := by
  have hA := at_any m
  have hE : ∀ w, (Op.equalIn 10000 27 (.agg #[.int .i64 m.c, .int .i64 m.i]) (.agg #[.int .i64 c, .int .i64 i])).run Try.prog w = .ok (isAt c i m) w := fun w => eq2 _ _ _ _ w
  have h1 := hB.alloc (.cells (cellsMet m).toArray 37)
  have h2 := Bx.new w 37 (cellsMet m)
  have hb : Below w.heap.size w (w.alloc (.cells (cellsMet m).toArray 37)) := (Below.refl _ w).alloc (Nat.le_refl _) _
  generalize isAt c i m = q at hE
  obtain ⟨c1, i1, v, s, r⟩ := m
  unfold encMet at hA ⊢
  unfold cellsMet at h1 h2 hb
  dsimp only at hA hE h1 h2 hb ⊢
  go_enter Try.func21, Try.ntmps21
  go_wp2_with fail
  generalize w.alloc (.cells #[.int .i64 c1, .int .i64 i1, .string v, .int .i64 s, .int .i64 r] 37) = w9 at h1 h2 hb
  have keep : ∀ w', Below w9.heap.size w9 w' → w'.cell? ⟨w.heap.size, 0, none⟩ = some (.int .i64 c1) ∧ w'.cell? ⟨w.heap.size, 1, none⟩ = some (.int .i64 i1) ∧ w'.cell? ⟨w.heap.size, 2, none⟩ = some (.string v) ∧ w'.cell? ⟨w.heap.size, 3, none⟩ = some (.int .i64 s) ∧ w'.cell? ⟨w.heap.size, 4, none⟩ = some (.int .i64 r) ∧ w'.cell? ⟨B, 0, none⟩ = some (.int .i64 c) ∧ w'.cell? ⟨B, 1, none⟩ = some (.int .i64 i) := fun w' h => ⟨(h2.kept h).cell 0 (by simp), (h2.kept h).cell 1 (by simp), (h2.kept h).cell 2 (by simp), (h2.kept h).cell 3 (by simp), (h2.kept h).cell 4 (by simp), (h1.kept h).cell 0 (by simp [at2]), (h1.kept h).cell 1 (by simp [at2])⟩
  obtain ⟨x0, x1, x2, x3, x4, y0, y1⟩ := keep w9 (Below.refl _ _)
  have hbs := hb.size
  clear h1 h2 hB
  go_region_held3 (fun w' => w'.cell? ⟨w.heap.size, 0, none⟩ = some (.int .i64 c1) ∧ w'.cell? ⟨w.heap.size, 1, none⟩ = some (.int .i64 i1) ∧ w'.cell? ⟨w.heap.size, 2, none⟩ = some (.string v) ∧ w'.cell? ⟨w.heap.size, 3, none⟩ = some (.int .i64 s) ∧ w'.cell? ⟨w.heap.size, 4, none⟩ = some (.int .i64 r) ∧ w'.cell? ⟨B, 0, none⟩ = some (.int .i64 c) ∧ w'.cell? ⟨B, 1, none⟩ = some (.int .i64 i)) (first | go_keep | (exact keep _ ⟨hq.os, hq.tape, hq.output, hq.size, hq.block⟩)) (first | (go_at_call 14; refine (hA _).mono ?_; rintro e w10 ⟨rfl, hq⟩))
  have hf : Below w9.heap.size w9 w10 := ⟨hq.os, hq.tape, hq.output, hq.size, hq.block⟩
  go_wp2
  go_ret
  exact ⟨rfl, hb.trans (hf.mono hbs)⟩

set_option maxHeartbeats 2000000 in
theorem answered_any (m : Met) (n : Nat) (c i : Int) (w : World) (hi : 0 ≤ m.i ∧ m.i ≤ 1000) (hn : n ≤ 1000) (hr : m.r = n) :
    Calls Try.prog 19 #[encMet m, .agg #[.int .i64 c, .int .i64 i]] w fun e w' => e = .returned (.bool (isBy c i m)) ∧ Below w.heap.size w w' := by
  have hA := fun (k : Nat) (w : World) (hk : k ≤ 1000) => reply_any m k w hi (by omega)
  have hE : ∀ (k : Nat) w, (Op.equalIn 10000 27 (.agg #[.int .i64 m.c, .int .i64 (m.i + 1 + (k : Int))]) (.agg #[.int .i64 c, .int .i64 i])).run Try.prog w = .ok (hitBy c i m k) w := fun k w => eq2 _ _ _ _ w
  have HB := Lib.hid (show isBy c i m = (List.range n).any (hitBy c i m) by rw [isBy, hr]; simp)
  have h0 := Bx.new w 37 (cellsMet m)
  have h2 := h0.alloc (.cells #[.int .i64 c, .int .i64 i] 27)
  have h1 := Bx.new (w.alloc (.cells (cellsMet m).toArray 37)) 27 (at2 c i)
  have hb : Below w.heap.size w ((w.alloc (.cells (cellsMet m).toArray 37)).alloc (.cells #[.int .i64 c, .int .i64 i] 27)) := ((Below.refl _ w).alloc (Nat.le_refl _) _).alloc (by simp) _
  generalize isBy c i m = q at HB
  generalize hitBy c i m = hit at hE HB
  obtain ⟨c1, i1, v, s, r⟩ := m
  unfold encMet at hA ⊢
  unfold cellsMet at h1 h2 hb
  dsimp only at hA hE h1 h2 hb hr ⊢
  subst hr
  rw [World.size_alloc] at h1
  obtain ⟨B, hBd⟩ : ∃ B, B = w.heap.size + 1 := ⟨_, rfl⟩
  rw [← hBd] at h1
  unfold at2 at h1
  clear h0 hi
  go_enter Try.func19, Try.ntmps19
  go_wp2_with fail
  rw [← hBd]
  generalize (w.alloc (.cells #[.int .i64 c1, .int .i64 i1, .string v, .int .i64 s, .int .i64 (n : Int)] 37)).alloc (.cells #[.int .i64 c, .int .i64 i] 27) = w9 at h1 h2 hb
  have keep : ∀ w', Below w9.heap.size w9 w' → w'.cell? ⟨w.heap.size, 0, none⟩ = some (.int .i64 c1) ∧ w'.cell? ⟨w.heap.size, 1, none⟩ = some (.int .i64 i1) ∧ w'.cell? ⟨w.heap.size, 2, none⟩ = some (.string v) ∧ w'.cell? ⟨w.heap.size, 3, none⟩ = some (.int .i64 s) ∧ w'.cell? ⟨w.heap.size, 4, none⟩ = some (.int .i64 (n : Int)) ∧ w'.cell? ⟨B, 0, none⟩ = some (.int .i64 c) ∧ w'.cell? ⟨B, 1, none⟩ = some (.int .i64 i) := fun w' h => ⟨(h2.kept h).cell 0 (by simp), (h2.kept h).cell 1 (by simp), (h2.kept h).cell 2 (by simp), (h2.kept h).cell 3 (by simp), (h2.kept h).cell 4 (by simp), (h1.kept h).cell 0 (by simp), (h1.kept h).cell 1 (by simp)⟩
  have hbs := hb.size
  clear h1 h2 hBd
  go_loopw [8] (fun x wr => ∃ k : Nat, k ≤ n ∧ x = .int .i64 k ∧ Hid (∀ j, j < k → hit j = false) ∧ Below w9.heap.size w9 wr) (fun x _ => n - (intOf x).toNat)
  case atStart => exact ⟨0, Nat.zero_le _, rfl, Lib.hid (fun j hj => absurd hj (by omega)), Below.refl _ _⟩
  case round =>
    obtain ⟨k, hk, rfl, HN, hbr⟩ := hrel
    have hbrs := hbr.size
    by_cases hlt : k < n
    · have hk1 : k ≤ 1000 := by omega
      have hA1 := fun w => hA k w hk1
      have hE1 := hE k
      have HS : Hid (hit k = false → ∀ j, j < k + 1 → hit j = false) := Lib.hid (fun h j hj => by
        rcases Nat.lt_or_ge j k with g | g
        · exact HN.out j g
        · obtain rfl : j = k := by omega
          exact h)
      have HT : Hid (hit k = true → q = true) := Lib.hid (fun h => by rw [HB.out, List.any_eq_true]; exact ⟨k, List.mem_range.2 hlt, h⟩)
      have keep2 := fun w' (h : Below wr.heap.size wr w') => keep w' (hbr.trans (h.mono hbrs))
      obtain ⟨x0, x1, x2, x3, x4, y0, y1⟩ := keep wr hbr
      clear hA hE keep HN
      generalize hit k = hk' at hE1 HS HT
      go_wp2
      go_region_held3 (fun w' => w'.cell? ⟨w.heap.size, 0, none⟩ = some (.int .i64 c1) ∧ w'.cell? ⟨w.heap.size, 1, none⟩ = some (.int .i64 i1) ∧ w'.cell? ⟨w.heap.size, 2, none⟩ = some (.string v) ∧ w'.cell? ⟨w.heap.size, 3, none⟩ = some (.int .i64 s) ∧ w'.cell? ⟨w.heap.size, 4, none⟩ = some (.int .i64 (n : Int)) ∧ w'.cell? ⟨B, 0, none⟩ = some (.int .i64 c) ∧ w'.cell? ⟨B, 1, none⟩ = some (.int .i64 i)) (first | go_keep | (exact keep2 _ ⟨hq.os, hq.tape, hq.output, hq.size, hq.block⟩)) (first | (go_at_call 16; refine (hA1 _).mono ?_; rintro e w10 ⟨rfl, hq⟩))
      have hf : Below wr.heap.size wr w10 := ⟨hq.os, hq.tape, hq.output, hq.size, hq.block⟩
      have hf2 := hbr.trans (hf.mono hbrs)
      have e1 : IntKind.i64.wrap ((k : Int) + 1) = ((k + 1 : Nat) : Int) := by simp only [IntKind.wrap_i64]; omega
      cases hk'
      · have HS2 := Lib.hid (HS.out rfl)
        clear HS HT
        go_wp2
        go_roundw
        case rel => exact ⟨k + 1, hlt, rfl, HS2, hf2⟩
        case measure => simp only [intOf]; omega
      · have HT2 := Lib.hid (HT.out rfl)
        clear HS HT
        go_wp2
        go_ret
        exact ⟨by rw [HT2.out]; rfl, hb.trans (hf2.mono hbs)⟩
    · have HT : Hid (q = false) := Lib.hid (by rw [HB.out, List.any_eq_false]; intro j hj; rw [HN.out j (by have := List.mem_range.1 hj; omega)]; simp)
      clear hA hE HN
      go_wp2
      go_ret
      exact ⟨by rw [HT.out]; rfl, hb.trans (hbr.mono hbs)⟩

set_option maxHeartbeats 2000000 in
theorem asks1_any (m : Met) (n : Nat) (c i : Int) (B : Nat) (w : World) (hi : 0 ≤ m.i ∧ m.i ≤ 1000) (hn : n ≤ 1000) (hr : m.r = n) (hB : Bx w B 27 (at2 c i)) :
    Calls Try.prog 18 #[encMet m, .pointer (some ⟨B, 0, none⟩)] w fun e w' => e = .returned (.bool (isBy c i m)) ∧ Below w.heap.size w w' := by
  have hA := answered_any m n c i (w.alloc (.cells (cellsMet m).toArray 37)) hi hn hr
  have h1 := hB.alloc (.cells (cellsMet m).toArray 37)
  have hb : Below w.heap.size w (w.alloc (.cells (cellsMet m).toArray 37)) := (Below.refl _ w).alloc (Nat.le_refl _) _
  generalize isBy c i m = q at hA
  obtain ⟨c1, i1, v, s, r⟩ := m
  unfold encMet at hA ⊢
  unfold cellsMet at h1 hA hb
  dsimp only at hA h1 hb ⊢
  clear hi hn hr hB
  have y0 : (w.alloc (.cells #[.int .i64 c1, .int .i64 i1, .string v, .int .i64 s, .int .i64 r] 37)).cell? ⟨B, 0, none⟩ = some (.int .i64 c) := h1.cell 0 (by simp [at2])
  have y1 : (w.alloc (.cells #[.int .i64 c1, .int .i64 i1, .string v, .int .i64 s, .int .i64 r] 37)).cell? ⟨B, 1, none⟩ = some (.int .i64 i) := h1.cell 1 (by simp [at2])
  have hbs := hb.size
  go_enter Try.func18, Try.ntmps18
  go_wp2_with fail
  refine hA.mono ?_
  rintro e w10 ⟨rfl, hq⟩
  clear hA y0 y1 h1
  go_wp2
  go_ret
  exact ⟨rfl, hb.trans (hq.mono hbs)⟩
end Go.Proofs.Ytapjpkcollkikaa
