/-
  beat.Tick, When, Got and Sent, as plain functions say. Nothing that was there is changed. No condition.
-/
import Derived.Test.YtlbmkokdoigcnaaWBCount
namespace Go.Proofs.Ytlbmkokdoigcnaa
open Go.RowKit

/-- numbers that count -/
def wfB (k : BT) : Prop := 0 ≤ k.e ∧ k.e ≤ 65535 ∧ 0 ≤ k.i ∧ k.i ≤ 1099511627776 ∧ 0 ≤ k.o ∧ k.o ≤ 1099511627776
theorem cnt_wf (b : BT) : wfB (cnt b) := by
  have h1 := held_le b.e 65535 (by decide)
  have h2 := held_le b.i 1099511627776 (by decide)
  have h3 := held_le b.o 1099511627776 (by decide)
  exact ⟨h1.1, h1.2, h2.1, h2.2, h3.1, h3.2⟩
def sendK (k : BT) (t : Int) : Bool := !(k.e == 0) && decide (k.o + k.e ≤ t)
def goneK (k : BT) (t : Int) : Bool := !(k.e == 0) && decide (k.i + 2 * k.e ≤ t)
def tickK (k : BT) (t : Int) : BT := if sendK k t = true then ⟨k.e, k.i, t⟩ else k

set_option maxRecDepth 100000 in
set_option maxHeartbeats 1000000 in
theorem sendAt_any (k : BT) (hk : wfB k) (w : World) : Calls Try.prog 35 #[encB k] w fun e w' => e = .returned (.int .i64 (k.o + k.e)) ∧ Below w.heap.size w w' := by
  obtain ⟨e, i, o⟩ := k
  obtain ⟨h1, h2, h3, h4, h5, h6⟩ := hk
  unfold encB
  dsimp only at *
  have e1 : IntKind.i64.wrap (o + e) = o + e := by simp only [IntKind.wrap_i64]; omega
  clear h1 h2 h3 h4 h5 h6
  go_enter Try.func35, Try.ntmps35
  go_wp2
  go_ret
  exact ⟨rfl, (Below.refl _ w).alloc (Nat.le_refl _) _⟩
set_option maxRecDepth 100000 in
set_option maxHeartbeats 1000000 in
theorem goneAt_any (k : BT) (hk : wfB k) (w : World) : Calls Try.prog 36 #[encB k] w fun e w' => e = .returned (.int .i64 (k.i + 2 * k.e)) ∧ Below w.heap.size w w' := by
  obtain ⟨e, i, o⟩ := k
  obtain ⟨h1, h2, h3, h4, h5, h6⟩ := hk
  unfold encB
  dsimp only at *
  obtain ⟨d, hd⟩ : ∃ d : Int, d = 2 * e := ⟨_, rfl⟩
  rw [← hd]
  have e1 : IntKind.i64.wrap (2 * e) = d := by simp only [IntKind.wrap_i64]; omega
  have e2 : IntKind.i64.wrap (i + d) = i + d := by simp only [IntKind.wrap_i64]; omega
  clear h1 h2 h3 h4 h5 h6 hd
  go_enter Try.func36, Try.ntmps36
  go_wp2
  go_ret
  exact ⟨rfl, (Below.refl _ w).alloc (Nat.le_refl _) _⟩

set_option maxRecDepth 100000 in
set_option maxHeartbeats 2000000 in
theorem tick_any (b : BT) (now : Int) (w : World) : Calls Try.prog 21 #[encB b, .int .i64 now] w fun e w' =>
    e = .returned (.tuple #[encB (tickK (cnt b) (heldN now 1099511627776)), .bool (sendK (cnt b) (heldN now 1099511627776)), .bool (goneK (cnt b) (heldN now 1099511627776))]) ∧ Below w.heap.size w w' := by
  have hC := counted_any b
  have hM := moment_any now
  have hw := cnt_wf b
  generalize cnt b = k at *
  generalize heldN now 1099511627776 = t at *
  have hS := sendAt_any k hw
  have hG := goneAt_any k hw
  obtain ⟨be, bi, bo⟩ := b
  obtain ⟨e, i, o⟩ := k
  unfold encB at *
  dsimp only at *
  clear hw
  obtain ⟨W0, hW0⟩ : ∃ W0, W0 = (w.alloc (.cells #[.int .i64 be, .int .i64 bi, .int .i64 bo] 41)).alloc (.cells #[.int .i64 0, .int .i64 0, .int .i64 0] 41) := ⟨_, rfl⟩
  have hb0 : Below w.heap.size w W0 := by rw [hW0]; exact ((Below.refl _ w).alloc (Nat.le_refl _) _).alloc (by simp) _
  have hx0 : Bx W0 w.heap.size 41 [.int .i64 be, .int .i64 bi, .int .i64 bo] := by rw [hW0]; exact (Bx.new w _ _).alloc _
  have hx1 : Bx W0 (w.heap.size + 1) 41 [.int .i64 0, .int .i64 0, .int .i64 0] := by
    have h := Bx.new (w.alloc (.cells #[.int .i64 be, .int .i64 bi, .int .i64 bo] 41)) 41 [.int .i64 0, .int .i64 0, .int .i64 0]
    rw [World.size_alloc] at h
    rw [hW0]
    exact h
  obtain ⟨x0, x1, x2⟩ := hx0.threeB
  go_enter Try.func21, Try.ntmps21
  go_wp2_with fail
  rw [← hW0]
  clear hW0
  go_wp2_with fail
  with_reducible refine (hC _).mono ?_
  rintro e' w1 ⟨rfl, hb1⟩
  have hy0 := hx0.kept hb1
  have hy1 := hx1.kept hb1
  have hB1 := hb0.trans (hb1.mono hb0.size)
  clear x0 x1 x2 hx0 hx1 hb0 hb1 hC
  go_wp2_with fail
  with_reducible refine (hM _).mono ?_
  rintro e' w2 ⟨rfl, rfl⟩
  obtain ⟨p0, q0, p1, q1, p2, q2, hz0⟩ := hy0.store3 (.int .i64 e) (.int .i64 i) (.int .i64 o)
  have hz1 := hy1.other3 (B := w.heap.size) (by omega) (.int .i64 e) (.int .i64 i) (.int .i64 o)
  have hB2 := below_store3 hB1 (B := w.heap.size) (by omega) (.int .i64 e) (.int .i64 i) (.int .i64 o)
  obtain ⟨z0, z1, z2⟩ := hz0.threeB
  clear hy0 hy1 hB1 hM
  rcases Bool.eq_false_or_eq_true (e == 0) with t0 | t0
  · have HE : Hid (sendK ⟨e, i, o⟩ t = false ∧ goneK ⟨e, i, o⟩ t = false ∧ tickK ⟨e, i, o⟩ t = ⟨e, i, o⟩) := Lib.hid (by
      have h1 : sendK ⟨e, i, o⟩ t = false := by simp [sendK, t0]
      have h2 : goneK ⟨e, i, o⟩ t = false := by simp [goneK, t0]
      exact ⟨h1, h2, by rw [tickK, h1]; rfl⟩)
    obtain ⟨r0, s0, r1, s1, r2, s2, hz3⟩ := hz1.store3 (.int .i64 e) (.int .i64 i) (.int .i64 o)
    have hB3 := below_store3 hB2 (B := w.heap.size + 1) (by omega) (.int .i64 e) (.int .i64 i) (.int .i64 o)
    obtain ⟨y0, y1, y2⟩ := hz3.threeB
    clear hz0 hz1 hz3 hB2 hS hG
    go_wp2
    refine bodyPost_ret (v := .tuple #[.agg #[.int .i64 e, .int .i64 i, .int .i64 o], .bool false, .bool false]) ?_ rfl ⟨by rw [HE.out.1, HE.out.2.1, HE.out.2.2], hB3⟩
    rw [results_ctt rfl]
    simp [asAddr, Result.andThen, go_sem, y0, y1, y2]
  · have HE : Hid (sendK ⟨e, i, o⟩ t = decide (o + e ≤ t) ∧ goneK ⟨e, i, o⟩ t = decide (i + 2 * e ≤ t)) := Lib.hid (by simp [sendK, goneK, t0])
    obtain ⟨W3, hW3⟩ : ∃ W3, W3 = ((w2.setCell ⟨w.heap.size, 0, none⟩ (.int .i64 e)).setCell ⟨w.heap.size, 1, none⟩ (.int .i64 i)).setCell ⟨w.heap.size, 2, none⟩ (.int .i64 o) := ⟨_, rfl⟩
    rw [← hW3] at hz0 hz1 hB2 z0 z1 z2
    go_upto_region 4 with fail
    rw [← hW3]
    clear hW3 p0 q0 p1 q1 p2 q2
    have keep : ∀ w', Below W3.heap.size W3 w' → w'.cell? ⟨w.heap.size, 0, none⟩ = some (.int .i64 e) ∧ w'.cell? ⟨w.heap.size, 1, none⟩ = some (.int .i64 i) ∧ w'.cell? ⟨w.heap.size, 2, none⟩ = some (.int .i64 o) := fun w' h => (hz0.kept h).threeB
    generalize hu1 : o + e = u1 at *
    generalize hu2 : i + 2 * e = u2 at *
    have HU := Lib.hid hu1
    clear hu1 hu2
    go_region_held3 (fun w' => w'.cell? ⟨w.heap.size, 0, none⟩ = some (.int .i64 e) ∧ w'.cell? ⟨w.heap.size, 1, none⟩ = some (.int .i64 i) ∧ w'.cell? ⟨w.heap.size, 2, none⟩ = some (.int .i64 o)) (first | (with_reducible exact keep _ hf2) | (with_reducible exact keep _ hf1) | (with_reducible exact keep _ (Below.refl _ W3).drew)) (first | (go_at_call 35; refine (hS _).mono ?_; rintro e' w4 ⟨rfl, hr4⟩; have hf1 : Below W3.heap.size W3 w4 := ⟨hr4.os, hr4.tape, hr4.output, hr4.size, hr4.block⟩) | (go_at_call 36; refine (hG _).mono ?_; rintro e' w5 ⟨rfl, hr5⟩; have hf2 : Below W3.heap.size W3 w5 := hf1.trans (hr5.mono hf1.size)))
    have hB5 := hB2.trans (hf2.mono hB2.size)
    have hz5 := hz0.kept hf2
    have hr5' := hz1.kept hf2
    clear hS hG keep hr4 hf1 hr5 hf2 hz0 hz1 hB2 z0 z1 z2
    rcases Bool.eq_false_or_eq_true (decide (u1 ≤ t)) with t1 | t1
    · have HF : Hid (sendK ⟨e, i, o⟩ t = true ∧ tickK ⟨e, i, o⟩ t = ⟨e, i, t⟩ ∧ goneK ⟨e, i, o⟩ t = decide (u2 ≤ t)) := Lib.hid (by
        have h1 : sendK ⟨e, i, o⟩ t = true := HE.out.1.trans t1
        exact ⟨h1, by rw [tickK, h1]; rfl, HE.out.2⟩)
      generalize decide (u2 ≤ t) = g at *
      have t1' : u1 ≤ t := by simpa using t1
      have g2 := hz5.cell 2 (by simp)
      have gf := hz5.frozen 2
      dsimp only [List.getElem_cons_zero, List.getElem_cons_succ] at g2
      have hz6 := hz5.set 2 (.int .i64 t)
      simp only [List.set_cons_succ, List.set_cons_zero] at hz6
      obtain ⟨v0, v1, v2⟩ := hz6.threeB
      have hr6 := hr5'.other (B' := w.heap.size) (by omega) 2 (.int .i64 t)
      have hB6 := hB5.setCell (p := ⟨w.heap.size, 2, none⟩) (Nat.le_refl _) (.int .i64 t)
      obtain ⟨r0, s0, r1, s1, r2, s2, hz7⟩ := hr6.store3 (.int .i64 e) (.int .i64 i) (.int .i64 t)
      have hB7 := below_store3 hB6 (B := w.heap.size + 1) (by omega) (.int .i64 e) (.int .i64 i) (.int .i64 t)
      obtain ⟨y0, y1, y2⟩ := hz7.threeB
      clear hz5 hr5' hz6 hr6 hz7 hB5 hB6 HE
      go_wp2
      refine bodyPost_ret (v := .tuple #[.agg #[.int .i64 e, .int .i64 i, .int .i64 t], .bool true, .bool g]) ?_ rfl ⟨by rw [HF.out.1, HF.out.2.1, HF.out.2.2], hB7⟩
      rw [results_ctt rfl]
      simp [asAddr, Result.andThen, go_sem, y0, y1, y2, t1']
    · have HF : Hid (sendK ⟨e, i, o⟩ t = false ∧ tickK ⟨e, i, o⟩ t = ⟨e, i, o⟩ ∧ goneK ⟨e, i, o⟩ t = decide (u2 ≤ t)) := Lib.hid (by
        have h1 : sendK ⟨e, i, o⟩ t = false := HE.out.1.trans t1
        exact ⟨h1, by rw [tickK, h1]; rfl, HE.out.2⟩)
      generalize decide (u2 ≤ t) = g at *
      have t1' : ¬ (u1 ≤ t) := by simpa using t1
      obtain ⟨v0, v1, v2⟩ := hz5.threeB
      obtain ⟨r0, s0, r1, s1, r2, s2, hz7⟩ := hr5'.store3 (.int .i64 e) (.int .i64 i) (.int .i64 o)
      have hB7 := below_store3 hB5 (B := w.heap.size + 1) (by omega) (.int .i64 e) (.int .i64 i) (.int .i64 o)
      obtain ⟨y0, y1, y2⟩ := hz7.threeB
      clear hz5 hr5' hz7 hB5 HE
      go_wp2
      refine bodyPost_ret (v := .tuple #[.agg #[.int .i64 e, .int .i64 i, .int .i64 o], .bool false, .bool g]) ?_ rfl ⟨by rw [HF.out.1, HF.out.2.1, HF.out.2.2], hB7⟩
      rw [results_ctt rfl]
      simp [asAddr, Result.andThen, go_sem, y0, y1, y2]
/-- what is earlier -/
def whenK (k : BT) : Int := if k.e = 0 then 0 else min (k.o + k.e) (k.i + 2 * k.e)

set_option maxRecDepth 100000 in
set_option maxHeartbeats 2000000 in
theorem when_any (b : BT) (w : World) : Calls Try.prog 22 #[encB b] w fun e w' =>
    e = .returned (.tuple #[.int .i64 (whenK (cnt b)), .bool (!((cnt b).e == 0))]) ∧ Below w.heap.size w w' := by
  have hC := counted_any b
  have hw := cnt_wf b
  generalize cnt b = k at *
  have hS := sendAt_any k hw
  have hG := goneAt_any k hw
  obtain ⟨be, bi, bo⟩ := b
  obtain ⟨e, i, o⟩ := k
  unfold encB at *
  dsimp only at *
  clear hw
  obtain ⟨W0, hW0⟩ : ∃ W0, W0 = w.alloc (.cells #[.int .i64 be, .int .i64 bi, .int .i64 bo] 41) := ⟨_, rfl⟩
  have hb0 : Below w.heap.size w W0 := by rw [hW0]; exact (Below.refl _ w).alloc (Nat.le_refl _) _
  have hx0 : Bx W0 w.heap.size 41 [.int .i64 be, .int .i64 bi, .int .i64 bo] := by rw [hW0]; exact Bx.new w _ _
  obtain ⟨x0, x1, x2⟩ := hx0.threeB
  obtain ⟨z, hz⟩ : ∃ z, z = whenK ⟨e, i, o⟩ := ⟨_, rfl⟩
  rw [← hz]
  have HZ := Lib.hid hz
  clear hz
  go_enter Try.func22, Try.ntmps22
  go_wp2_with fail
  rw [← hW0]
  clear hW0
  go_wp2_with fail
  with_reducible refine (hC _).mono ?_
  rintro e' w1 ⟨rfl, hb1⟩
  have hy0 := hx0.kept hb1
  have hB1 := hb0.trans (hb1.mono hb0.size)
  clear x0 x1 x2 hx0 hb0 hb1 hC
  obtain ⟨p0, q0, p1, q1, p2, q2, hz0⟩ := hy0.store3 (.int .i64 e) (.int .i64 i) (.int .i64 o)
  have hB2 := below_store3 hB1 (B := w.heap.size) (by omega) (.int .i64 e) (.int .i64 i) (.int .i64 o)
  obtain ⟨z0, z1, z2⟩ := hz0.threeB
  clear hy0 hB1
  rcases Bool.eq_false_or_eq_true (e == 0) with t0 | t0
  · have HE : Hid (z = 0) := Lib.hid (by rw [HZ.out, whenK, if_pos (by simpa using t0)])
    have HT := Lib.hid t0
    clear hz0 hS hG HZ
    go_wp2
    go_ret2
    exact ⟨by rw [HE.out, HT.out]; rfl, hB2⟩
  · have HE : Hid (z = min (o + e) (i + 2 * e)) := Lib.hid (by rw [HZ.out, whenK, if_neg (by simpa using t0)])
    have HT := Lib.hid t0
    obtain ⟨W3, hW3⟩ : ∃ W3, W3 = ((w1.setCell ⟨w.heap.size, 0, none⟩ (.int .i64 e)).setCell ⟨w.heap.size, 1, none⟩ (.int .i64 i)).setCell ⟨w.heap.size, 2, none⟩ (.int .i64 o) := ⟨_, rfl⟩
    rw [← hW3] at hz0 hB2 z0 z1 z2
    go_upto_region 4 with fail
    rw [← hW3]
    clear hW3 p0 q0 p1 q1 p2 q2
    have keep : ∀ w', Below W3.heap.size W3 w' → w'.cell? ⟨w.heap.size, 0, none⟩ = some (.int .i64 e) ∧ w'.cell? ⟨w.heap.size, 1, none⟩ = some (.int .i64 i) ∧ w'.cell? ⟨w.heap.size, 2, none⟩ = some (.int .i64 o) := fun w' h => (hz0.kept h).threeB
    generalize hu1 : o + e = u1 at *
    generalize hu2 : i + 2 * e = u2 at *
    clear hu1 hu2 HZ
    go_region_held3 (fun w' => w'.cell? ⟨w.heap.size, 0, none⟩ = some (.int .i64 e) ∧ w'.cell? ⟨w.heap.size, 1, none⟩ = some (.int .i64 i) ∧ w'.cell? ⟨w.heap.size, 2, none⟩ = some (.int .i64 o)) (first | (with_reducible exact keep _ hf2) | (with_reducible exact keep _ hf1) | (with_reducible exact keep _ (Below.refl _ W3).drew)) (first | (go_at_call 35; refine (hS _).mono ?_; rintro e' w4 ⟨rfl, hr4⟩; have hf1 : Below W3.heap.size W3 w4 := ⟨hr4.os, hr4.tape, hr4.output, hr4.size, hr4.block⟩) | (go_at_call 36; refine (hG _).mono ?_; rintro e' w5 ⟨rfl, hr5⟩; have hf2 : Below W3.heap.size W3 w5 := hf1.trans (hr5.mono hf1.size)))
    have hB5 := hB2.trans (hf2.mono hB2.size)
    clear hS hG keep hr4 hf1 hr5 hf2 hz0 hB2 z0 z1 z2
    go_wp2
    go_ret2
    exact ⟨by rw [HE.out, HT.out]; rfl, hB5⟩

/-- later, if it is -/
def gotK (k : BT) (t : Int) : BT := ⟨k.e, max k.i t, k.o⟩
def sentK (k : BT) (t : Int) : BT := ⟨k.e, k.i, max k.o t⟩
set_option maxRecDepth 100000 in
set_option maxHeartbeats 2000000 in
theorem got_any (b : BT) (now : Int) (w : World) : Calls Try.prog 23 #[encB b, .int .i64 now] w fun e w' =>
    e = .returned (encB (gotK (cnt b) (heldN now 1099511627776))) ∧ Below w.heap.size w w' := by
  have hC := counted_any b
  have hM := moment_any now
  generalize cnt b = k at *
  generalize heldN now 1099511627776 = t at *
  obtain ⟨be, bi, bo⟩ := b
  obtain ⟨e, i, o⟩ := k
  unfold gotK
  unfold encB at *
  dsimp only at *
  generalize hm : max i t = m at *
  have HM := Lib.hid hm
  obtain ⟨W0, hW0⟩ : ∃ W0, W0 = (w.alloc (.cells #[.int .i64 be, .int .i64 bi, .int .i64 bo] 41)).alloc (.cells #[.int .i64 0, .int .i64 0, .int .i64 0] 41) := ⟨_, rfl⟩
  have hb0 : Below w.heap.size w W0 := by rw [hW0]; exact ((Below.refl _ w).alloc (Nat.le_refl _) _).alloc (by simp) _
  have hx0 : Bx W0 w.heap.size 41 [.int .i64 be, .int .i64 bi, .int .i64 bo] := by rw [hW0]; exact (Bx.new w _ _).alloc _
  have hx1 : Bx W0 (w.heap.size + 1) 41 [.int .i64 0, .int .i64 0, .int .i64 0] := by
    have h := Bx.new (w.alloc (.cells #[.int .i64 be, .int .i64 bi, .int .i64 bo] 41)) 41 [.int .i64 0, .int .i64 0, .int .i64 0]
    rw [World.size_alloc] at h
    rw [hW0]
    exact h
  obtain ⟨x0, x1, x2⟩ := hx0.threeB
  go_enter Try.func23, Try.ntmps23
  go_wp2_with fail
  rw [← hW0]
  clear hW0
  go_wp2_with fail
  with_reducible refine (hC _).mono ?_
  rintro e' w1 ⟨rfl, hb1⟩
  have hy0 := hx0.kept hb1
  have hy1 := hx1.kept hb1
  have hB1 := hb0.trans (hb1.mono hb0.size)
  clear x0 x1 x2 hx0 hx1 hb0 hb1 hC
  obtain ⟨p0, q0, p1, q1, p2, q2, hz0⟩ := hy0.store3 (.int .i64 e) (.int .i64 i) (.int .i64 o)
  have hz1 := hy1.other3 (B := w.heap.size) (by omega) (.int .i64 e) (.int .i64 i) (.int .i64 o)
  have hB2 := below_store3 hB1 (B := w.heap.size) (by omega) (.int .i64 e) (.int .i64 i) (.int .i64 o)
  obtain ⟨z0, z1, z2⟩ := hz0.threeB
  obtain ⟨W3, hW3⟩ : ∃ W3, W3 = ((w1.setCell ⟨w.heap.size, 0, none⟩ (.int .i64 e)).setCell ⟨w.heap.size, 1, none⟩ (.int .i64 i)).setCell ⟨w.heap.size, 2, none⟩ (.int .i64 o) := ⟨_, rfl⟩
  rw [← hW3] at hz0 hz1 hB2 z0 z1 z2
  clear hy0 hy1 hB1
  go_upto_region 2 with fail
  rw [← hW3]
  clear hW3 p0 q0 p1 q1 p2 q2
  have gf := hz0.frozen 1
  have hz6 := hz0.set 1 (.int .i64 m)
  simp only [List.set_cons_succ, List.set_cons_zero] at hz6
  obtain ⟨v0, v1, v2⟩ := hz6.threeB
  have hr6 := hz1.other (B' := w.heap.size) (by omega) 1 (.int .i64 m)
  have hB6 := hB2.setCell (p := ⟨w.heap.size, 1, none⟩) (Nat.le_refl _) (.int .i64 m)
  obtain ⟨r0, s0, r1, s1, r2, s2, hz7⟩ := hr6.store3 (.int .i64 e) (.int .i64 m) (.int .i64 o)
  have hB7 := below_store3 hB6 (B := w.heap.size + 1) (by omega) (.int .i64 e) (.int .i64 m) (.int .i64 o)
  obtain ⟨y0, y1, y2⟩ := hz7.threeB
  have HB := Lib.hid hB7
  clear hz0 hz1 hB2 hz6 hr6 hB6 hz7 hB7
  go_region_with (go_at_call 34; with_reducible refine (hM _).mono ?_; rintro e' w' ⟨rfl, rfl⟩)
  all_goals (
    go_wp2
    refine bodyPost_ret (v := .agg #[.int .i64 e, .int .i64 m, .int .i64 o]) ?_ rfl ⟨rfl, HB.out.drew⟩
    simp [results, Try.results23, asAddr, Result.andThen, go_sem, y0, y1, y2])

set_option maxRecDepth 100000 in
set_option maxHeartbeats 2000000 in
theorem sent_any (b : BT) (now : Int) (w : World) : Calls Try.prog 24 #[encB b, .int .i64 now] w fun e w' =>
    e = .returned (encB (sentK (cnt b) (heldN now 1099511627776))) ∧ Below w.heap.size w w' := by
  have hC := counted_any b
  have hM := moment_any now
  generalize cnt b = k at *
  generalize heldN now 1099511627776 = t at *
  obtain ⟨be, bi, bo⟩ := b
  obtain ⟨e, i, o⟩ := k
  unfold sentK
  unfold encB at *
  dsimp only at *
  generalize hm : max o t = m at *
  have HM := Lib.hid hm
  obtain ⟨W0, hW0⟩ : ∃ W0, W0 = (w.alloc (.cells #[.int .i64 be, .int .i64 bi, .int .i64 bo] 41)).alloc (.cells #[.int .i64 0, .int .i64 0, .int .i64 0] 41) := ⟨_, rfl⟩
  have hb0 : Below w.heap.size w W0 := by rw [hW0]; exact ((Below.refl _ w).alloc (Nat.le_refl _) _).alloc (by simp) _
  have hx0 : Bx W0 w.heap.size 41 [.int .i64 be, .int .i64 bi, .int .i64 bo] := by rw [hW0]; exact (Bx.new w _ _).alloc _
  have hx1 : Bx W0 (w.heap.size + 1) 41 [.int .i64 0, .int .i64 0, .int .i64 0] := by
    have h := Bx.new (w.alloc (.cells #[.int .i64 be, .int .i64 bi, .int .i64 bo] 41)) 41 [.int .i64 0, .int .i64 0, .int .i64 0]
    rw [World.size_alloc] at h
    rw [hW0]
    exact h
  obtain ⟨x0, x1, x2⟩ := hx0.threeB
  go_enter Try.func24, Try.ntmps24
  go_wp2_with fail
  rw [← hW0]
  clear hW0
  go_wp2_with fail
  with_reducible refine (hC _).mono ?_
  rintro e' w1 ⟨rfl, hb1⟩
  have hy0 := hx0.kept hb1
  have hy1 := hx1.kept hb1
  have hB1 := hb0.trans (hb1.mono hb0.size)
  clear x0 x1 x2 hx0 hx1 hb0 hb1 hC
  obtain ⟨p0, q0, p1, q1, p2, q2, hz0⟩ := hy0.store3 (.int .i64 e) (.int .i64 i) (.int .i64 o)
  have hz1 := hy1.other3 (B := w.heap.size) (by omega) (.int .i64 e) (.int .i64 i) (.int .i64 o)
  have hB2 := below_store3 hB1 (B := w.heap.size) (by omega) (.int .i64 e) (.int .i64 i) (.int .i64 o)
  obtain ⟨z0, z1, z2⟩ := hz0.threeB
  obtain ⟨W3, hW3⟩ : ∃ W3, W3 = ((w1.setCell ⟨w.heap.size, 0, none⟩ (.int .i64 e)).setCell ⟨w.heap.size, 1, none⟩ (.int .i64 i)).setCell ⟨w.heap.size, 2, none⟩ (.int .i64 o) := ⟨_, rfl⟩
  rw [← hW3] at hz0 hz1 hB2 z0 z1 z2
  clear hy0 hy1 hB1
  go_upto_region 2 with fail
  rw [← hW3]
  clear hW3 p0 q0 p1 q1 p2 q2
  have gf := hz0.frozen 2
  have hz6 := hz0.set 2 (.int .i64 m)
  simp only [List.set_cons_succ, List.set_cons_zero] at hz6
  obtain ⟨v0, v1, v2⟩ := hz6.threeB
  have hr6 := hz1.other (B' := w.heap.size) (by omega) 2 (.int .i64 m)
  have hB6 := hB2.setCell (p := ⟨w.heap.size, 2, none⟩) (Nat.le_refl _) (.int .i64 m)
  obtain ⟨r0, s0, r1, s1, r2, s2, hz7⟩ := hr6.store3 (.int .i64 e) (.int .i64 i) (.int .i64 m)
  have hB7 := below_store3 hB6 (B := w.heap.size + 1) (by omega) (.int .i64 e) (.int .i64 i) (.int .i64 m)
  obtain ⟨y0, y1, y2⟩ := hz7.threeB
  have HB := Lib.hid hB7
  clear hz0 hz1 hB2 hz6 hr6 hB6 hz7 hB7
  go_region_with (go_at_call 34; with_reducible refine (hM _).mono ?_; rintro e' w' ⟨rfl, rfl⟩)
  all_goals (
    go_wp2
    refine bodyPost_ret (v := .agg #[.int .i64 e, .int .i64 i, .int .i64 m]) ?_ rfl ⟨rfl, HB.out.drew⟩
    simp [results, Try.results24, asAddr, Result.andThen, go_sem, y0, y1, y2])

end Go.Proofs.Ytlbmkokdoigcnaa
