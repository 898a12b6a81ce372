/-
  interchangelaw06.MethodArg answers true; nothing that was there is changed. Conditions: the table of widths is as its text lays it; the values lie in old memory, of at most 2^47 bytes.
-/
import Derived.Deep.RegionHeld3
import Derived.Test.YtmpfkommeakgbaaDoorRMWith
namespace Go.Proofs.YtmpfkommeakgbaaDoor
open Go.RowKit

theorem arg_with (l : List MV) (i k : Int) (v : MV) (h : ¬ k = i) : argV (withV l i v) k = argV l k := by
  unfold argV withV
  by_cases hk : 0 ≤ k
  · rw [if_pos hk, if_pos hk]
    by_cases hi : 0 ≤ i
    · rw [if_pos hi, List.getD_eq_getElem?_getD, List.getD_eq_getElem?_getD, List.getElem?_set_ne (by omega)]
    · rw [if_neg hi]
  · rw [if_neg hk, if_neg hk]
theorem arg_self (l : List MV) (k : Nat) (v : MV) (h : k < l.length) : argV (withV l (k : Int) v) (k : Int) = v := by
  rw [withV_at, argV_at _ k (by rw [List.length_set]; exact h), List.getElem_set_self]
theorem eqSelf (v : MV) (w : World) : (Op.equalIn 10000 27 (.agg #[.int .u64 v.n, .string v.s]) (.agg #[.int .u64 v.n, .string v.s])).run Tryd.prog w = .ok true w := by
  have h := eqV v v w
  rw [(sameV_iff _ _).2 rfl] at h
  exact h

set_option maxRecDepth 100000 in
set_option maxHeartbeats 4000000 in
theorem methodArg_walk (m : Me) (A : Option Addr) (cap : Nat) (i : Int) (v : MV) (k : Int) (w : World) (hw : Wid w) (hA : ValsAt w A (rowV m.l)) (h0 : A = none → m.l.length = 0 ∧ cap = 0) (hl : m.l.length * 24 ≤ 140737488355328) :
    Calls Tryd.prog 9 #[.agg #[.int .i64 m.c, .int .i64 m.i, .slice A m.l.length cap, .int .i64 i, .int .u64 v.n, .string v.s, .int .i64 k]] w fun e w' => e = .returned (.bool true) ∧ Below w.heap.size w w' := by
  have hWith := fun W hA => with_any m A cap i v W hA h0 hl
  have hArgM := fun k W hA => arg_any m A cap k W hA
  have hArgN := fun A1 c1 k W hA => arg_any ⟨m.c, m.i, withV m.l i v⟩ A1 c1 k W hA
  have hSame := fun A1 c1 W h1 h2 => rsame_any ⟨m.c, m.i, withV m.l i v⟩ m A1 A c1 cap W h1 h2 (by dsimp only; rw [withV_length]; omega)
  have HL : Hid ((withV m.l i v).length = m.l.length) := Lib.hid (withV_length _ _ _)
  have HA1 : Hid (∀ k, ¬ k = i → argV (withV m.l i v) k = argV m.l k) := Lib.hid (fun k h => arg_with _ _ _ _ h)
  have HA2 : Hid (∀ q : Nat, i = q → q < m.l.length → argV (withV m.l i v) i = v) := Lib.hid (fun q hq h => by subst hq; exact arg_self _ _ _ h)
  have HA3 : Hid (¬ (∃ q : Nat, i = q ∧ q < m.l.length) → withV m.l i v = m.l ∧ argV m.l i = noV) := Lib.hid (fun h => by
    rcases int_cases i m.l.length with g | g | ⟨q, rfl, g⟩
    · exact ⟨withV_low _ _ g, argV_low _ g⟩
    · exact absurd g h
    · exact ⟨withV_high _ _ _ g, argV_high _ _ g⟩)
  have HM : Hid (withV m.l i v = m.l → sameM ⟨m.c, m.i, withV m.l i v⟩ m = true) := Lib.hid (fun h => (sameM_iff _ _).2 (by rw [h]))
  generalize withV m.l i v = l' at hWith hArgN hSame HL HA1 HA2 HA3 HM
  obtain ⟨c, j, l⟩ := m
  dsimp only at *
  have hLe := HL.out
  unfold MeAt at hWith
  simp only [encM, encV] at hWith hArgM hArgN hSame
  rw [hLe] at hWith hArgN hSame
  clear hLe
  obtain ⟨W0, hW0⟩ : ∃ W0, W0 = ((w.alloc (.cells #[.int .i64 c, .int .i64 j, .slice A l.length cap, .int .i64 i, .int .u64 v.n, .string v.s, .int .i64 k] 46)).alloc (.cells #[.int .i64 c, .int .i64 j, .slice A l.length cap] 24)).alloc (.cells #[.int .u64 v.n, .string v.s] 27) := ⟨_, rfl⟩
  have hb0 : Below w.heap.size w W0 := by rw [hW0]; exact (((Below.refl _ w).alloc (Nat.le_refl _) _).alloc (by simp) _).alloc (by simp; omega) _
  have hx : Bx W0 (w.heap.size + 1) 24 [.int .i64 c, .int .i64 j, .slice A l.length cap] := by
    have h := Bx.new (w.alloc (.cells #[.int .i64 c, .int .i64 j, .slice A l.length cap, .int .i64 i, .int .u64 v.n, .string v.s, .int .i64 k] 46)) 24 [.int .i64 c, .int .i64 j, .slice A l.length cap]
    rw [World.size_alloc] at h
    rw [hW0]
    exact h.alloc _
  have hv : Bx W0 (w.heap.size + 1 + 1) 27 [.int .u64 v.n, .string v.s] := by
    have h := Bx.new ((w.alloc (.cells #[.int .i64 c, .int .i64 j, .slice A l.length cap, .int .i64 i, .int .u64 v.n, .string v.s, .int .i64 k] 46)).alloc (.cells #[.int .i64 c, .int .i64 j, .slice A l.length cap] 24)) 27 [.int .u64 v.n, .string v.s]
    rw [World.size_alloc, World.size_alloc] at h
    rw [hW0]
    exact h
  have hSh := mshown_any W0 (hw.below hb0)
  go_enter Tryd.func9, Tryd.ntmps9
  go_wp2_with fail
  rw [← hW0]
  refine hSh.mono ?_
  rintro e w9 ⟨rfl, hb1⟩
  have hb9 := hb0.trans (hb1.mono hb0.size)
  have x9 := hx.kept hb1
  have y9 := hv.kept hb1
  have hA9 := hA.below hb9
  have x0 := x9.cell 0 (by simp)
  have x1 := x9.cell 1 (by simp)
  have x2 := x9.cell 2 (by simp)
  have y0 := y9.cell 0 (by simp)
  have y1 := y9.cell 1 (by simp)
  dsimp only [List.getElem_cons_zero, List.getElem_cons_succ] at x0 x1 x2 y0 y1
  clear hSh hb0 hb1 hx hv hA hw hW0
  go_wp2_with fail
  refine (hWith w9 hA9).mono ?_
  rintro e w10 ⟨A1, cap1, rfl, hV1, hn1, hq⟩
  have hb10 := hb9.trans (hq.mono hb9.size)
  have xA := (x9.kept hq).alloc (.cells #[.int .i64 c, .int .i64 j, .slice A1 l.length cap1] 24)
  have yA := (y9.kept hq).alloc (.cells #[.int .i64 c, .int .i64 j, .slice A1 l.length cap1] 24)
  have nA := Bx.new w10 24 [.int .i64 c, .int .i64 j, .slice A1 l.length cap1]
  have hbA := hb10.alloc hb10.size (.cells #[.int .i64 c, .int .i64 j, .slice A1 l.length cap1] 24)
  have vA := (hV1.below ((Below.refl _ w10).alloc (Nat.le_refl _) (.cells #[.int .i64 c, .int .i64 j, .slice A1 l.length cap1] 24)))
  have mA := ((hA9.below hq).below ((Below.refl _ w10).alloc (Nat.le_refl _) (.cells #[.int .i64 c, .int .i64 j, .slice A1 l.length cap1] 24)))
  clear hWith x9 y9 hb9 hA9 hV1 hn1 hq hb10 x0 x1 x2 y0 y1
  by_cases hin : ∃ q : Nat, i = q ∧ q < l.length
  · obtain ⟨q, rfl, hq⟩ := hin
    have e2 := HA2.out q rfl hq
    have hAi := fun W hA => hArgN A1 cap1 (q : Int) W hA
    rw [e2] at hAi
    have ht : decide ((q : Int) < 0) = false := by simp
    have ht2 : decide ((l.length : Int) ≤ (q : Int)) = false := by simp; omega
    have hE := eqSelf v
    have keep : ∀ w', Below (w10.alloc (.cells #[.int .i64 c, .int .i64 j, .slice A1 l.length cap1] 24)).heap.size (w10.alloc (.cells #[.int .i64 c, .int .i64 j, .slice A1 l.length cap1] 24)) w' → w'.cell? ⟨w.heap.size + 1, 0, none⟩ = some (.int .i64 c) ∧ w'.cell? ⟨w.heap.size + 1, 1, none⟩ = some (.int .i64 j) ∧ w'.cell? ⟨w.heap.size + 1, 2, none⟩ = some (.slice A l.length cap) ∧ w'.cell? ⟨w.heap.size + 1 + 1, 0, none⟩ = some (.int .u64 v.n) ∧ w'.cell? ⟨w.heap.size + 1 + 1, 1, none⟩ = some (.string v.s) ∧ w'.cell? ⟨w10.heap.size, 0, none⟩ = some (.int .i64 c) ∧ w'.cell? ⟨w10.heap.size, 1, none⟩ = some (.int .i64 j) ∧ w'.cell? ⟨w10.heap.size, 2, none⟩ = some (.slice A1 l.length cap1) := fun w' h => ⟨(xA.kept h).cell 0 (by simp), (xA.kept h).cell 1 (by simp), (xA.kept h).cell 2 (by simp), (yA.kept h).cell 0 (by simp), (yA.kept h).cell 1 (by simp), (nA.kept h).cell 0 (by simp), (nA.kept h).cell 1 (by simp), (nA.kept h).cell 2 (by simp)⟩
    obtain ⟨x0, x1, x2, y0, y1, z0, z1, z2⟩ := keep _ (Below.refl _ _)
    clear HA2 HA3 HM hSame e2 xA yA nA
    go_wp2_with fail
    generalize w10.alloc (.cells #[.int .i64 c, .int .i64 j, .slice A1 l.length cap1] 24) = w11 at *
    by_cases hkq : k = (q : Int)
    · subst hkq
      clear HA1 hArgM hArgN
      refine wp_region_held_drew (S := (fun w' => w'.cell? ⟨w.heap.size + 1, 0, none⟩ = some (.int .i64 c) ∧ w'.cell? ⟨w.heap.size + 1, 1, none⟩ = some (.int .i64 j) ∧ w'.cell? ⟨w.heap.size + 1, 2, none⟩ = some (.slice A l.length cap) ∧ w'.cell? ⟨w.heap.size + 1 + 1, 0, none⟩ = some (.int .u64 v.n) ∧ w'.cell? ⟨w.heap.size + 1 + 1, 1, none⟩ = some (.string v.s) ∧ w'.cell? ⟨w10.heap.size, 0, none⟩ = some (.int .i64 c) ∧ w'.cell? ⟨w10.heap.size, 1, none⟩ = some (.int .i64 j) ∧ w'.cell? ⟨w10.heap.size, 2, none⟩ = some (.slice A1 l.length cap1))) (by kernel_rfl) (keep _ (Below.refl _ w11).drew) (fun hHeld => ?_)
      refine wpAnyH_take (i := 0) (oi := _) (v := ?_) rfl (by kernel_rfl) (by kernel_rfl) (by kernel_rfl) (fun _ _ _ h => h) (Or.inl ⟨by rfl, ?_⟩) hHeld ?_
      rotate_left
      · (intro w' hSw; (try dsimp only at hSw); go_simp; try with_reducible rfl)
      (try simp only [List.getElem_toArray]); (try simp only [List.getElem_cons_succ]); (try simp only [List.getElem_cons_zero]); (try simp only [Act.put]); (try simp only [List.setIfInBounds_toArray]); (try simp only [List.set_cons_succ]); (try simp only [List.set_cons_zero])
      refine wpAnyH_take (i := 1) (oi := _) (v := ?_) rfl (by kernel_rfl) (by kernel_rfl) (by kernel_rfl) (fun _ _ _ h => h) (Or.inl ⟨by rfl, ?_⟩) hHeld ?_
      rotate_left
      · (intro w' hSw; (try dsimp only at hSw); go_simp; try with_reducible rfl)
      (try simp only [List.getElem_toArray]); (try simp only [List.getElem_cons_succ]); (try simp only [List.getElem_cons_zero]); (try simp only [Act.put]); (try simp only [List.setIfInBounds_toArray]); (try simp only [List.set_cons_succ]); (try simp only [List.set_cons_zero])
      refine wpAnyH_take (i := 2) (oi := _) (v := ?_) rfl (by kernel_rfl) (by kernel_rfl) (by kernel_rfl) (fun _ _ _ h => h) (Or.inl ⟨by rfl, ?_⟩) hHeld ?_
      rotate_left
      · (intro w' hSw; (try dsimp only at hSw); go_simp; try with_reducible rfl)
      (try simp only [List.getElem_toArray]); (try simp only [List.getElem_cons_succ]); (try simp only [List.getElem_cons_zero]); (try simp only [Act.put]); (try simp only [List.setIfInBounds_toArray]); (try simp only [List.set_cons_succ]); (try simp only [List.set_cons_zero])
      refine wpAnyH_take (i := 3) (oi := _) (v := ?_) rfl (by kernel_rfl) (by kernel_rfl) (by kernel_rfl) (fun _ _ _ h => h) (Or.inl ⟨by rfl, ?_⟩) hHeld ?_
      rotate_left
      · (intro w' hSw; (try dsimp only at hSw); go_simp; try with_reducible rfl)
      (try simp only [List.getElem_toArray]); (try simp only [List.getElem_cons_succ]); (try simp only [List.getElem_cons_zero]); (try simp only [Act.put]); (try simp only [List.setIfInBounds_toArray]); (try simp only [List.set_cons_succ]); (try simp only [List.set_cons_zero])
      refine wpAnyH_take (i := 5) (oi := _) (v := ?_) rfl (by kernel_rfl) (by kernel_rfl) (by kernel_rfl) (fun _ _ _ h => h) (Or.inl ⟨by rfl, ?_⟩) hHeld ?_
      rotate_left
      · (intro w' hSw; (try dsimp only at hSw); go_simp; try with_reducible rfl)
      (try simp only [List.getElem_toArray]); (try simp only [List.getElem_cons_succ]); (try simp only [List.getElem_cons_zero]); (try simp only [Act.put]); (try simp only [List.setIfInBounds_toArray]); (try simp only [List.set_cons_succ]); (try simp only [List.set_cons_zero])
      refine wpAnyH_ready (rs := [4]) (by kernel_rfl) (by simp) (AllReadyH.cons rfl (fun K hK => ?_) AllReadyH.nil)
      go_simp
      refine (hAi _ (vA.below (Below.refl _ w11).drew)).mono ?_
      rintro e w12 ⟨rfl, hr⟩
      have hf : Below w11.heap.size w11 w12 := ⟨hr.os, hr.tape, hr.output, hr.size, hr.block⟩
      refine hK.out _ _ (keep _ hf) (fun hHeld => ?_)
      clear hK
      (try simp only [List.getElem_toArray]); (try simp only [List.getElem_cons_succ]); (try simp only [List.getElem_cons_zero]); (try simp only [Act.put]); (try simp only [List.setIfInBounds_toArray]); (try simp only [List.set_cons_succ]); (try simp only [List.set_cons_zero])
      refine wpAnyH_take (i := 6) (oi := _) (v := ?_) rfl (by kernel_rfl) (by kernel_rfl) (by kernel_rfl) (fun _ _ _ h => h) (Or.inl ⟨by rfl, ?_⟩) hHeld ?_
      rotate_left
      · (intro w' hSw; (try dsimp only at hSw); go_simp; try with_reducible rfl)
      (try simp only [List.getElem_toArray]); (try simp only [List.getElem_cons_succ]); (try simp only [List.getElem_cons_zero]); (try simp only [Act.put]); (try simp only [List.setIfInBounds_toArray]); (try simp only [List.set_cons_succ]); (try simp only [List.set_cons_zero])
      refine wpAnyH_take (i := 7) (oi := _) (v := ?_) rfl (by kernel_rfl) (by kernel_rfl) (by kernel_rfl) (fun _ _ _ h => h) (Or.inl ⟨by rfl, ?_⟩) hHeld ?_
      rotate_left
      · (intro w' hSw; (try dsimp only at hSw); go_simp; try with_reducible rfl)
      (try simp only [List.getElem_toArray]); (try simp only [List.getElem_cons_succ]); (try simp only [List.getElem_cons_zero]); (try simp only [Act.put]); (try simp only [List.setIfInBounds_toArray]); (try simp only [List.set_cons_succ]); (try simp only [List.set_cons_zero])
      refine wpAnyH_take (i := 8) (oi := _) (v := ?_) rfl (by kernel_rfl) (by kernel_rfl) (by kernel_rfl) (fun _ _ _ h => h) (Or.inl ⟨by rfl, ?_⟩) hHeld ?_
      rotate_left
      · (intro w' hSw; (try dsimp only at hSw); go_simp; try with_reducible rfl)
      (try simp only [List.getElem_toArray]); (try simp only [List.getElem_cons_succ]); (try simp only [List.getElem_cons_zero]); (try simp only [Act.put]); (try simp only [List.setIfInBounds_toArray]); (try simp only [List.set_cons_succ]); (try simp only [List.set_cons_zero])
      refine wpAnyH_take (i := 9) (oi := _) (v := ?_) rfl (by kernel_rfl) (by kernel_rfl) (by kernel_rfl) (fun _ _ _ h => h) (Or.inl ⟨by rfl, ?_⟩) hHeld ?_
      rotate_left
      · (intro w' hSw; (try dsimp only at hSw); go_simp; try with_reducible rfl)
      (try simp only [List.getElem_toArray]); (try simp only [List.getElem_cons_succ]); (try simp only [List.getElem_cons_zero]); (try simp only [Act.put]); (try simp only [List.setIfInBounds_toArray]); (try simp only [List.set_cons_succ]); (try simp only [List.set_cons_zero])
      refine wpAnyH_take (i := 10) (oi := _) (v := ?_) rfl (by kernel_rfl) (by kernel_rfl) (by kernel_rfl) (fun _ _ _ h => h) (Or.inl ⟨by rfl, ?_⟩) hHeld ?_
      rotate_left
      · (intro w' hSw; (try dsimp only at hSw); go_simp; try with_reducible rfl)
      (try simp only [List.getElem_toArray]); (try simp only [List.getElem_cons_succ]); (try simp only [List.getElem_cons_zero]); (try simp only [Act.put]); (try simp only [List.setIfInBounds_toArray]); (try simp only [List.set_cons_succ]); (try simp only [List.set_cons_zero])
      refine wpAnyH_take (i := 11) (oi := _) (v := ?_) rfl (by kernel_rfl) (by kernel_rfl) (by kernel_rfl) (fun _ _ _ h => h) (Or.inl ⟨by rfl, ?_⟩) hHeld ?_
      rotate_left
      · (intro w' hSw; (try dsimp only at hSw); go_simp; try with_reducible rfl)
      (try simp only [List.getElem_toArray]); (try simp only [List.getElem_cons_succ]); (try simp only [List.getElem_cons_zero]); (try simp only [Act.put]); (try simp only [List.setIfInBounds_toArray]); (try simp only [List.set_cons_succ]); (try simp only [List.set_cons_zero])
      refine wpAnyH_take (i := 12) (oi := _) (v := ?_) rfl (by kernel_rfl) (by kernel_rfl) (by kernel_rfl) (fun _ _ _ h => h) (Or.inl ⟨by rfl, ?_⟩) hHeld ?_
      rotate_left
      · (intro w' hSw; (try dsimp only at hSw); go_simp; try with_reducible rfl)
      (try simp only [List.getElem_toArray]); (try simp only [List.getElem_cons_succ]); (try simp only [List.getElem_cons_zero]); (try simp only [Act.put]); (try simp only [List.setIfInBounds_toArray]); (try simp only [List.set_cons_succ]); (try simp only [List.set_cons_zero])
      refine wpAnyH_take (i := 13) (oi := _) (v := _) rfl (by kernel_rfl) (by kernel_rfl) (by kernel_rfl) (fun _ _ _ h => h) (Or.inr ⟨by rfl, rfl⟩) hHeld ?_
      (try simp only [List.getElem_toArray]); (try simp only [List.getElem_cons_succ]); (try simp only [List.getElem_cons_zero]); (try simp only [Act.put]); (try simp only [List.setIfInBounds_toArray]); (try simp only [List.set_cons_succ]); (try simp only [List.set_cons_zero])
      refine wpAnyH_take (i := 14) (oi := _) (v := _) rfl (by kernel_rfl) (by kernel_rfl) (by kernel_rfl) (fun _ _ _ h => h) (Or.inr ⟨by rfl, rfl⟩) hHeld ?_
      (try simp only [List.getElem_toArray]); (try simp only [List.getElem_cons_succ]); (try simp only [List.getElem_cons_zero]); (try simp only [Act.put]); (try simp only [List.setIfInBounds_toArray]); (try simp only [List.set_cons_succ]); (try simp only [List.set_cons_zero])
      refine wpAnyH_take (i := 15) (oi := _) (v := _) rfl (by kernel_rfl) (by kernel_rfl) (by kernel_rfl) (fun _ _ _ h => h) (Or.inr ⟨by rfl, rfl⟩) hHeld ?_
      (try simp only [List.getElem_toArray]); (try simp only [List.getElem_cons_succ]); (try simp only [List.getElem_cons_zero]); (try simp only [Act.put]); (try simp only [List.setIfInBounds_toArray]); (try simp only [List.set_cons_succ]); (try simp only [List.set_cons_zero])
      refine wpAnyH_take (i := 16) (oi := _) (v := _) rfl (by kernel_rfl) (by kernel_rfl) (by kernel_rfl) (fun _ _ _ h => h) (Or.inr ⟨by rfl, rfl⟩) hHeld ?_
      (try simp only [List.getElem_toArray]); (try simp only [List.getElem_cons_succ]); (try simp only [List.getElem_cons_zero]); (try simp only [Act.put]); (try simp only [List.setIfInBounds_toArray]); (try simp only [List.set_cons_succ]); (try simp only [List.set_cons_zero])
      refine wpAnyH_take (i := 17) (oi := _) (v := _) rfl (by kernel_rfl) (by kernel_rfl) (by kernel_rfl) (fun _ _ _ h => h) (Or.inr ⟨by rfl, rfl⟩) hHeld ?_
      (try simp only [List.getElem_toArray]); (try simp only [List.getElem_cons_succ]); (try simp only [List.getElem_cons_zero]); (try simp only [Act.put]); (try simp only [List.setIfInBounds_toArray]); (try simp only [List.set_cons_succ]); (try simp only [List.set_cons_zero])
      refine wpAnyH_take (i := 18) (oi := _) (v := _) rfl (by kernel_rfl) (by kernel_rfl) (by kernel_rfl) (fun _ _ _ h => h) (Or.inr ⟨by rfl, rfl⟩) hHeld ?_
      (try simp only [List.getElem_toArray]); (try simp only [List.getElem_cons_succ]); (try simp only [List.getElem_cons_zero]); (try simp only [Act.put]); (try simp only [List.setIfInBounds_toArray]); (try simp only [List.set_cons_succ]); (try simp only [List.set_cons_zero])
      refine wpAnyH_take (i := 19) (oi := _) (v := _) rfl (by kernel_rfl) (by kernel_rfl) (by kernel_rfl) (fun _ _ _ h => h) (Or.inr ⟨by rfl, rfl⟩) hHeld ?_
      (try simp only [List.getElem_toArray]); (try simp only [List.getElem_cons_succ]); (try simp only [List.getElem_cons_zero]); (try simp only [Act.put]); (try simp only [List.setIfInBounds_toArray]); (try simp only [List.set_cons_succ]); (try simp only [List.set_cons_zero])
      refine wpAnyH_take (i := 20) (oi := _) (v := ?_) rfl (by kernel_rfl) (by kernel_rfl) (by kernel_rfl) (fun _ _ _ h => h) (Or.inl ⟨by rfl, ?_⟩) hHeld ?_
      rotate_left
      · (intro w' hSw; (try dsimp only at hSw); go_simp; try with_reducible rfl)
      (try simp only [List.getElem_toArray]); (try simp only [List.getElem_cons_succ]); (try simp only [List.getElem_cons_zero]); (try simp only [Act.put]); (try simp only [List.setIfInBounds_toArray]); (try simp only [List.set_cons_succ]); (try simp only [List.set_cons_zero])
      refine wpAnyH_take (i := 21) (oi := _) (v := ?_) rfl (by kernel_rfl) (by kernel_rfl) (by kernel_rfl) (fun _ _ _ h => h) (Or.inl ⟨by rfl, ?_⟩) hHeld ?_
      rotate_left
      · (intro w' hSw; (try dsimp only at hSw); go_simp; try with_reducible rfl)
      (try simp only [List.getElem_toArray]); (try simp only [List.getElem_cons_succ]); (try simp only [List.getElem_cons_zero]); (try simp only [Act.put]); (try simp only [List.setIfInBounds_toArray]); (try simp only [List.set_cons_succ]); (try simp only [List.set_cons_zero])
      refine wpAnyH_take (i := 22) (oi := _) (v := ?_) rfl (by kernel_rfl) (by kernel_rfl) (by kernel_rfl) (fun _ _ _ h => h) (Or.inl ⟨by rfl, ?_⟩) hHeld ?_
      rotate_left
      · (intro w' hSw; (try dsimp only at hSw); go_simp; try with_reducible rfl)
      (try simp only [List.getElem_toArray]); (try simp only [List.getElem_cons_succ]); (try simp only [List.getElem_cons_zero]); (try simp only [Act.put]); (try simp only [List.setIfInBounds_toArray]); (try simp only [List.set_cons_succ]); (try simp only [List.set_cons_zero])
      refine wpAnyH_take (i := 23) (oi := _) (v := ?_) rfl (by kernel_rfl) (by kernel_rfl) (by kernel_rfl) (fun _ _ _ h => h) (Or.inl ⟨by rfl, ?_⟩) hHeld ?_
      rotate_left
      · (intro w' hSw; (try dsimp only at hSw); go_simp; try with_reducible rfl)
      (try simp only [List.getElem_toArray]); (try simp only [List.getElem_cons_succ]); (try simp only [List.getElem_cons_zero]); (try simp only [Act.put]); (try simp only [List.setIfInBounds_toArray]); (try simp only [List.set_cons_succ]); (try simp only [List.set_cons_zero])
      refine wpAnyH_take (i := 24) (oi := _) (v := ?_) rfl (by kernel_rfl) (by kernel_rfl) (by kernel_rfl) (fun _ _ _ h => h) (Or.inl ⟨by rfl, ?_⟩) hHeld ?_
      rotate_left
      · (intro w' hSw; (try dsimp only at hSw); go_simp; try with_reducible rfl)
      (try simp only [List.getElem_toArray]); (try simp only [List.getElem_cons_succ]); (try simp only [List.getElem_cons_zero]); (try simp only [Act.put]); (try simp only [List.setIfInBounds_toArray]); (try simp only [List.set_cons_succ]); (try simp only [List.set_cons_zero])
      refine wpAnyH_take (i := 25) (oi := _) (v := ?_) rfl (by kernel_rfl) (by kernel_rfl) (by kernel_rfl) (fun _ _ _ h => h) (Or.inl ⟨by rfl, ?_⟩) hHeld ?_
      rotate_left
      · (intro w' hSw; (try dsimp only at hSw); go_simp; try with_reducible rfl)
      (try simp only [List.getElem_toArray]); (try simp only [List.getElem_cons_succ]); (try simp only [List.getElem_cons_zero]); (try simp only [Act.put]); (try simp only [List.setIfInBounds_toArray]); (try simp only [List.set_cons_succ]); (try simp only [List.set_cons_zero])
      refine wpAnyH_take (i := 26) (oi := _) (v := ?_) rfl (by kernel_rfl) (by kernel_rfl) (by kernel_rfl) (fun _ _ _ h => h) (Or.inl ⟨by rfl, ?_⟩) hHeld ?_
      rotate_left
      · (intro w' hSw; (try dsimp only at hSw); go_simp; try with_reducible rfl)
      (try simp only [List.getElem_toArray]); (try simp only [List.getElem_cons_succ]); (try simp only [List.getElem_cons_zero]); (try simp only [Act.put]); (try simp only [List.setIfInBounds_toArray]); (try simp only [List.set_cons_succ]); (try simp only [List.set_cons_zero])
      refine wpAnyH_take (i := 27) (oi := _) (v := ?_) rfl (by kernel_rfl) (by kernel_rfl) (by kernel_rfl) (fun _ _ _ h => h) (Or.inl ⟨by rfl, ?_⟩) hHeld ?_
      rotate_left
      · (intro w' hSw; (try dsimp only at hSw); go_simp; try with_reducible rfl)
      (try simp only [List.getElem_toArray]); (try simp only [List.getElem_cons_succ]); (try simp only [List.getElem_cons_zero]); (try simp only [Act.put]); (try simp only [List.setIfInBounds_toArray]); (try simp only [List.set_cons_succ]); (try simp only [List.set_cons_zero])
      refine wpAnyH_take (i := 28) (oi := _) (v := ?_) rfl (by kernel_rfl) (by kernel_rfl) (by kernel_rfl) (fun _ _ _ h => h) (Or.inl ⟨by rfl, ?_⟩) hHeld ?_
      rotate_left
      · (intro w' hSw; (try dsimp only at hSw); go_simp; try with_reducible rfl)
      (try simp only [List.getElem_toArray]); (try simp only [List.getElem_cons_succ]); (try simp only [List.getElem_cons_zero]); (try simp only [Act.put]); (try simp only [List.setIfInBounds_toArray]); (try simp only [List.set_cons_succ]); (try simp only [List.set_cons_zero])
      refine wpAnyH_take (i := 29) (oi := _) (v := ?_) rfl (by kernel_rfl) (by kernel_rfl) (by kernel_rfl) (fun _ _ _ h => h) (Or.inl ⟨by rfl, ?_⟩) hHeld ?_
      rotate_left
      · (intro w' hSw; (try dsimp only at hSw); go_simp; try with_reducible rfl)
      (try simp only [List.getElem_toArray]); (try simp only [List.getElem_cons_succ]); (try simp only [List.getElem_cons_zero]); (try simp only [Act.put]); (try simp only [List.setIfInBounds_toArray]); (try simp only [List.set_cons_succ]); (try simp only [List.set_cons_zero])
      refine wpAnyH_take (i := 30) (oi := _) (v := ?_) rfl (by kernel_rfl) (by kernel_rfl) (by kernel_rfl) (fun _ _ _ h => h) (Or.inl ⟨by rfl, ?_⟩) hHeld ?_
      rotate_left
      · (intro w' hSw; (try dsimp only at hSw); go_simp; try with_reducible rfl)
      (try simp only [List.getElem_toArray]); (try simp only [List.getElem_cons_succ]); (try simp only [List.getElem_cons_zero]); (try simp only [Act.put]); (try simp only [List.setIfInBounds_toArray]); (try simp only [List.set_cons_succ]); (try simp only [List.set_cons_zero])
      refine wpAnyH_take (i := 31) (oi := _) (v := ?_) rfl (by kernel_rfl) (by kernel_rfl) (by kernel_rfl) (fun _ _ _ h => h) (Or.inl ⟨by rfl, ?_⟩) hHeld ?_
      rotate_left
      · (intro w' hSw; (try dsimp only at hSw); go_simp; try with_reducible rfl)
      (try simp only [List.getElem_toArray]); (try simp only [List.getElem_cons_succ]); (try simp only [List.getElem_cons_zero]); (try simp only [Act.put]); (try simp only [List.setIfInBounds_toArray]); (try simp only [List.set_cons_succ]); (try simp only [List.set_cons_zero])
      refine wpAnyH_done (by kernel_rfl) ?_ _
      have hB := hbA.trans (hf.mono hbA.size)
      clear keep hr hf hAi
      go_wp2
      go_ret
      exact ⟨rfl, hB⟩
    · have tk : (k == (q : Int)) = false := by simpa using hkq
      have hAk := fun W hA => hArgN A1 cap1 k W hA
      rw [HA1.out k hkq] at hAk
      have hMk := fun W hA => hArgM k W hA
      have hE2 := eqSelf (argV l k)
      generalize argV l k = av at hAk hMk hE2
      clear hkq HA1 hArgM hArgN
      go_region_held3 (fun w' => w'.cell? ⟨w.heap.size + 1, 0, none⟩ = some (.int .i64 c) ∧ w'.cell? ⟨w.heap.size + 1, 1, none⟩ = some (.int .i64 j) ∧ w'.cell? ⟨w.heap.size + 1, 2, none⟩ = some (.slice A l.length cap) ∧ w'.cell? ⟨w.heap.size + 1 + 1, 0, none⟩ = some (.int .u64 v.n) ∧ w'.cell? ⟨w.heap.size + 1 + 1, 1, none⟩ = some (.string v.s) ∧ w'.cell? ⟨w10.heap.size, 0, none⟩ = some (.int .i64 c) ∧ w'.cell? ⟨w10.heap.size, 1, none⟩ = some (.int .i64 j) ∧ w'.cell? ⟨w10.heap.size, 2, none⟩ = some (.slice A1 l.length cap1)) (first | (exact keep _ (Below.refl _ w11).drew) | (exact keep _ ⟨hr.os, hr.tape, hr.output, hr.size, hr.block⟩) | (exact keep _ (Below.trans ⟨hr.os, hr.tape, hr.output, hr.size, hr.block⟩ (hr2.mono hr.size))) | (exact keep _ (Below.trans (Below.trans ⟨hr.os, hr.tape, hr.output, hr.size, hr.block⟩ (hr2.mono hr.size)) (hr3.mono (Nat.le_trans hr.size hr2.size))))) (first | (go_at_call 14; refine (hMk _ (mA.below (Below.trans ⟨hr.os, hr.tape, hr.output, hr.size, hr.block⟩ (hr2.mono hr.size)))).mono ?_; rintro e w14 ⟨rfl, hr3⟩) | (go_at_call 14; refine (hAk _ (vA.below ⟨hr.os, hr.tape, hr.output, hr.size, hr.block⟩)).mono ?_; rintro e w13 ⟨rfl, hr2⟩) | (go_at_call 14; refine (hAi _ (vA.below (Below.refl _ w11).drew)).mono ?_; rintro e w12 ⟨rfl, hr⟩))
      have hf : Below w11.heap.size w11 w14 := Below.trans (Below.trans ⟨hr.os, hr.tape, hr.output, hr.size, hr.block⟩ (hr2.mono hr.size)) (hr3.mono (Nat.le_trans hr.size hr2.size))
      have hB := hbA.trans (hf.mono hbA.size)
      clear keep hr hr2 hr3 hf hAi hAk hMk
      go_wp2
      go_ret
      exact ⟨rfl, hB⟩
  · obtain ⟨e1, e2⟩ := HA3.out hin
    have eS := HM.out e1
    rw [eS] at hSame
    have hAi := fun W hA => hArgM i W hA
    rw [e2] at hAi
    dsimp only [noV] at hAi
    have hE := eqSelf noV
    dsimp only [noV] at hE
    have ht : decide (i < 0) = true ∨ (decide (i < 0) = false ∧ decide ((l.length : Int) ≤ i) = true) := by
      rcases int_cases i l.length with g | g | ⟨q, rfl, g⟩
      · exact .inl (by simpa using g)
      · exact absurd g hin
      · exact .inr ⟨by simp, by simp; omega⟩
    have x0 := xA.cell 0 (by simp)
    have x1 := xA.cell 1 (by simp)
    have x2 := xA.cell 2 (by simp)
    have z0 := nA.cell 0 (by simp)
    have z1 := nA.cell 1 (by simp)
    have z2 := nA.cell 2 (by simp)
    dsimp only [List.getElem_cons_zero, List.getElem_cons_succ] at x0 x1 x2 z0 z1 z2
    clear HA1 HA2 HA3 HM hArgN hin e1 e2 eS hArgM yA
    rcases ht with ht | ⟨ht, ht2⟩
    all_goals
      go_wp2_with fail
      refine (hSame A1 cap1 _ vA mA).mono ?_
      rintro e w12 ⟨rfl, hb12⟩
      have hB12 := hbA.trans (hb12.mono hbA.size)
      have u0 := (xA.kept hb12).cell 0 (by simp)
      have u1 := (xA.kept hb12).cell 1 (by simp)
      have u2 := (xA.kept hb12).cell 2 (by simp)
      dsimp only [List.getElem_cons_zero, List.getElem_cons_succ] at u0 u1 u2
      have hAi2 := hAi w12 (mA.below hb12)
      clear x0 x1 x2 z0 z1 z2 xA nA hbA vA mA hb12 hSame hAi
      go_wp2_with fail
      refine hAi2.mono ?_
      rintro e w13 ⟨rfl, hb13⟩
      have hB13 := hB12.trans (hb13.mono hB12.size)
      clear u0 u1 u2 hAi2 hb13 hB12
      go_wp2
      go_ret
      exact ⟨rfl, hB13⟩
end Go.Proofs.YtmpfkommeakgbaaDoor
