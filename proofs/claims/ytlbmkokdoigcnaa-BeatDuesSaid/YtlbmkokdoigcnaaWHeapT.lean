/-
  container/heap: a heap out of any row, the first one taken off, one more, as the plain functions say; nothing but the box and the row is changed. Conditions: the row has less than a million places.
-/
import Derived.Handy
import Derived.Test.YtlbmkokdoigcnaaWHeap
namespace Go.Proofs.Ytlbmkokdoigcnaa
open Go.RowKit

/-- the box holds the row, in memory of one's own -/
structure QAt (w : World) (base b : Nat) (v : Value) (l : List DP) : Prop where
  hb : base ≤ b
  box : BoxQ w b v
  own : w.ownsRow base 24 2 v l.length (rowD l)
theorem QAt.cases {w : World} {base b : Nat} {v : Value} {l : List DP} (h : QAt w base b v l) : (v = .slice none 0 0 ∧ l = []) ∨ ∃ g cap, v = .slice (some ⟨g, 0, none⟩) l.length cap ∧ base ≤ g ∧ RowD w g cap l := RowD.of h.own
theorem QAt.kept {w w' : World} {base b : Nat} {v : Value} {l : List DP} (h : QAt w base b v l) (hb : Below w.heap.size w w') : QAt w' base b v l :=
  ⟨h.hb, h.box.kept hb, by
    obtain ⟨h1, h2⟩ := h.own
    refine ⟨h1, ?_⟩
    rcases h2 with h2 | ⟨g, cap, cur, hv, hg, hh, r⟩
    · exact .inl h2
    · exact .inr ⟨g, cap, cur, hv, hg, (hb.block g (Array.getElem?_eq_some_iff.1 hh).1).trans hh, r⟩⟩

set_option maxRecDepth 100000 in
set_option maxHeartbeats 2000000 in
theorem init_some (b g cap N : Nat) (l : List DP) (w : World) (hx : BoxQ w b (.slice (some ⟨g, 0, none⟩) N cap)) (hR : RowD w g cap l) (hl : l.length = N) (hN : N < 1000000) :
    Calls Try.prog 39 #[ifQ b] w fun e w' => e = .returned (.tuple #[]) ∧ RowD w' g cap (initF l N (N / 2)) ∧ Fr1 g w w' := by
  have hgb : b ≠ g := by obtain ⟨cur, h1, -⟩ := hR; exact bx_apart hx h1 (by decide)
  obtain ⟨h, hh⟩ : ∃ h, h = N / 2 := ⟨_, rfl⟩
  have e1 : wrap64 ((N : Int) / 2) = (h : Int) := by simp only [wrap64]; omega
  have hhN : h ≤ N := by omega
  rw [← hh]
  have HH := Lib.hid hh
  clear hh
  have hm1 := meth_len (BoxQ.c hx)
  go_enter Try.func39, Try.ntmps39
  go_wp2_with fail
  refine (qlen_any _ _ _ _).mono ?_
  rintro e w1 ⟨rfl, rfl⟩
  clear hm1
  obtain ⟨z, hz⟩ : ∃ z : Int, z = (h : Int) - 1 := ⟨_, rfl⟩
  have e2 : IntKind.i64.wrap ((h : Int) - 1) = z := by simp only [IntKind.wrap_i64]; omega
  have HZ := Lib.hid hz
  clear hz
  go_wp2_with fail
  go_loopw [3] (fun v wr => ∃ (l' : List DP), l'.length = N ∧ RowD wr g cap l' ∧ Fr1 g w1 wr ∧ ((v = .int .i64 (-1) ∧ Hid (l' = initF l N h)) ∨ ∃ k : Nat, v = .int .i64 k ∧ k < N ∧ Hid (initF l' N (k + 1) = initF l N h))) (fun v _ => (intOf v + 1).toNat)
  case atStart =>
    refine ⟨l, hl, hR, Fr1.refl _ _, ?_⟩
    rcases Nat.eq_zero_or_pos h with h0 | h0
    · exact .inl ⟨by have := HH.out; congr 1; omega, Lib.hid (by rw [h0]; rfl)⟩
    · exact .inr ⟨h - 1, by have := HH.out; congr 1; omega, by omega, Lib.hid (by rw [Nat.sub_add_cancel h0])⟩
  case round =>
    obtain ⟨m, hm, hRm, hF, ⟨rfl, HE⟩ | ⟨k, rfl, hk, HE⟩⟩ := hrel
    · have HRm : Hid (RowD wr g cap (initF l N h)) := Lib.hid (by rw [← HE.out]; exact hRm)
      clear hR hx hl hRm HE HZ e1 e2
      go_wp2
      go_end0
      exact ⟨rfl, HRm.out, hF⟩
    · have hxm : BoxQ wr b (.slice (some ⟨g, 0, none⟩) N cap) := hF.bx hx hgb
      have t1 : (0 : Int) ≤ (k : Int) := by omega
      clear hR hx hl HZ e1 e2
      go_wp2_with fail
      refine (down_any b g cap N k N m wr hxm hRm hm (Nat.le_refl _) hN (by omega)).mono ?_
      rintro e w2 ⟨q, rfl, hR2, hF2⟩
      obtain ⟨z', hz'⟩ : ∃ z' : Int, z' = (k : Int) - 1 := ⟨_, rfl⟩
      have e3 : IntKind.i64.wrap ((k : Int) - 1) = z' := by simp only [IntKind.wrap_i64]; omega
      have HZ := Lib.hid hz'
      clear hxm hRm hz' t1
      go_wp2_with fail
      go_roundw
      case rel =>
        refine ⟨_, by rw [downF_len]; exact hm, hR2, hF.trans hF2, ?_⟩
        rcases Nat.eq_zero_or_pos k with h0 | h0
        · exact .inl ⟨by rw [HZ.out, h0]; rfl, Lib.hid (by rw [← HE.out, h0]; rfl)⟩
        · exact .inr ⟨k - 1, by rw [HZ.out]; congr 1; omega, by omega, Lib.hid (by rw [Nat.sub_add_cancel h0, ← HE.out]; rfl)⟩
      case measure => have := HZ.out; simp only [intOf]; omega

theorem initF_nil : initF [] 0 (0 / 2) = [] := rfl
set_option maxRecDepth 100000 in
set_option maxHeartbeats 2000000 in
theorem init_none (b : Nat) (w : World) (hx : BoxQ w b (.slice none 0 0)) :
    Calls Try.prog 39 #[ifQ b] w fun e w' => e = .returned (.tuple #[]) ∧ w' = w := by
  have hm1 := meth_len (BoxQ.c hx)
  go_enter Try.func39, Try.ntmps39
  go_wp2_with fail
  refine (qlen_any none 0 0 _).mono ?_
  rintro e w1 ⟨rfl, rfl⟩
  clear hm1
  go_wp2
  go_rounds 1
  all_goals (go_end0; exact ⟨rfl, rfl⟩)

theorem init_any (base b : Nat) (v : Value) (l : List DP) (w : World) (hq : QAt w base b v l) (hN : l.length < 1000000) :
    Calls Try.prog 39 #[ifQ b] w fun e w' => e = .returned (.tuple #[]) ∧ QAt w' base b v (initF l l.length (l.length / 2)) ∧ Fr2 b v.ownBlock w w' := by
  rcases hq.cases with ⟨rfl, rfl⟩ | ⟨g, cap, rfl, hg, hR⟩
  · refine (init_none b w hq.box).mono ?_
    rintro e w' ⟨rfl, rfl⟩
    exact ⟨rfl, hq, Fr2.refl _ _ _⟩
  · refine (init_some b g cap l.length l w hq.box hR rfl hN).mono ?_
    rintro e w' ⟨rfl, hR', hF⟩
    have hgb : b ≠ g := by obtain ⟨cur, h1, -⟩ := hR; exact bx_apart hq.box h1 (by decide)
    refine ⟨rfl, ⟨hq.hb, hF.bx hq.box hgb, ?_⟩, Fr2.of1 hF⟩
    have h := hR'.own hg
    rw [initF_len] at h ⊢
    exact h

set_option maxRecDepth 100000 in
set_option maxHeartbeats 2000000 in
theorem hpop_some (b g cap n N : Nat) (l : List DP) (w : World) (hx : BoxQ w b (.slice (some ⟨g, 0, none⟩) N cap)) (hR : RowD w g cap l) (hl : l.length = N) (hn : N = n + 1) (hN : N < 1000000) :
    Calls Try.prog 41 #[ifQ b] w fun e w' => e = .returned (.iface 24 (encD (atD l 0))) ∧ BoxQ w' b (.slice (some ⟨g, 0, none⟩) n cap) ∧ RowD w' g cap (popF l) ∧ Fr2 b (some g) w w' := by
  have hgb : b ≠ g := by obtain ⟨cur, h1, -⟩ := hR; exact bx_apart hx h1 (by decide)
  have hm1 := meth_len (BoxQ.c hx)
  have hm2 := meth_swap (BoxQ.c hx)
  have e1 : IntKind.i64.wrap ((N : Int) - 1) = (n : Int) := by simp only [IntKind.wrap_i64]; omega
  have hS : Calls Try.prog 66 #[.slice (some ⟨g, 0, none⟩) N cap, .int .i64 0, .int .i64 n] w fun e w' => e = .returned (.tuple #[]) ∧ RowD w' g cap (swp l 0 n) ∧ Fr1 g w w' := qswap_n g cap 0 n N l w hl hR (by omega) (by omega)
  have HN := Lib.hid hn
  clear hn
  go_enter Try.func41, Try.ntmps41
  go_wp2_with fail
  refine (qlen_any _ _ _ _).mono ?_
  rintro e w1 ⟨rfl, rfl⟩
  clear hm1
  go_wp2_with fail
  refine hS.mono ?_
  rintro e w2 ⟨rfl, hR2, hF2⟩
  have hx2 : BoxQ w2 b (.slice (some ⟨g, 0, none⟩) N cap) := hF2.bx hx hgb
  have hD : Calls Try.prog 47 #[ifQ b, .int .i64 0, .int .i64 n] w2 fun e w' => ∃ q, e = .returned (.bool q) ∧ RowD w' g cap (downF (swp l 0 n) 0 n) ∧ Fr1 g w2 w' :=
    down_any b g cap n 0 N (swp l 0 n) w2 hx2 hR2 (by rw [swp_length]; exact hl) (by have := HN.out; omega) hN (by omega)
  clear hm2 hS e1
  go_wp2_with fail
  refine hD.mono ?_
  rintro e w3 ⟨q, rfl, hR3, hF3⟩
  have hx3 : BoxQ w3 b (.slice (some ⟨g, 0, none⟩) N cap) := hF3.bx hx2 hgb
  have hP := qpop_any b g N n cap _ w3 hx3 hR3 (by rw [downF_len, swp_length]; exact hl) HN.out (by have := HN.out; omega)
  have HA : Hid (atD (downF (swp l 0 n) 0 n) n = atD l 0 ∧ (downF (swp l 0 n) 0 n).take n = popF l) := Lib.hid (by
    have h := HN.out
    obtain rfl : n = l.length - 1 := by omega
    exact ⟨pop_last (by omega), rfl⟩)
  rw [HA.out.1, HA.out.2] at hP
  have hm3 := meth_pop b w3
  clear hD hR2 hR3 hx2 HA
  go_wp2_with fail
  refine hP.mono ?_
  rintro e w4 ⟨rfl, hx4, hR4, hF4⟩
  have hFa : Fr2 b (some g) w1 w4 := (Fr2.of1 (hF2.trans hF3)).trans hF4 (fun g e => by cases e)
  clear hm3 hP
  go_wp2
  go_ret
  exact ⟨rfl, hx4, hR4, hFa⟩
theorem hpop_any (base b : Nat) (v : Value) (l : List DP) (w : World) (hq : QAt w base b v l) (h0 : 0 < l.length) (hN : l.length < 1000000) :
    Calls Try.prog 41 #[ifQ b] w fun e w' => e = .returned (.iface 24 (encD (atD l 0))) ∧ ∃ v', QAt w' base b v' (popF l) ∧ Fr2 b v.ownBlock w w' ∧ v'.ownBlock = v.ownBlock := by
  rcases hq.cases with ⟨rfl, rfl⟩ | ⟨g, cap, rfl, hg, hR⟩
  · exact absurd h0 (by simp)
  · refine (hpop_some b g cap (l.length - 1) l.length l w hq.box hR rfl (by omega) hN).mono ?_
    rintro e w' ⟨rfl, hx', hR', hF⟩
    have h := hR'.own hg
    rw [popF_len] at h
    exact ⟨rfl, _, ⟨hq.hb, hx', by rw [popF_len]; exact h⟩, hF, rfl⟩

set_option maxRecDepth 100000 in
set_option maxHeartbeats 2000000 in
theorem hpush_any (base b : Nat) (v : Value) (l : List DP) (d : DP) (w : World) (hq : QAt w base b v l) (hN : l.length < 999999) :
    Calls Try.prog 32 #[ifQ b, .iface 24 (encD d)] w fun e w' => e = .returned (.tuple #[]) ∧ ∃ v', QAt w' base b v' (upF (l ++ [d]) l.length) ∧ Fr2 b v.ownBlock w w' ∧ ∀ g, v'.ownBlock = some g → v.ownBlock = some g ∨ w.heap.size ≤ g := by
  obtain ⟨n, hn⟩ : ∃ n, n = l.length := ⟨_, rfl⟩
  rw [← hn]
  have hm1 := meth_push b w
  have hP := qpush_any base b v l d w hq.hb hq.box hq.own (by omega)
  generalize encD d = ed at *
  go_enter Try.func32, Try.ntmps32
  go_wp2_with fail
  refine hP.mono ?_
  rintro e w1 ⟨rfl, v1, hx1, ho1, hF1, hg1⟩
  clear hm1 hP
  rcases RowD.of ho1 with ⟨-, h⟩ | ⟨g, cap, rfl, hg, hR⟩
  · exact absurd h (by simp)
  obtain ⟨N, hNl⟩ : ∃ N, N = l.length + 1 := ⟨_, rfl⟩
  have hlen : (l ++ [d]).length = N := by simp [hNl]
  rw [hlen] at hx1
  have e1 : IntKind.i64.wrap ((N : Int) - 1) = (n : Int) := by simp only [IntKind.wrap_i64]; omega
  have hU := up_any b g cap n N (l ++ [d]) w1 hx1 hR hlen (by omega) (by omega)
  have hgb : b ≠ g := by obtain ⟨cur, h1, -⟩ := hR; exact bx_apart hx1 h1 (by decide)
  have hm2 := meth_len (BoxQ.c hx1)
  have HL := Lib.hid hlen
  clear hNl hn ho1 hlen
  go_wp2_with fail
  refine (qlen_any _ _ _ _).mono ?_
  rintro e w2 ⟨rfl, rfl⟩
  go_wp2_with fail
  refine hU.mono ?_
  rintro e w3 ⟨rfl, hR3, hF3⟩
  clear hU hm2
  go_wp2
  go_end0
  have h := hR3.own hg
  rw [upF_len, HL.out] at h
  refine ⟨rfl, _, ⟨hq.hb, hF3.bx hx1 hgb, by rw [upF_len, HL.out]; exact h⟩, hF1.trans (Fr2.of1 hF3) (fun g' e => ?_), fun g' e => hg1 g' (by simpa [Value.ownBlock] using e)⟩
  exact hg1 g' (by simpa [Value.ownBlock] using e)
end Go.Proofs.Ytlbmkokdoigcnaa
