/-
  The heap's methods that change how many it has: one more, behind all; the last one taken off. Nothing else is changed. Conditions: the row lies in memory of its own, not in the box.
-/
import Derived.Deep.AppendLies
import Derived.Deep.RegionLaw
import Derived.Test.YtlbmkokdoigcnaaWQueue
namespace Go.Proofs.Ytlbmkokdoigcnaa
open Go.RowKit

/-- what was there is as it was, but for a box and a row -/
structure Fr2 (b : Nat) (o : Option Nat) (w w' : World) : Prop where
  os : w'.os = w.os
  tape : w'.tape = w.tape
  output : w'.output = w.output
  size : w.heap.size ≤ w'.heap.size
  block : ∀ k, k < w.heap.size → k ≠ b → o ≠ some k → w'.heap[k]? = w.heap[k]?
theorem Fr2.refl (b : Nat) (o : Option Nat) (w : World) : Fr2 b o w w := ⟨rfl, rfl, rfl, Nat.le_refl _, fun _ _ _ _ => rfl⟩
theorem Fr2.of1 {b g : Nat} {w w' : World} (h : Fr1 g w w') : Fr2 b (some g) w w' := ⟨h.os, h.tape, h.output, h.size, fun k hk _ h2 => h.block k hk (fun e => h2 (by rw [e]))⟩
theorem Fr2.of {b : Nat} {o : Option Nat} {w w' : World} (h : Below w.heap.size w w') : Fr2 b o w w' := ⟨h.os, h.tape, h.output, h.size, fun k hk _ _ => h.block k hk⟩
theorem Fr2.drew {b : Nat} {o : Option Nat} {w w' : World} (h : Fr2 b o w w') : Fr2 b o w w'.drew := ⟨h.os, h.tape, h.output, h.size, h.block⟩
/-- one behind the other: the row may be a new one -/
theorem Fr2.trans {b : Nat} {o o' : Option Nat} {w1 w2 w3 : World} (h : Fr2 b o w1 w2) (k : Fr2 b o' w2 w3) (ho : ∀ g, o' = some g → o = some g ∨ w1.heap.size ≤ g) : Fr2 b o w1 w3 :=
  ⟨k.os.trans h.os, k.tape.trans h.tape, k.output.trans h.output, Nat.le_trans h.size k.size, fun i hi hb hg => (k.block i (Nat.lt_of_lt_of_le hi h.size) hb (fun e => by
    rcases ho i e with h1 | h1
    · exact hg h1
    · omega)).trans (h.block i hi hb hg)⟩
theorem Fr2.bx {w w' : World} {b c : Nat} {o : Option Nat} (h : Fr2 b o w w') {t : TypeId} {l : List Value} (hx : Bx w c t l) (hne : c ≠ b) (ho : o ≠ some c) : Bx w' c t l := (h.block c hx.lt hne ho).trans hx
theorem Fr2.below {w w' : World} {b n : Nat} {o : Option Nat} (h : Fr2 b o w w') (hn : n ≤ w.heap.size) (hb : n ≤ b) (ho : ∀ g, o = some g → n ≤ g) : Below n w w' :=
  ⟨h.os, h.tape, h.output, h.size, fun k hk => h.block k (by omega) (by omega) (fun e => by have := ho k e; omega)⟩
theorem Fr2.set {w w' : World} {b : Nat} {o : Option Nat} (h : Fr2 b o w w') (k : Nat) (v : Value) : Fr2 b o w (w'.setCell ⟨b, k, none⟩ v) :=
  ⟨h.os, h.tape, h.output, by simpa [World.setCell] using h.size, fun i hi hb hg => (Below.heap_setCell w' ⟨b, k, none⟩ v i hb).trans (h.block i hi hb hg)⟩
theorem Fr2.grown {w w' w'' : World} {b : Nat} {o o' : Option Nat} (h : Fr2 b o w w') (k : w'.grownBy w'' o') (ho : ∀ g, o' = some g → o = some g) : Fr2 b o w w'' :=
  ⟨k.os.trans h.os, k.tape.trans h.tape, k.output.trans h.output, Nat.le_trans h.size k.size, fun i hi hb hg => (k.block i (Nat.lt_of_lt_of_le hi h.size) (fun e => hg (ho i e.symm))).trans (h.block i hi hb hg)⟩
theorem own_set {w : World} {base b size n : Nat} {e : TypeId} {v : Value} {xs : List Value} (h : w.ownsRow base e size v n xs) (hne : v.ownBlock ≠ some b) (k : Nat) (u : Value) : (w.setCell ⟨b, k, none⟩ u).ownsRow base e size v n xs := by
  obtain ⟨h1, h2⟩ := h
  refine ⟨h1, ?_⟩
  rcases h2 with h2 | ⟨g, cap, cur, hv, hg, hh, r⟩
  · exact .inl h2
  · exact .inr ⟨g, cap, cur, hv, hg, by rw [Below.heap_setCell _ _ _ _ (fun e => hne (by rw [hv]; simp [Value.ownBlock, e]))]; exact hh, r⟩
theorem info_partsD {P : Program} {t : TypeId} {z : Option Value} {a b : Nat} (h : (P.info? t).map (fun i => (i.zero, i.size, i.bytes)) = some (z, a, b)) : ∃ i, P.info? t = some i ∧ i.zero = z ∧ i.size = a ∧ i.bytes = b := by
  obtain ⟨i, hi, he⟩ := Option.map_eq_some_iff.1 h
  simp only [Prod.mk.injEq] at he
  exact ⟨i, hi, he.1, he.2.1, he.2.2⟩
theorem cell_two (w : World) (x y : Value) (t : TypeId) : ∀ j u, [x, y][j]? = some u → (w.alloc (.cells #[x, y] t)).cell? ((⟨w.heap.size, 0, none⟩ : Addr).add j) = some u := by
  intro j u hj
  match j, hj with
  | 0, hj => simp at hj; subst hj; simp [Addr.add]
  | 1, hj => simp at hj; subst hj; simp [Addr.add]
/-- the row doesn't lie in the box -/
theorem own_apart {w : World} {base b n : Nat} {v u : Value} {l : List Value} (h : w.ownsRow base 24 2 v n l) (hx : BoxQ w b u) : v.ownBlock ≠ some b := by
  intro e
  obtain ⟨h1, ⟨rfl, h0⟩ | ⟨g, cap, cur, rfl, hg, hb, hn, hc, hs, ht⟩⟩ := h
  · cases e
  · cases e
    exact absurd rfl (bx_apart (t := 24) (m := cur.toList) hx (by simpa [Bx] using hb) (by decide))

set_option maxRecDepth 100000 in
set_option maxHeartbeats 1000000 in
theorem qpush_any (base b : Nat) (v : Value) (l : List DP) (d : DP) (w : World) (hb : base ≤ b) (hx : BoxQ w b v) (hown : w.ownsRow base 24 2 v l.length (rowD l)) (hl : l.length < 1000000) :
    Calls Try.prog 65 #[.pointer (some ⟨b, 0, none⟩), .iface 24 (encD d)] w fun e w' => e = .returned (.tuple #[]) ∧
      ∃ v', BoxQ w' b v' ∧ w'.ownsRow base 24 2 v' (l ++ [d]).length (rowD (l ++ [d])) ∧ Fr2 b v.ownBlock w w' ∧ ∀ g, v'.ownBlock = some g → v.ownBlock = some g ∨ w.heap.size ≤ g := by
  obtain ⟨i0, hi, hz0, hz1, hz2⟩ := info_partsD infoDue
  have hne := own_apart hown hx
  obtain ⟨da, di⟩ := d
  have HS := Lib.hid (rowD_snoc l ⟨da, di⟩)
  have HL := Lib.hid (show (l ++ [(⟨da, di⟩ : DP)]).length = l.length + 1 by simp)
  unfold encD
  dsimp only at *
  have c0 := hx.c
  have hlt := hx.lt
  have hbs : base ≤ w.heap.size := by omega
  have hxa := hx.alloc (.cells #[.int .i64 da, .int .i64 di] 24)
  have c1 := BoxQ.c hxa
  have hown1 : (w.alloc (.cells #[.int .i64 da, .int .i64 di] 24)).drew.ownsRow base 24 2 v l.length (rowD l) := hown.alloc _
  have HC : Hid (∀ j u, [Value.int .i64 da, .int .i64 di][j]? = some u → (w.alloc (.cells #[.int .i64 da, .int .i64 di] 24)).drew.cell? ((⟨w.heap.size, 0, none⟩ : Addr).add j) = some u) := Lib.hid (cell_two w _ _ _)
  have HE : Hid (Fr2 b v.ownBlock w (w.alloc (.cells #[.int .i64 da, .int .i64 di] 24)).drew) := Lib.hid (Fr2.of ((Below.refl _ w).alloc (Nat.le_refl _) _).drew)
  have HX : Hid (BoxQ (w.alloc (.cells #[.int .i64 da, .int .i64 di] 24)).drew b v) := Lib.hid hxa
  generalize rowD l = row at *
  generalize l.length = n at *
  have ml : n + 1 ≤ maxLen := by unfold maxLen; omega
  have h2 : (n + 1) * 16 ≤ 140737488355328 := by omega
  have hsz : base ≤ (w.alloc (.cells #[.int .i64 da, .int .i64 di] 24)).drew.heap.size := by simp; omega
  have hTA : ∀ (t : TypeId) w, (Instr.typeAssert (.iface 24 (.agg #[.int .i64 da, .int .i64 di])) t 24 false).run Try.prog w = .ok (.agg #[.int .i64 da, .int .i64 di]) w := fun _ _ => by kernel_rfl
  clear hx hown hxa hl
  go_enter Try.func65, Try.ntmps65
  go_wp2
  go_region_law (refine step_append_lies _ rfl (.tmp 7) (.tmp 10) 57 rfl base 24 i0 (.agg #[.int .i64 0, .int .i64 0]) 2 16 Try.underlying57 hi hz0 hz1 hz2 rfl (by decide) _ _ _ rfl hown1 ⟨w.heap.size, 0, none⟩ 1 1 [.int .i64 da, .int .i64 di] rfl rfl HC.out (by simp [Value.oneCell']) (by decide) ml h2 hsz (w.heap.size + 1) (by simp) ?_; intro g3 cap3 w3 hown3 hgrow3 hat3 hlt3; have hx3 := (hgrow3.block b (by simp; omega) (fun e => hne e.symm)).trans HX.out; have c3 := BoxQ.c hx3; have f3 := Bx.frozen hx3 0)
  all_goals (
    have hat : v.ownBlock = some g3 ∨ g3 = w.heap.size + 1 := hat3
    have hF := ((HE.out).grown (o' := v.ownBlock) hgrow3 (fun _ h => h)).set 0 (.slice (some ⟨g3, 0, none⟩) (n + 1) cap3)
    have hO := own_set hown3 (own_apart hown3 hx3) 0 (.slice (some ⟨g3, 0, none⟩) (n + 1) cap3)
    have hX := Bx.set (l := [v]) hx3 0 (.slice (some ⟨g3, 0, none⟩) (n + 1) cap3)
    go_end0
    exact ⟨rfl, _, hX, by rw [HL.out, HS.out]; exact hO, hF, fun g hg => by
      obtain rfl : g3 = g := by simpa [Value.ownBlock] using hg
      rcases hat with h | h
      · exact .inl h
      · exact .inr (by omega)⟩)
theorem RowD.less {w : World} {g cap : Nat} {l : List DP} (h : RowD w g cap l) (n : Nat) (hn : n ≤ l.length) : RowD w g cap (l.take n) := by
  obtain ⟨cur, hb, h1, h2, h3, h4⟩ := h
  have e : (l.take n).length = n := by rw [List.length_take]; omega
  refine ⟨cur, hb, by omega, h2, h3, ?_⟩
  rw [e, ← rowD_take, ← h4, List.take_take]
  congr 1
  omega

set_option maxRecDepth 100000 in
set_option maxHeartbeats 1000000 in
theorem qpop_any (b g N n cap : Nat) (l : List DP) (w : World) (hx : BoxQ w b (.slice (some ⟨g, 0, none⟩) N cap)) (hR : RowD w g cap l) (hl : l.length = N) (hN : N = n + 1) (hn : n < 1000000) :
    Calls Try.prog 64 #[.pointer (some ⟨b, 0, none⟩)] w fun e w' => e = .returned (.iface 24 (encD (atD l n))) ∧
      BoxQ w' b (.slice (some ⟨g, 0, none⟩) n cap) ∧ RowD w' g cap (l.take n) ∧ Fr2 b none w w' := by
  obtain ⟨x1, x2, -⟩ := hR.at n (by omega)
  have hc : N ≤ cap := by obtain ⟨cur, -, h1, -⟩ := hR; omega
  have hgb : b ≠ g := by obtain ⟨cur, h1, -⟩ := hR; exact bx_apart hx h1 (by decide)
  have c0 := BoxQ.c hx
  generalize hd : atD l n = d at *
  obtain ⟨da, di⟩ := d
  unfold encD
  dsimp only at *
  have f0 := Bx.frozen hx 0
  have hlt := hx.lt
  have HX := Lib.hid ((Bx.set (l := [_]) hx 0 (.slice (some ⟨g, 0, none⟩) n cap)).alloc (.cells #[.int .i64 da, .int .i64 di] 24))
  have hF0 := (Fr2.refl b none w).set 0 (.slice (some ⟨g, 0, none⟩) n cap)
  have HF := Lib.hid (hF0.trans (Fr2.of (b := b) (o := none) ((Below.refl _ (w.setCell ⟨b, 0, none⟩ (.slice (some ⟨g, 0, none⟩) n cap))).alloc (Nat.le_refl _) (.cells #[.int .i64 da, .int .i64 di] 24))) (fun g e => by cases e))
  have hR0 := (hR.less n (by omega)).kept (w' := w.setCell ⟨b, 0, none⟩ (.slice (some ⟨g, 0, none⟩) n cap)) (Below.heap_setCell _ _ _ _ (fun e => hgb e.symm))
  have HR := Lib.hid (hR0.kept (Below.heap_alloc _ (.cells #[.int .i64 da, .int .i64 di] 24) _ hR0.lt))
  have i0 : (0 : Int) ≤ (n : Int) := by omega
  have i1 : (n : Int) < (N : Int) := by omega
  have e1 : IntKind.i64.wrap ((N : Int) - 1) = (n : Int) := by simp only [IntKind.wrap_i64]; omega
  have hcn : n ≤ cap := by omega
  clear hx hR hl hn hd hF0 hR0 hgb hN
  go_enter Try.func64, Try.ntmps64
  go_wp2_with fail
  go_ret
  exact ⟨rfl, HX.out, HR.out, HF.out⟩
end Go.Proofs.Ytlbmkokdoigcnaa
