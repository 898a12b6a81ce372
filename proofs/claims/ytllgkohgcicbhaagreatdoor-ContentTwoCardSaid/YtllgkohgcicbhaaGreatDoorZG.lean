/-
  Several texts joined in one file: each says at its own head, below, what it proves, and its conditions.
-/
import Derived.Laws.ResultCell
import Derived.Test.YtllgkohgcicbhaaGreatDoorZA
import Derived.Test.YtllgkohgcicbhaaGreatDoorZE
import Derived.Laws.AppendOwnNone
import Derived.Test.YtllgkohgcicbhaaGreatDoorZF
import Derived.Test.YtllgkohgcicbhaaGreatDoorJCont
/-
  props.ofNumber, ofText and take answer as the plain functions say; nothing that was there is changed. Conditions: the package num's table of widths holds 1, 2, 4, 8; texts of fewer than 2^62 bytes.
-/
namespace Go.Proofs.YtllgkohgcicbhaaGreatDoor
open Go.RowKit


theorem pofNumber_any (n : Int) (r : ByteArray) (x : Int) (w : World) :
    Calls Tryz.prog 133 #[.int .u64 n, .string r, .int .i64 x] w fun e w' => e = .returned (.tuple #[.agg #[.int .u64 n, .string ⟨#[]⟩], .string r, .int .i64 x]) ∧ Below w.heap.size w w' := by
  go_enter Tryz.func133, Tryz.ntmps133
  go_wp2
  refine bodyPost_ret (v := .tuple #[.agg #[.int .u64 n, .string ⟨#[]⟩], .string r, .int .i64 x]) ?_ rfl ⟨rfl, (Below.refl _ w).alloc (Nat.le_refl _) _⟩
  rw [results_ctt rfl]
  simp [asAddr, Result.andThen, go_sem]

theorem pofText_any (t r : ByteArray) (x : Int) (w : World) :
    Calls Tryz.prog 134 #[.string t, .string r, .int .i64 x] w fun e w' => e = .returned (.tuple #[.agg #[.int .u64 0, .string t], .string r, .int .i64 x]) ∧ Below w.heap.size w w' := by
  go_enter Tryz.func134, Tryz.ntmps134
  go_wp2
  refine bodyPost_ret (v := .tuple #[.agg #[.int .u64 0, .string t], .string r, .int .i64 x]) ?_ rfl ⟨rfl, (Below.refl _ w).alloc (Nat.le_refl _) _⟩
  rw [results_ctt rfl]
  simp [asAddr, Result.andThen, go_sem]

set_option maxRecDepth 100000 in
set_option maxHeartbeats 1000000 in
theorem ptake_111 (s : ByteArray) (w : World) (hw : Wid w) :
    Calls Tryz.prog 106 #[.int .u8 111, .string s] w fun e w' => e = .returned (.tuple #[encV (oV 111 s), .string (oR 111 s), .int .i64 (oE 111 s)]) ∧ Below w.heap.size w w' := by
  have hb0 : Below w.heap.size w (w.alloc (.cells #[.int .u64 0, .string ⟨#[]⟩] 58)) := (Below.refl _ w).alloc (Nat.le_refl _) _
  have hx := Bx.new w 58 [.int .u64 0, .string ⟨#[]⟩]
  have hT := take_any s 1 _ (hw.below hb0)
  have HF : Hid (oV 111 s = ⟨takeV s 1, ⟨#[]⟩⟩) := Lib.hid rfl
  have H2 : oR 111 s = takeR s 1 := rfl
  have H3 : oE 111 s = takeE s 1 := rfl
  rw [H2, H3]
  clear H2 H3
  generalize takeV s 1 = tv at hT HF
  generalize takeR s 1 = R at hT ⊢
  generalize takeE s 1 = E at hT ⊢
  generalize oV 111 s = V at HF ⊢
  go_enter Tryz.func106, Tryz.ntmps106
  go_wp2_with fail
  refine hT.mono ?_
  rintro e w1 ⟨rfl, hb1⟩
  have hx1 := hx.kept hb1
  have hB1 := hb0.trans (hb1.mono hb0.size)
  clear hT hx hb1 hb0
  go_wp2_with fail
  refine (pofNumber_any _ _ _ w1).mono ?_
  rintro e w2 ⟨rfl, hb2⟩
  have hx2 := hx1.kept hb2
  have hB2 := hB1.trans (hb2.mono hB1.size)
  obtain ⟨a0, f0, a1, f1, bR⟩ := hx2.store2 (.int .u64 tv) (.string ⟨#[]⟩)
  have hB3 := below_store2 hB2 (B := w.heap.size) (Nat.le_refl _) (.int .u64 tv) (.string ⟨#[]⟩)
  clear hx1 hb2 hB1 hx2 hB2
  go_wp2
  have y0 := bR.cell 0 (by simp)
  have y1 := bR.cell 1 (by simp)
  dsimp only [List.getElem_cons_zero, List.getElem_cons_succ] at y0 y1
  refine bodyPost_ret (v := .tuple #[encV V, .string R, .int .i64 E]) ?_ rfl ⟨rfl, hB3⟩
  rw [results_ctt rfl, HF.out]
  simp [asAddr, Result.andThen, go_sem, y0, y1, encV]

set_option maxRecDepth 100000 in
set_option maxHeartbeats 1000000 in
theorem ptake_113 (s : ByteArray) (w : World) (hw : Wid w) :
    Calls Tryz.prog 106 #[.int .u8 113, .string s] w fun e w' => e = .returned (.tuple #[encV (oV 113 s), .string (oR 113 s), .int .i64 (oE 113 s)]) ∧ Below w.heap.size w w' := by
  have hb0 : Below w.heap.size w (w.alloc (.cells #[.int .u64 0, .string ⟨#[]⟩] 58)) := (Below.refl _ w).alloc (Nat.le_refl _) _
  have hx := Bx.new w 58 [.int .u64 0, .string ⟨#[]⟩]
  have hT := take_any s 8 _ (hw.below hb0)
  have HF : Hid (oV 113 s = ⟨takeV s 8, ⟨#[]⟩⟩) := Lib.hid rfl
  have H2 : oR 113 s = takeR s 8 := rfl
  have H3 : oE 113 s = takeE s 8 := rfl
  rw [H2, H3]
  clear H2 H3
  generalize takeV s 8 = tv at hT HF
  generalize takeR s 8 = R at hT ⊢
  generalize takeE s 8 = E at hT ⊢
  generalize oV 113 s = V at HF ⊢
  go_enter Tryz.func106, Tryz.ntmps106
  go_wp2_with fail
  refine hT.mono ?_
  rintro e w1 ⟨rfl, hb1⟩
  have hx1 := hx.kept hb1
  have hB1 := hb0.trans (hb1.mono hb0.size)
  clear hT hx hb1 hb0
  go_wp2_with fail
  refine (pofNumber_any _ _ _ w1).mono ?_
  rintro e w2 ⟨rfl, hb2⟩
  have hx2 := hx1.kept hb2
  have hB2 := hB1.trans (hb2.mono hB1.size)
  obtain ⟨a0, f0, a1, f1, bR⟩ := hx2.store2 (.int .u64 tv) (.string ⟨#[]⟩)
  have hB3 := below_store2 hB2 (B := w.heap.size) (Nat.le_refl _) (.int .u64 tv) (.string ⟨#[]⟩)
  clear hx1 hb2 hB1 hx2 hB2
  go_wp2
  have y0 := bR.cell 0 (by simp)
  have y1 := bR.cell 1 (by simp)
  dsimp only [List.getElem_cons_zero, List.getElem_cons_succ] at y0 y1
  refine bodyPost_ret (v := .tuple #[encV V, .string R, .int .i64 E]) ?_ rfl ⟨rfl, hB3⟩
  rw [results_ctt rfl, HF.out]
  simp [asAddr, Result.andThen, go_sem, y0, y1, encV]

set_option maxRecDepth 100000 in
set_option maxHeartbeats 1000000 in
theorem ptake_83 (s : ByteArray) (w : World) (hw : Wid w) (hs : s.size < 4611686018427387904) :
    Calls Tryz.prog 106 #[.int .u8 83, .string s] w fun e w' => e = .returned (.tuple #[encV (oV 83 s), .string (oR 83 s), .int .i64 (oE 83 s)]) ∧ Below w.heap.size w w' := by
  have hb0 : Below w.heap.size w (w.alloc (.cells #[.int .u64 0, .string ⟨#[]⟩] 58)) := (Below.refl _ w).alloc (Nat.le_refl _) _
  have hx := Bx.new w 58 [.int .u64 0, .string ⟨#[]⟩]
  have hT := takeShort_any s _ (hw.below hb0) hs
  have HF : Hid (oV 83 s = ⟨0, ttA 1 s⟩) := Lib.hid rfl
  have H2 : oR 83 s = ttR 1 s := rfl
  have H3 : oE 83 s = ttE 1 s := rfl
  rw [H2, H3]
  clear H2 H3
  generalize ttA 1 s = tv at hT HF
  generalize ttR 1 s = R at hT ⊢
  generalize ttE 1 s = E at hT ⊢
  generalize oV 83 s = V at HF ⊢
  go_enter Tryz.func106, Tryz.ntmps106
  go_wp2_with fail
  refine hT.mono ?_
  rintro e w1 ⟨rfl, hb1⟩
  have hx1 := hx.kept hb1
  have hB1 := hb0.trans (hb1.mono hb0.size)
  clear hT hx hb1 hb0
  go_wp2_with fail
  refine (pofText_any _ _ _ w1).mono ?_
  rintro e w2 ⟨rfl, hb2⟩
  have hx2 := hx1.kept hb2
  have hB2 := hB1.trans (hb2.mono hB1.size)
  obtain ⟨a0, f0, a1, f1, bR⟩ := hx2.store2 (.int .u64 0) (.string tv)
  have hB3 := below_store2 hB2 (B := w.heap.size) (Nat.le_refl _) (.int .u64 0) (.string tv)
  clear hx1 hb2 hB1 hx2 hB2
  go_wp2
  have y0 := bR.cell 0 (by simp)
  have y1 := bR.cell 1 (by simp)
  dsimp only [List.getElem_cons_zero, List.getElem_cons_succ] at y0 y1
  refine bodyPost_ret (v := .tuple #[encV V, .string R, .int .i64 E]) ?_ rfl ⟨rfl, hB3⟩
  rw [results_ctt rfl, HF.out]
  simp [asAddr, Result.andThen, go_sem, y0, y1, encV]

set_option maxRecDepth 100000 in
set_option maxHeartbeats 1000000 in
theorem ptake_84 (s : ByteArray) (w : World) (hw : Wid w) (hs : s.size < 4611686018427387904) :
    Calls Tryz.prog 106 #[.int .u8 84, .string s] w fun e w' => e = .returned (.tuple #[encV (oV 84 s), .string (oR 84 s), .int .i64 (oE 84 s)]) ∧ Below w.heap.size w w' := by
  have hb0 : Below w.heap.size w (w.alloc (.cells #[.int .u64 0, .string ⟨#[]⟩] 58)) := (Below.refl _ w).alloc (Nat.le_refl _) _
  have hx := Bx.new w 58 [.int .u64 0, .string ⟨#[]⟩]
  have hT := tabTake_any s _ (hw.below hb0) hs
  have HF : Hid (oV 84 s = ⟨0, takenA s (nest true s 32)⟩) := Lib.hid rfl
  have H2 : oR 84 s = takenB (nest true s 32) := rfl
  have H3 : oE 84 s = (nest true s 32).err := rfl
  rw [H2, H3]
  clear H2 H3
  generalize takenA s (nest true s 32) = tv at hT HF
  generalize takenB (nest true s 32) = R at hT ⊢
  generalize (nest true s 32).err = E at hT ⊢
  generalize oV 84 s = V at HF ⊢
  go_enter Tryz.func106, Tryz.ntmps106
  go_wp2_with fail
  refine hT.mono ?_
  rintro e w1 ⟨rfl, hb1⟩
  have hx1 := hx.kept hb1
  have hB1 := hb0.trans (hb1.mono hb0.size)
  clear hT hx hb1 hb0
  go_wp2_with fail
  refine (pofText_any _ _ _ w1).mono ?_
  rintro e w2 ⟨rfl, hb2⟩
  have hx2 := hx1.kept hb2
  have hB2 := hB1.trans (hb2.mono hB1.size)
  obtain ⟨a0, f0, a1, f1, bR⟩ := hx2.store2 (.int .u64 0) (.string tv)
  have hB3 := below_store2 hB2 (B := w.heap.size) (Nat.le_refl _) (.int .u64 0) (.string tv)
  clear hx1 hb2 hB1 hx2 hB2
  go_wp2
  have y0 := bR.cell 0 (by simp)
  have y1 := bR.cell 1 (by simp)
  dsimp only [List.getElem_cons_zero, List.getElem_cons_succ] at y0 y1
  refine bodyPost_ret (v := .tuple #[encV V, .string R, .int .i64 E]) ?_ rfl ⟨rfl, hB3⟩
  rw [results_ctt rfl, HF.out]
  simp [asAddr, Result.andThen, go_sem, y0, y1, encV]


theorem ptake_any (i : Fin 14) (s : ByteArray) (w : World) (hw : Wid w) (hs : s.size < 4611686018427387904) :
    Calls Tryz.prog 106 #[.int .u8 ((pLet i).toNat : Int), .string s] w fun e w' => e = .returned (.tuple #[encV (oV (pLet i) s), .string (oR (pLet i) s), .int .i64 (oE (pLet i) s)]) ∧ Below w.heap.size w w' := by
  rcases pLet_cases i with h | h | h | h <;> rw [h]
  · exact ptake_83 s w hw hs
  · exact ptake_84 s w hw hs
  · exact ptake_111 s w hw
  · exact ptake_113 s w hw
end Go.Proofs.YtllgkohgcicbhaaGreatDoor

/-
  props.takeAll answers as the plain functions say, its values in memory of its own; nothing that was there is changed. Conditions: the package num's table of widths holds 1, 2, 4, 8; flags are a uint64; a text shorter than 2^62 bytes.
-/
namespace Go.Proofs.YtllgkohgcicbhaaGreatDoor
open Go.RowKit Go.Shelf
attribute [local go_sem] Oper.semAt_some

/-- between rounds -/
structure TI (f : Int) (s : ByteArray) (w : World) (pre : List (Fin 14)) (X : World) : Prop where
  ok : tkE (pre.map pLet) s = 0
  sz : (tkR (pre.map pLet) s).size ≤ s.size
  str : Boxed X w.heap.size 9 (.string (tkR (pre.map pLet) s))
  r1 : Boxed X (w.heap.size + 1) 22 (.slice none 0 0)
  r2 : Boxed X (w.heap.size + 1 + 1) 9 (.string ⟨#[]⟩)
  r3 : Boxed X (w.heap.size + 1 + 1 + 1) 37 (.int .i64 0)
  row : ∃ v, Boxed X (w.heap.size + 1 + 1 + 1 + 1) 22 v ∧ X.ownsRow w.heap.size 58 2 v pre.length (rowV (tkVs (pre.map pLet) s))
  bel : Below w.heap.size w X
  big : w.heap.size + 6 ≤ X.heap.size
/-- where a round left the loop -/
structure TX (s : ByteArray) (w : World) (pre : List (Fin 14)) (X : World) : Prop where
  bad : ¬ tkE (pre.map pLet) s = 0
  r1 : Boxed X (w.heap.size + 1) 22 (.slice none 0 0)
  r2 : Boxed X (w.heap.size + 1 + 1) 9 (.string ⟨#[]⟩)
  r3 : Boxed X (w.heap.size + 1 + 1 + 1) 37 (.int .i64 (tkE (pre.map pLet) s))
  bel : Below w.heap.size w X

theorem own_low {X Y : World} {row : Option Nat} {base : Nat} {e : TypeId} {size : Nat} {v : Value} {n : Nat} {xs : List Value} (hg : X.grownBy Y row) (hr : ∀ r, row = some r → ∃ o : Obj, X.heap[r]? = some o ∧ o.isCells = false) (h : X.ownsRow base e size v n xs) : Y.ownsRow base e size v n xs := by
  refine ⟨h.1, ?_⟩
  rcases h.2 with h0 | ⟨g, cap, cur, hv, hge, hb, hr'⟩
  · exact .inl h0
  · exact .inr ⟨g, cap, cur, hv, hge, cells_grow hb hg (B := 0) (fun r e => ⟨Nat.zero_le _, hr r e⟩), hr'⟩
theorem TI_own {f : Int} {s : ByteArray} {w : World} {N : Nat} (hN : w.heap.size ≤ N) : OwnFrom N (fun pre Y => TI f s w pre Y) := fun pre X Y row hs hg hr => by
  obtain ⟨v, h1, h2⟩ := hs.row
  exact ⟨hs.ok, hs.sz, cells_grow hs.str hg hr, cells_grow hs.r1 hg hr, cells_grow hs.r2 hg hr, cells_grow hs.r3 hg hr, ⟨v, cells_grow h1 hg hr, own_low hg (fun r e => (hr r e).2) h2⟩, hs.bel.grown hg hs.bel.size (fun k e => Nat.le_trans hN (hr k e).1), Nat.le_trans hs.big hg.size⟩
theorem TX_own {s : ByteArray} {w : World} {N : Nat} (hN : w.heap.size ≤ N) : OwnFrom N (fun pre Y => TX s w pre Y) := fun _ _ _ _ hs hg hr =>
  ⟨hs.bad, cells_grow hs.r1 hg hr, cells_grow hs.r2 hg hr, cells_grow hs.r3 hg hr, hs.bel.grown hg hs.bel.size (fun k e => Nat.le_trans hN (hr k e).1)⟩

theorem own_below {X Y : World} {base : Nat} {e : TypeId} {size : Nat} {v : Value} {n : Nat} {xs : List Value} (hb : Below X.heap.size X Y) (h : X.ownsRow base e size v n xs) : Y.ownsRow base e size v n xs := by
  refine ⟨h.1, ?_⟩
  rcases h.2 with h0 | ⟨g, cap, cur, hv, hge, hg, hr'⟩
  · exact .inl h0
  · exact .inr ⟨g, cap, cur, hv, hge, (hb.block g (Array.getElem?_eq_some_iff.1 hg).1).trans hg, hr'⟩
theorem TI_below {f : Int} {s : ByteArray} {w X Y : World} {pre : List (Fin 14)} (hs : TI f s w pre X) (hb : Below X.heap.size X Y) : TI f s w pre Y := by
  obtain ⟨v, h1, h2⟩ := hs.row
  exact ⟨hs.ok, hs.sz, boxed_underP hs.str hb, boxed_underP hs.r1 hb, boxed_underP hs.r2 hb, boxed_underP hs.r3 hb, ⟨v, boxed_underP h1 hb, own_below hb h2⟩, hs.bel.trans (hb.mono hs.bel.size), Nat.le_trans hs.big hb.size⟩
theorem cells_new (W : World) (t : TypeId) (l : List Value) : ∀ j u, l[j]? = some u → (W.alloc (.cells l.toArray t)).cell? ((⟨W.heap.size, 0, none⟩ : Addr).add j) = some u := by
  intro j u h
  obtain ⟨hj, he⟩ := List.getElem?_eq_some_iff.1 h
  have := (Bx.new W t l).cell j hj
  rw [he] at this
  rw [Addr.add_mid]
  simpa using this
theorem poR_le {c : UInt8} {s : ByteArray} (hc : ¬ c = 98) (h : oE c s = 0) : (oR c s).size ≤ s.size := by
  have := congrArg ByteArray.size (one_forth hc h).2.1
  rw [ByteArray.size_append] at this
  omega
/-- a box stays where a row of another type grows, and two other boxes are written -/
theorem box_appended {W w1 : World} {b B1 B2 : Nat} {t e : TypeId} {size k : Nat} {v u x y : Value} {xs : List Value} {tmp : Obj} (hb : Boxed W b t u) (hte : t ≠ e) (hrow : W.ownsRow 0 e size v k xs) (hg : (W.alloc tmp).grownBy w1 v.ownBlock) (h1 : b ≠ B1) (h2 : b ≠ B2) : Boxed ((w1.setCell ⟨B1, 0, none⟩ x).setCell ⟨B2, 0, none⟩ y) b t u :=
  (((hb.alloc tmp).kept hg (hb.not_row hte hrow)).other h1 _).other h2 _
theorem row_zero {W : World} {base : Nat} {e : TypeId} {size : Nat} {v : Value} {n : Nat} {xs : List Value} (h : W.ownsRow base e size v n xs) : W.ownsRow 0 e size v n xs := by
  refine ⟨h.1, ?_⟩
  rcases h.2 with h0 | ⟨g, cap, cur, hv, hge, hr'⟩
  · exact .inl h0
  · exact .inr ⟨g, cap, cur, hv, Nat.zero_le _, hr'⟩

set_option maxRecDepth 100000 in
set_option maxHeartbeats 400000 in
theorem takeAll_any (f : Int) (s : ByteArray) (w : World) (hw : Wid w) (h0 : 0 ≤ f) (h1 : f < 18446744073709551616) (hs : s.size < 4611686018427387904) :
    Calls Tryz.prog 85 #[.int .u64 f, .string s] w fun e w' => (tkE (hLs f) s = 0 → ∃ v, e = .returned (.tuple #[v, .string (tkR (hLs f) s), .int .i64 0]) ∧ w'.ownsRow w.heap.size 58 2 v (hLs f).length (rowV (tkVs (hLs f) s))) ∧ (¬ tkE (hLs f) s = 0 → e = .returned (.tuple #[.slice none 0 0, .string ⟨#[]⟩, .int .i64 (tkE (hLs f) s)])) ∧ Below w.heap.size w w' := by
  refine (callsIn_wide (n := 6)).1 ?_
  obtain ⟨i0, hi, hz0, hz1, hz2⟩ := info_partsV infoVal
  have hTo := fun W => told_in 5 f W
  refine callsIn_of_wp_marks Tryz.func85 rfl trivial ?_ rfl
  simp only [Tryz.ntmps85, List.size_toArray, List.length_cons, List.length_nil, Nat.reduceAdd, Nat.reduceSub, Array.replicate_succ, Array.replicate_zero, List.push_toArray, List.append_toArray, List.nil_append, List.cons_append]
  gi_wp2_with fail
  refine ⟨trivial, (hTo _).mono ?_⟩
  rintro e w' ⟨rfl, rfl⟩
  clear hTo
  obtain ⟨w5, hw5⟩ : ∃ w5, (((((w.alloc (.cells #[.string s] 9)).alloc (.cells #[.slice none 0 0] 22)).alloc (.cells #[.string ⟨#[]⟩] 9)).alloc (.cells #[.int .i64 0] 37)).alloc (.cells #[.slice none 0 0] 22)).alloc (.cells #[.int .u64 f] 25) = w5 := ⟨_, rfl⟩
  have bS : Boxed w5 w.heap.size 9 (.string s) := by rw [← hw5]; exact (((((Boxed.new w _ _).alloc _).alloc _).alloc _).alloc _).alloc _
  have bL1 : Boxed w5 (w.heap.size + 1) 22 (.slice none 0 0) := by
    have h := ((((Boxed.new (w.alloc (.cells #[.string s] 9)) 22 (.slice none 0 0)).alloc (.cells #[.string ⟨#[]⟩] 9)).alloc (.cells #[.int .i64 0] 37)).alloc (.cells #[.slice none 0 0] 22)).alloc (.cells #[.int .u64 f] 25)
    rw [World.size_alloc] at h
    rw [← hw5]; exact h
  have bL2 : Boxed w5 (w.heap.size + 1 + 1) 9 (.string ⟨#[]⟩) := by
    have h := (((Boxed.new ((w.alloc (.cells #[.string s] 9)).alloc (.cells #[.slice none 0 0] 22)) 9 (.string ⟨#[]⟩)).alloc (.cells #[.int .i64 0] 37)).alloc (.cells #[.slice none 0 0] 22)).alloc (.cells #[.int .u64 f] 25)
    rw [World.size_alloc, World.size_alloc] at h
    rw [← hw5]; exact h
  have bL3 : Boxed w5 (w.heap.size + 1 + 1 + 1) 37 (.int .i64 0) := by
    have h := ((Boxed.new (((w.alloc (.cells #[.string s] 9)).alloc (.cells #[.slice none 0 0] 22)).alloc (.cells #[.string ⟨#[]⟩] 9)) 37 (.int .i64 0)).alloc (.cells #[.slice none 0 0] 22)).alloc (.cells #[.int .u64 f] 25)
    rw [World.size_alloc, World.size_alloc, World.size_alloc] at h
    rw [← hw5]; exact h
  have bL4 : Boxed w5 (w.heap.size + 1 + 1 + 1 + 1) 22 (.slice none 0 0) := by
    have h := (Boxed.new ((((w.alloc (.cells #[.string s] 9)).alloc (.cells #[.slice none 0 0] 22)).alloc (.cells #[.string ⟨#[]⟩] 9)).alloc (.cells #[.int .i64 0] 37)) 22 (.slice none 0 0)).alloc (.cells #[.int .u64 f] 25)
    rw [World.size_alloc, World.size_alloc, World.size_alloc, World.size_alloc] at h
    rw [← hw5]; exact h
  have bF : Boxed w5 (w.heap.size + 1 + 1 + 1 + 1 + 1) 25 (.int .u64 f) := by
    have h := Boxed.new (((((w.alloc (.cells #[.string s] 9)).alloc (.cells #[.slice none 0 0] 22)).alloc (.cells #[.string ⟨#[]⟩] 9)).alloc (.cells #[.int .i64 0] 37)).alloc (.cells #[.slice none 0 0] 22)) 25 (.int .u64 f)
    rw [World.size_alloc, World.size_alloc, World.size_alloc, World.size_alloc, World.size_alloc] at h
    rw [← hw5]; exact h
  have hB5 : Below w.heap.size w w5 := by rw [← hw5]; exact ((((((Below.refl _ w).alloc (Nat.le_refl _) _).alloc (by simp) _).alloc (by simp; omega) _).alloc (by simp; omega) _).alloc (by simp; omega) _).alloc (by simp; omega) _
  have hsz : w5.heap.size = w.heap.size + 6 := by rw [← hw5]; simp
  have hsz1 : (w.heap.size + 1 + 1 + 1 + 1 + 1) = w.heap.size + 5 := by omega
  rw [hw5]
  simp only [World.size_alloc]
  clear hw5
  gi_wp2_with fail
  refine wpIn_rangeFunc_ownG rfl (by decide) (gf := 123) (lb := #[.pointer (some ⟨w.heap.size + 1 + 1 + 1 + 1 + 1, 0, none⟩)]) rfl trivial (enters_of Tryz.func123 (by kernel_rfl) rfl)
    (told_stops 5 (w.heap.size + 1 + 1 + 1 + 1 + 1) f h0 h1 _ bF) keepF_t (fun W l o o' _ h hc _ => keepF_b W l o o' h hc) (Below.refl _ _) (fun _ => rfl)
    (fun pre Y => TI f s w pre Y) (fun c pre Y => c = .ret ∧ TX s w pre Y)
    (TI_own hB5.size) (fun c pre X Y row hs hg hr => ⟨hs.1, TX_own hB5.size pre X Y row hs.2 hg hr⟩)
    ⟨rfl, Nat.le_refl _, bS, bL1, bL2, bL3, ⟨_, bL4, World.ownsRow_nil _ _ _ _⟩, hB5, by omega⟩
    (fun x => { tmps := #[.int .u64 f, .string s, undef, .pointer (some ⟨w.heap.size, 0, none⟩), .pointer (some ⟨w.heap.size + 1, 0, none⟩), .pointer (some ⟨w.heap.size + 1 + 1, 0, none⟩), .pointer (some ⟨w.heap.size + 1 + 1 + 1, 0, none⟩), .pointer (some ⟨w.heap.size + 1 + 1 + 1 + 1, 0, none⟩), .int .i64 (x.1 : Int), undef, undef, undef, .int .u64 f, .func (.func 123) #[] #[.pointer (some ⟨w.heap.size + 1 + 1 + 1 + 1 + 1, 0, none⟩)], .int .i64 (x.1 : Int), undef, undef, undef, undef, undef, undef, undef, undef, undef, undef, undef, undef, undef, undef, undef, undef, undef, undef], defers := [] }) ?assign ?body ?done ?stop
  case assign =>
    intro l x W K hK
    gi_wp2
    exact hK
  case body =>
    rintro l pre x X hI hlt
    have HP := Lib.hid hI
    have hBX := hI.bel
    have hmo : Tryz.prog.follows .mixedOrders = true := by kernel_rfl
    obtain ⟨R, hR⟩ : ∃ R, R = tkR (pre.map pLet) s := ⟨_, rfl⟩
    have hRs : R.size < 4611686018427387904 := by have := hI.sz; rw [← hR] at this; omega
    have hL : ∀ W, Below X.heap.size X W → _ := fun W hb => ptake_any x R W (hw.below (hBX.trans (hb.mono hBX.size))) hRs
    have HR : Hid (R = tkR (pre.map pLet) s ∧ tkR ((pre ++ [x]).map pLet) s = oR (pLet x) R) := Lib.hid ⟨hR, by rw [List.map_append, List.map_singleton, tkR_snoc, hR]⟩
    have HV : Hid (tkVs ((pre ++ [x]).map pLet) s = tkVs (pre.map pLet) s ++ [oV (pLet x) R]) := Lib.hid (by rw [List.map_append, List.map_singleton, tkVs_snoc, hR])
    have HE : Hid (tkE ((pre ++ [x]).map pLet) s = oE (pLet x) R) := Lib.hid (by rw [List.map_append, List.map_singleton, tkE_snoc, if_pos hI.ok, hR])
    have HZ : Hid (oE (pLet x) R = 0 → (oR (pLet x) R).size ≤ s.size) := Lib.hid (fun h => Nat.le_trans (poR_le (pLet_not x) h) (by rw [hR]; exact hI.sz))
    have HQ : Hid (pre.length + 1 ≤ 14) := Lib.hid (by have := wh_le f; omega)
    have hidx := index_let x
    have bS' := hI.str
    rw [← hR] at bS'
    have HS := Lib.hid bS'
    clear hI hR hRs hlt bS'
    generalize oR (pLet x) R = nr at hL HR HZ
    generalize oE (pLet x) R = ne at hL HE HZ
    generalize oV (pLet x) R = vv at hL HV
    generalize hlt : ((pLet x).toNat : Int) = lt at hL hidx
    clear hlt
    obtain ⟨vn, vs⟩ := vv
    unfold encV at hL
    dsimp only at hL
    gi_wp2_with fail
    rename_i Kx hKx
    have hend : ∀ (p : Nat) (W : World), Below X.heap.size X W → X.heap.size ≤ p → Bx W p 58 [.int .u64 vn, .string vs] → Kx { tmps := #[.int .u64 f, .string s, undef, .pointer (some ⟨w.heap.size, 0, none⟩), .pointer (some ⟨w.heap.size + 1, 0, none⟩), .pointer (some ⟨w.heap.size + 1 + 1, 0, none⟩), .pointer (some ⟨w.heap.size + 1 + 1 + 1, 0, none⟩), .pointer (some ⟨w.heap.size + 1 + 1 + 1 + 1, 0, none⟩), .int .i64 (x.1 : Int), .pointer (some ⟨p, 0, none⟩), .string nr, .int .i64 ne, .int .u64 f, .func (.func 123) #[] #[.pointer (some ⟨w.heap.size + 1 + 1 + 1 + 1 + 1, 0, none⟩)], .int .i64 (x.1 : Int), .tuple #[.agg #[.int .u64 vn, .string vs], .string nr, .int .i64 ne], .int .i64 (x.1 : Int), .int .u8 lt, .string R, .tuple #[.agg #[.int .u64 vn, .string vs], .string nr, .int .i64 ne], .agg #[.int .u64 vn, .string vs], .string nr, .int .i64 ne, undef, undef, undef, undef, undef, undef, undef, undef, undef, undef], defers := [] } W := by
      intro p W hb hp hx
      refine hKx _ _ ?_
      clear hKx Kx
      have hIW := TI_below HP.out hb
      obtain ⟨v, hv, hrow⟩ := hIW.row
      have cV := hv.cell
      have p0 := hx.cell 0 (by simp)
      have p1 := hx.cell 1 (by simp)
      simp only [List.getElem_cons_zero, List.getElem_cons_succ] at p0 p1
      by_cases he : ne = 0
      · subst he
        have hIs := hIW.str
        rw [← HR.out.1] at hIs
        have hpl := HQ.out
        have hBs := hIW.bel.size
        clear hL
        gi_wp2_with (gi_at_builtin; refine wpListIn_append_own _ rfl _ _ 22 rfl w.heap.size 58 i0 (.agg #[.int .u64 0, .string ⟨#[]⟩]) 2 24 Tryz.underlying22 hi hz0 hz1 hz2 rfl (by decide) _ _ _ rfl (hrow.alloc _) ⟨W.heap.size, 0, none⟩ 1 1 [.int .u64 vn, .string vs] rfl rfl (cells_new _ _ _) (by simp [Value.oneCell']) (by unfold maxLen; omega) (by omega) (by simp; omega) ?_; intro v' w1 hown' hgrow _; obtain ⟨g', cap', rfl⟩ := ownsRow_succ hown'; obtain ⟨hv1, hv2, hr2, hk2, hb2⟩ := hv.appended (by decide) hrow hBs (by omega) hown' hgrow; have hc1 := hv1.cell; have hf1 := hv1.frozen; have hs1 := ((hIs.alloc _).kept hgrow (hIs.not_row (by decide) hrow)).other (B' := w.heap.size + 1 + 1 + 1 + 1) (by omega) (.slice (some ⟨g', 0, none⟩) (pre.length + 1) cap'); have hc2 := hs1.cell; have hf2 := hs1.frozen)
        have hbx : ∀ {b : Nat} {t : TypeId} {u : Value}, Boxed W b t u → t ≠ 58 → b ≠ w.heap.size + 1 + 1 + 1 + 1 → b ≠ w.heap.size → Boxed _ b t u := fun h h1 h2 h3 => box_appended (B1 := w.heap.size + 1 + 1 + 1 + 1) (B2 := w.heap.size) (x := .slice (some ⟨g', 0, none⟩) (pre.length + 1) cap') (y := .string nr) h h1 (row_zero hrow) hgrow h2 h3
        refine ⟨?_, ?_, ?_⟩
        · refine (⟨hb.size, fun k o _ h1 _ => (hb.block k (Array.getElem?_eq_some_iff.1 h1).1).trans h1⟩ : KeepsFrom _ X W).trans ((hk2.from _).trans (KeepsFrom.of_grownBy (grownBy_setCell' _ _ _) (fun j e => ?_)))
          obtain rfl : w.heap.size = j := by simpa using e
          omega
        · intro u hu
          exact hbx (boxed_underP hu hb) (by decide) (by omega) (by omega)
        · refine ⟨HE.out, ?_, ?_, hbx hIW.r1 (by decide) (by omega) (by omega), hbx hIW.r2 (by decide) (by omega) (by omega), hbx hIW.r3 (by decide) (by omega) (by omega), ⟨_, hv2.other (by omega) _, ?_⟩, (hIW.bel.trans hb2).setCell (p := ⟨w.heap.size, 0, none⟩) (Nat.le_refl _) _, ?_⟩
          · rw [HR.out.2]; first | exact HZ.out rfl | exact HZ.out trivial
          · rw [HR.out.2]; exact hs1.set _
          · have hr3 := hr2.kept (grownBy_setCell' _ w.heap.size (.string nr)) (.inr (hs1.not_row (by decide) hr2).symm)
            rw [HV.out, rowV_snoc, List.length_append, List.length_singleton]
            exact hr3
          · exact Nat.le_trans hIW.big (Nat.le_trans hb2.size (by simp))
      · have tv : (ne != 0) = true := by simpa using he
        have q1 := hIW.r1
        have q2 := hIW.r2.other (B' := w.heap.size + 1) (by omega) (.slice none 0 0)
        have q3 := (hIW.r3.other (B' := w.heap.size + 1) (by omega) (.slice none 0 0)).other (B' := w.heap.size + 1 + 1) (by omega) (.string ⟨#[]⟩)
        have c1 := q1.cell
        have f1 := q1.frozen
        have c2 := q2.cell
        have f2 := q2.frozen
        have c3 := q3.cell
        have f3 := q3.frozen
        have HX : Hid (TX s w (pre ++ [x]) (((W.setCell ⟨w.heap.size + 1, 0, none⟩ (.slice none 0 0)).setCell ⟨w.heap.size + 1 + 1, 0, none⟩ (.string ⟨#[]⟩)).setCell ⟨w.heap.size + 1 + 1 + 1, 0, none⟩ (.int .i64 ne)) ∧ KeepsFrom w5.heap.size X (((W.setCell ⟨w.heap.size + 1, 0, none⟩ (.slice none 0 0)).setCell ⟨w.heap.size + 1 + 1, 0, none⟩ (.string ⟨#[]⟩)).setCell ⟨w.heap.size + 1 + 1 + 1, 0, none⟩ (.int .i64 ne))) := Lib.hid (by
          refine ⟨⟨by rw [HE.out]; exact he, ((q1.set _).other (by omega) _).other (by omega) _, (q2.set _).other (by omega) _, by rw [HE.out]; exact q3.set _, ((hIW.bel.setCell (p := ⟨w.heap.size + 1, 0, none⟩) (by simp) _).setCell (p := ⟨w.heap.size + 1 + 1, 0, none⟩) (by simp; omega) _).setCell (p := ⟨w.heap.size + 1 + 1 + 1, 0, none⟩) (by simp; omega) _⟩, ?_⟩
          refine ⟨by simpa using hb.size, fun k o _ h1 h2 => ?_⟩
          exact (((Keeps.below (p := fun _ => false) hb).trans (Keeps.setCell q1 rfl 0 _)).trans ((Keeps.setCell q2 rfl 0 _).trans (Keeps.setCell q3 rfl 0 _))) k o h1 (not_cells_q h2))
        clear hL hrow hv hIW q1 q2 q3
        gi_wp2
        exact ⟨HX.out.2, rfl, HX.out.1⟩
    clear hKx
    refine wpIn_region_any hmo ?_
    change wpAnyIn _ _ _ _ _ _ 12 #[false, false, false, false, false, false, false, false, false, false, false, false] _ (World.drew _)
    generalize hT : wpAnyIn _ _ _ _ _ _ = T
    have hS111111111111 : ∀ (p : Nat) (W : World), Below X.heap.size X W → X.heap.size ≤ p → Bx W p 58 [.int .u64 vn, .string vs] → T 0 #[true, true, true, true, true, true, true, true, true, true, true, true] { tmps := #[.int .u64 f, .string s, undef, .pointer (some ⟨w.heap.size, 0, none⟩), .pointer (some ⟨w.heap.size + 1, 0, none⟩), .pointer (some ⟨w.heap.size + 1 + 1, 0, none⟩), .pointer (some ⟨w.heap.size + 1 + 1 + 1, 0, none⟩), .pointer (some ⟨w.heap.size + 1 + 1 + 1 + 1, 0, none⟩), .int .i64 (x.1 : Int), .pointer (some ⟨p, 0, none⟩), .string nr, .int .i64 ne, .int .u64 f, .func (.func 123) #[] #[.pointer (some ⟨w.heap.size + 1 + 1 + 1 + 1 + 1, 0, none⟩)], .int .i64 (x.1 : Int), .tuple #[.agg #[.int .u64 vn, .string vs], .string nr, .int .i64 ne], .int .i64 (x.1 : Int), .int .u8 lt, .string R, .tuple #[.agg #[.int .u64 vn, .string vs], .string nr, .int .i64 ne], .agg #[.int .u64 vn, .string vs], .string nr, .int .i64 ne, undef, undef, undef, undef, undef, undef, undef, undef, undef, undef], defers := [] } W := by
      intro p W hb hp hx
      rw [← hT]
      refine wpAnyIn_done (by kernel_rfl) ?_ _
      exact hend p W hb hp hx
    have hS111111111110 : ∀ (p : Nat) (W : World), Below X.heap.size X W → X.heap.size ≤ p → Bx W p 58 [.int .u64 vn, .string vs] → T 1 #[true, true, true, true, true, true, true, true, true, true, true, false] { tmps := #[.int .u64 f, .string s, undef, .pointer (some ⟨w.heap.size, 0, none⟩), .pointer (some ⟨w.heap.size + 1, 0, none⟩), .pointer (some ⟨w.heap.size + 1 + 1, 0, none⟩), .pointer (some ⟨w.heap.size + 1 + 1 + 1, 0, none⟩), .pointer (some ⟨w.heap.size + 1 + 1 + 1 + 1, 0, none⟩), .int .i64 (x.1 : Int), .pointer (some ⟨p, 0, none⟩), .string nr, undef, .int .u64 f, .func (.func 123) #[] #[.pointer (some ⟨w.heap.size + 1 + 1 + 1 + 1 + 1, 0, none⟩)], .int .i64 (x.1 : Int), .tuple #[.agg #[.int .u64 vn, .string vs], .string nr, .int .i64 ne], .int .i64 (x.1 : Int), .int .u8 lt, .string R, .tuple #[.agg #[.int .u64 vn, .string vs], .string nr, .int .i64 ne], .agg #[.int .u64 vn, .string vs], .string nr, .int .i64 ne, undef, undef, undef, undef, undef, undef, undef, undef, undef, undef], defers := [] } W := by
      intro p W hb hp hx
      rw [← hT]
      refine wpAnyIn_ready (rs := [11]) (by kernel_rfl) (by simp) (AllReadyIn.cons rfl (fun K hK => ?_) AllReadyIn.nil)
      go_simp
      refine hK _ _ ?_
      rw [hT]
      exact hS111111111111 p W hb hp hx
    have hS111111101110 : ∀ (p : Nat) (W : World), Below X.heap.size X W → X.heap.size ≤ p → Bx W p 58 [.int .u64 vn, .string vs] → T 2 #[true, true, true, true, true, true, true, false, true, true, true, false] { tmps := #[.int .u64 f, .string s, undef, .pointer (some ⟨w.heap.size, 0, none⟩), .pointer (some ⟨w.heap.size + 1, 0, none⟩), .pointer (some ⟨w.heap.size + 1 + 1, 0, none⟩), .pointer (some ⟨w.heap.size + 1 + 1 + 1, 0, none⟩), .pointer (some ⟨w.heap.size + 1 + 1 + 1 + 1, 0, none⟩), .int .i64 (x.1 : Int), .pointer (some ⟨p, 0, none⟩), .string nr, undef, .int .u64 f, .func (.func 123) #[] #[.pointer (some ⟨w.heap.size + 1 + 1 + 1 + 1 + 1, 0, none⟩)], .int .i64 (x.1 : Int), .tuple #[.agg #[.int .u64 vn, .string vs], .string nr, .int .i64 ne], .int .i64 (x.1 : Int), .int .u8 lt, .string R, .tuple #[.agg #[.int .u64 vn, .string vs], .string nr, .int .i64 ne], .agg #[.int .u64 vn, .string vs], .string nr, undef, undef, undef, undef, undef, undef, undef, undef, undef, undef, undef], defers := [] } W := by
      intro p W hb hp hx
      rw [← hT]
      refine wpAnyIn_ready (rs := [7]) (by kernel_rfl) (by simp) (AllReadyIn.cons rfl (fun K hK => ?_) AllReadyIn.nil)
      go_simp
      refine hK _ _ ?_
      rw [hT]
      exact hS111111111110 p W hb hp hx
    have hS111111111100 : ∀ (p : Nat) (W : World), Below X.heap.size X W → X.heap.size ≤ p → Bx W p 58 [.int .u64 vn, .string vs] → T 2 #[true, true, true, true, true, true, true, true, true, true, false, false] { tmps := #[.int .u64 f, .string s, undef, .pointer (some ⟨w.heap.size, 0, none⟩), .pointer (some ⟨w.heap.size + 1, 0, none⟩), .pointer (some ⟨w.heap.size + 1 + 1, 0, none⟩), .pointer (some ⟨w.heap.size + 1 + 1 + 1, 0, none⟩), .pointer (some ⟨w.heap.size + 1 + 1 + 1 + 1, 0, none⟩), .int .i64 (x.1 : Int), .pointer (some ⟨p, 0, none⟩), undef, undef, .int .u64 f, .func (.func 123) #[] #[.pointer (some ⟨w.heap.size + 1 + 1 + 1 + 1 + 1, 0, none⟩)], .int .i64 (x.1 : Int), .tuple #[.agg #[.int .u64 vn, .string vs], .string nr, .int .i64 ne], .int .i64 (x.1 : Int), .int .u8 lt, .string R, .tuple #[.agg #[.int .u64 vn, .string vs], .string nr, .int .i64 ne], .agg #[.int .u64 vn, .string vs], .string nr, .int .i64 ne, undef, undef, undef, undef, undef, undef, undef, undef, undef, undef], defers := [] } W := by
      intro p W hb hp hx
      rw [← hT]
      refine wpAnyIn_ready (rs := [10]) (by kernel_rfl) (by simp) (AllReadyIn.cons rfl (fun K hK => ?_) AllReadyIn.nil)
      go_simp
      refine hK _ _ ?_
      rw [hT]
      exact hS111111111110 p W hb hp hx
    have hS111111111000 : ∀ (p : Nat) (W : World), Below X.heap.size X W → X.heap.size ≤ p → Bx W p 58 [.int .u64 0, .string ⟨#[]⟩] → T 3 #[true, true, true, true, true, true, true, true, true, false, false, false] { tmps := #[.int .u64 f, .string s, undef, .pointer (some ⟨w.heap.size, 0, none⟩), .pointer (some ⟨w.heap.size + 1, 0, none⟩), .pointer (some ⟨w.heap.size + 1 + 1, 0, none⟩), .pointer (some ⟨w.heap.size + 1 + 1 + 1, 0, none⟩), .pointer (some ⟨w.heap.size + 1 + 1 + 1 + 1, 0, none⟩), .int .i64 (x.1 : Int), .pointer (some ⟨p, 0, none⟩), undef, undef, .int .u64 f, .func (.func 123) #[] #[.pointer (some ⟨w.heap.size + 1 + 1 + 1 + 1 + 1, 0, none⟩)], .int .i64 (x.1 : Int), .tuple #[.agg #[.int .u64 vn, .string vs], .string nr, .int .i64 ne], .int .i64 (x.1 : Int), .int .u8 lt, .string R, .tuple #[.agg #[.int .u64 vn, .string vs], .string nr, .int .i64 ne], .agg #[.int .u64 vn, .string vs], .string nr, .int .i64 ne, undef, undef, undef, undef, undef, undef, undef, undef, undef, undef], defers := [] } W := by
      intro p W hb hp hx
      obtain ⟨a0, f0, a1, f1, bR⟩ := hx.store2 (.int .u64 vn) (.string vs)
      rw [← hT]
      refine wpAnyIn_ready (rs := [9]) (by kernel_rfl) (by simp) (AllReadyIn.cons rfl (fun K hK => ?_) AllReadyIn.nil)
      go_simp
      refine hK _ _ ?_
      rw [hT]
      exact hS111111111100 p _ (below_store2 hb hp _ _) hp bR
    have hS111111101100 : ∀ (p : Nat) (W : World), Below X.heap.size X W → X.heap.size ≤ p → Bx W p 58 [.int .u64 vn, .string vs] → T 3 #[true, true, true, true, true, true, true, false, true, true, false, false] { tmps := #[.int .u64 f, .string s, undef, .pointer (some ⟨w.heap.size, 0, none⟩), .pointer (some ⟨w.heap.size + 1, 0, none⟩), .pointer (some ⟨w.heap.size + 1 + 1, 0, none⟩), .pointer (some ⟨w.heap.size + 1 + 1 + 1, 0, none⟩), .pointer (some ⟨w.heap.size + 1 + 1 + 1 + 1, 0, none⟩), .int .i64 (x.1 : Int), .pointer (some ⟨p, 0, none⟩), undef, undef, .int .u64 f, .func (.func 123) #[] #[.pointer (some ⟨w.heap.size + 1 + 1 + 1 + 1 + 1, 0, none⟩)], .int .i64 (x.1 : Int), .tuple #[.agg #[.int .u64 vn, .string vs], .string nr, .int .i64 ne], .int .i64 (x.1 : Int), .int .u8 lt, .string R, .tuple #[.agg #[.int .u64 vn, .string vs], .string nr, .int .i64 ne], .agg #[.int .u64 vn, .string vs], .string nr, undef, undef, undef, undef, undef, undef, undef, undef, undef, undef, undef], defers := [] } W := by
      intro p W hb hp hx
      rw [← hT]
      refine wpAnyIn_ready (rs := [7, 10]) (by kernel_rfl) (by simp) (AllReadyIn.cons rfl (fun K hK => ?_) (AllReadyIn.cons rfl (fun K hK => ?_) AllReadyIn.nil))
      · go_simp
        refine hK _ _ ?_
        rw [hT]
        exact hS111111111100 p W hb hp hx
      · go_simp
        refine hK _ _ ?_
        rw [hT]
        exact hS111111101110 p W hb hp hx
    have hS111111011100 : ∀ (p : Nat) (W : World), Below X.heap.size X W → X.heap.size ≤ p → Bx W p 58 [.int .u64 vn, .string vs] → T 3 #[true, true, true, true, true, true, false, true, true, true, false, false] { tmps := #[.int .u64 f, .string s, undef, .pointer (some ⟨w.heap.size, 0, none⟩), .pointer (some ⟨w.heap.size + 1, 0, none⟩), .pointer (some ⟨w.heap.size + 1 + 1, 0, none⟩), .pointer (some ⟨w.heap.size + 1 + 1 + 1, 0, none⟩), .pointer (some ⟨w.heap.size + 1 + 1 + 1 + 1, 0, none⟩), .int .i64 (x.1 : Int), .pointer (some ⟨p, 0, none⟩), undef, undef, .int .u64 f, .func (.func 123) #[] #[.pointer (some ⟨w.heap.size + 1 + 1 + 1 + 1 + 1, 0, none⟩)], .int .i64 (x.1 : Int), .tuple #[.agg #[.int .u64 vn, .string vs], .string nr, .int .i64 ne], .int .i64 (x.1 : Int), .int .u8 lt, .string R, .tuple #[.agg #[.int .u64 vn, .string vs], .string nr, .int .i64 ne], .agg #[.int .u64 vn, .string vs], undef, .int .i64 ne, undef, undef, undef, undef, undef, undef, undef, undef, undef, undef], defers := [] } W := by
      intro p W hb hp hx
      rw [← hT]
      refine wpAnyIn_ready (rs := [6]) (by kernel_rfl) (by simp) (AllReadyIn.cons rfl (fun K hK => ?_) AllReadyIn.nil)
      go_simp
      refine hK _ _ ?_
      rw [hT]
      exact hS111111111100 p W hb hp hx
    have hS111110111000 : ∀ (p : Nat) (W : World), Below X.heap.size X W → X.heap.size ≤ p → Bx W p 58 [.int .u64 0, .string ⟨#[]⟩] → T 4 #[true, true, true, true, true, false, true, true, true, false, false, false] { tmps := #[.int .u64 f, .string s, undef, .pointer (some ⟨w.heap.size, 0, none⟩), .pointer (some ⟨w.heap.size + 1, 0, none⟩), .pointer (some ⟨w.heap.size + 1 + 1, 0, none⟩), .pointer (some ⟨w.heap.size + 1 + 1 + 1, 0, none⟩), .pointer (some ⟨w.heap.size + 1 + 1 + 1 + 1, 0, none⟩), .int .i64 (x.1 : Int), .pointer (some ⟨p, 0, none⟩), undef, undef, .int .u64 f, .func (.func 123) #[] #[.pointer (some ⟨w.heap.size + 1 + 1 + 1 + 1 + 1, 0, none⟩)], .int .i64 (x.1 : Int), .tuple #[.agg #[.int .u64 vn, .string vs], .string nr, .int .i64 ne], .int .i64 (x.1 : Int), .int .u8 lt, .string R, .tuple #[.agg #[.int .u64 vn, .string vs], .string nr, .int .i64 ne], undef, .string nr, .int .i64 ne, undef, undef, undef, undef, undef, undef, undef, undef, undef, undef], defers := [] } W := by
      intro p W hb hp hx
      rw [← hT]
      refine wpAnyIn_ready (rs := [5]) (by kernel_rfl) (by simp) (AllReadyIn.cons rfl (fun K hK => ?_) AllReadyIn.nil)
      go_simp
      refine hK _ _ ?_
      rw [hT]
      exact hS111111111000 p W hb hp hx
    have hS111111101000 : ∀ (p : Nat) (W : World), Below X.heap.size X W → X.heap.size ≤ p → Bx W p 58 [.int .u64 0, .string ⟨#[]⟩] → T 4 #[true, true, true, true, true, true, true, false, true, false, false, false] { tmps := #[.int .u64 f, .string s, undef, .pointer (some ⟨w.heap.size, 0, none⟩), .pointer (some ⟨w.heap.size + 1, 0, none⟩), .pointer (some ⟨w.heap.size + 1 + 1, 0, none⟩), .pointer (some ⟨w.heap.size + 1 + 1 + 1, 0, none⟩), .pointer (some ⟨w.heap.size + 1 + 1 + 1 + 1, 0, none⟩), .int .i64 (x.1 : Int), .pointer (some ⟨p, 0, none⟩), undef, undef, .int .u64 f, .func (.func 123) #[] #[.pointer (some ⟨w.heap.size + 1 + 1 + 1 + 1 + 1, 0, none⟩)], .int .i64 (x.1 : Int), .tuple #[.agg #[.int .u64 vn, .string vs], .string nr, .int .i64 ne], .int .i64 (x.1 : Int), .int .u8 lt, .string R, .tuple #[.agg #[.int .u64 vn, .string vs], .string nr, .int .i64 ne], .agg #[.int .u64 vn, .string vs], .string nr, undef, undef, undef, undef, undef, undef, undef, undef, undef, undef, undef], defers := [] } W := by
      intro p W hb hp hx
      obtain ⟨a0, f0, a1, f1, bR⟩ := hx.store2 (.int .u64 vn) (.string vs)
      rw [← hT]
      refine wpAnyIn_ready (rs := [7, 9]) (by kernel_rfl) (by simp) (AllReadyIn.cons rfl (fun K hK => ?_) (AllReadyIn.cons rfl (fun K hK => ?_) AllReadyIn.nil))
      · go_simp
        refine hK _ _ ?_
        rw [hT]
        exact hS111111111000 p W hb hp hx
      · go_simp
        refine hK _ _ ?_
        rw [hT]
        exact hS111111101100 p _ (below_store2 hb hp _ _) hp bR
    have hS111111011000 : ∀ (p : Nat) (W : World), Below X.heap.size X W → X.heap.size ≤ p → Bx W p 58 [.int .u64 0, .string ⟨#[]⟩] → T 4 #[true, true, true, true, true, true, false, true, true, false, false, false] { tmps := #[.int .u64 f, .string s, undef, .pointer (some ⟨w.heap.size, 0, none⟩), .pointer (some ⟨w.heap.size + 1, 0, none⟩), .pointer (some ⟨w.heap.size + 1 + 1, 0, none⟩), .pointer (some ⟨w.heap.size + 1 + 1 + 1, 0, none⟩), .pointer (some ⟨w.heap.size + 1 + 1 + 1 + 1, 0, none⟩), .int .i64 (x.1 : Int), .pointer (some ⟨p, 0, none⟩), undef, undef, .int .u64 f, .func (.func 123) #[] #[.pointer (some ⟨w.heap.size + 1 + 1 + 1 + 1 + 1, 0, none⟩)], .int .i64 (x.1 : Int), .tuple #[.agg #[.int .u64 vn, .string vs], .string nr, .int .i64 ne], .int .i64 (x.1 : Int), .int .u8 lt, .string R, .tuple #[.agg #[.int .u64 vn, .string vs], .string nr, .int .i64 ne], .agg #[.int .u64 vn, .string vs], undef, .int .i64 ne, undef, undef, undef, undef, undef, undef, undef, undef, undef, undef], defers := [] } W := by
      intro p W hb hp hx
      obtain ⟨a0, f0, a1, f1, bR⟩ := hx.store2 (.int .u64 vn) (.string vs)
      rw [← hT]
      refine wpAnyIn_ready (rs := [6, 9]) (by kernel_rfl) (by simp) (AllReadyIn.cons rfl (fun K hK => ?_) (AllReadyIn.cons rfl (fun K hK => ?_) AllReadyIn.nil))
      · go_simp
        refine hK _ _ ?_
        rw [hT]
        exact hS111111111000 p W hb hp hx
      · go_simp
        refine hK _ _ ?_
        rw [hT]
        exact hS111111011100 p _ (below_store2 hb hp _ _) hp bR
    have hS111111110000 : ∀ (W : World), Below X.heap.size X W → T 4 #[true, true, true, true, true, true, true, true, false, false, false, false] { tmps := #[.int .u64 f, .string s, undef, .pointer (some ⟨w.heap.size, 0, none⟩), .pointer (some ⟨w.heap.size + 1, 0, none⟩), .pointer (some ⟨w.heap.size + 1 + 1, 0, none⟩), .pointer (some ⟨w.heap.size + 1 + 1 + 1, 0, none⟩), .pointer (some ⟨w.heap.size + 1 + 1 + 1 + 1, 0, none⟩), .int .i64 (x.1 : Int), undef, undef, undef, .int .u64 f, .func (.func 123) #[] #[.pointer (some ⟨w.heap.size + 1 + 1 + 1 + 1 + 1, 0, none⟩)], .int .i64 (x.1 : Int), .tuple #[.agg #[.int .u64 vn, .string vs], .string nr, .int .i64 ne], .int .i64 (x.1 : Int), .int .u8 lt, .string R, .tuple #[.agg #[.int .u64 vn, .string vs], .string nr, .int .i64 ne], .agg #[.int .u64 vn, .string vs], .string nr, .int .i64 ne, undef, undef, undef, undef, undef, undef, undef, undef, undef, undef], defers := [] } W := by
      intro W hb
      rw [← hT]
      refine wpAnyIn_ready (rs := [8]) (by kernel_rfl) (by simp) (AllReadyIn.cons rfl (fun K hK => ?_) AllReadyIn.nil)
      go_simp
      refine hK _ _ ?_
      rw [hT]
      exact hS111111111000 W.heap.size _ (hb.alloc hb.size _) hb.size (Bx.new W _ _)
    have hS111111001100 : ∀ (p : Nat) (W : World), Below X.heap.size X W → X.heap.size ≤ p → Bx W p 58 [.int .u64 vn, .string vs] → T 4 #[true, true, true, true, true, true, false, false, true, true, false, false] { tmps := #[.int .u64 f, .string s, undef, .pointer (some ⟨w.heap.size, 0, none⟩), .pointer (some ⟨w.heap.size + 1, 0, none⟩), .pointer (some ⟨w.heap.size + 1 + 1, 0, none⟩), .pointer (some ⟨w.heap.size + 1 + 1 + 1, 0, none⟩), .pointer (some ⟨w.heap.size + 1 + 1 + 1 + 1, 0, none⟩), .int .i64 (x.1 : Int), .pointer (some ⟨p, 0, none⟩), undef, undef, .int .u64 f, .func (.func 123) #[] #[.pointer (some ⟨w.heap.size + 1 + 1 + 1 + 1 + 1, 0, none⟩)], .int .i64 (x.1 : Int), .tuple #[.agg #[.int .u64 vn, .string vs], .string nr, .int .i64 ne], .int .i64 (x.1 : Int), .int .u8 lt, .string R, .tuple #[.agg #[.int .u64 vn, .string vs], .string nr, .int .i64 ne], .agg #[.int .u64 vn, .string vs], undef, undef, undef, undef, undef, undef, undef, undef, undef, undef, undef, undef], defers := [] } W := by
      intro p W hb hp hx
      rw [← hT]
      refine wpAnyIn_ready (rs := [6, 7]) (by kernel_rfl) (by simp) (AllReadyIn.cons rfl (fun K hK => ?_) (AllReadyIn.cons rfl (fun K hK => ?_) AllReadyIn.nil))
      · go_simp
        refine hK _ _ ?_
        rw [hT]
        exact hS111111101100 p W hb hp hx
      · go_simp
        refine hK _ _ ?_
        rw [hT]
        exact hS111111011100 p W hb hp hx
    have hS111110101000 : ∀ (p : Nat) (W : World), Below X.heap.size X W → X.heap.size ≤ p → Bx W p 58 [.int .u64 0, .string ⟨#[]⟩] → T 5 #[true, true, true, true, true, false, true, false, true, false, false, false] { tmps := #[.int .u64 f, .string s, undef, .pointer (some ⟨w.heap.size, 0, none⟩), .pointer (some ⟨w.heap.size + 1, 0, none⟩), .pointer (some ⟨w.heap.size + 1 + 1, 0, none⟩), .pointer (some ⟨w.heap.size + 1 + 1 + 1, 0, none⟩), .pointer (some ⟨w.heap.size + 1 + 1 + 1 + 1, 0, none⟩), .int .i64 (x.1 : Int), .pointer (some ⟨p, 0, none⟩), undef, undef, .int .u64 f, .func (.func 123) #[] #[.pointer (some ⟨w.heap.size + 1 + 1 + 1 + 1 + 1, 0, none⟩)], .int .i64 (x.1 : Int), .tuple #[.agg #[.int .u64 vn, .string vs], .string nr, .int .i64 ne], .int .i64 (x.1 : Int), .int .u8 lt, .string R, .tuple #[.agg #[.int .u64 vn, .string vs], .string nr, .int .i64 ne], undef, .string nr, undef, undef, undef, undef, undef, undef, undef, undef, undef, undef, undef], defers := [] } W := by
      intro p W hb hp hx
      rw [← hT]
      refine wpAnyIn_ready (rs := [5, 7]) (by kernel_rfl) (by simp) (AllReadyIn.cons rfl (fun K hK => ?_) (AllReadyIn.cons rfl (fun K hK => ?_) AllReadyIn.nil))
      · go_simp
        refine hK _ _ ?_
        rw [hT]
        exact hS111111101000 p W hb hp hx
      · go_simp
        refine hK _ _ ?_
        rw [hT]
        exact hS111110111000 p W hb hp hx
    have hS111111001000 : ∀ (p : Nat) (W : World), Below X.heap.size X W → X.heap.size ≤ p → Bx W p 58 [.int .u64 0, .string ⟨#[]⟩] → T 5 #[true, true, true, true, true, true, false, false, true, false, false, false] { tmps := #[.int .u64 f, .string s, undef, .pointer (some ⟨w.heap.size, 0, none⟩), .pointer (some ⟨w.heap.size + 1, 0, none⟩), .pointer (some ⟨w.heap.size + 1 + 1, 0, none⟩), .pointer (some ⟨w.heap.size + 1 + 1 + 1, 0, none⟩), .pointer (some ⟨w.heap.size + 1 + 1 + 1 + 1, 0, none⟩), .int .i64 (x.1 : Int), .pointer (some ⟨p, 0, none⟩), undef, undef, .int .u64 f, .func (.func 123) #[] #[.pointer (some ⟨w.heap.size + 1 + 1 + 1 + 1 + 1, 0, none⟩)], .int .i64 (x.1 : Int), .tuple #[.agg #[.int .u64 vn, .string vs], .string nr, .int .i64 ne], .int .i64 (x.1 : Int), .int .u8 lt, .string R, .tuple #[.agg #[.int .u64 vn, .string vs], .string nr, .int .i64 ne], .agg #[.int .u64 vn, .string vs], undef, undef, undef, undef, undef, undef, undef, undef, undef, undef, undef, undef], defers := [] } W := by
      intro p W hb hp hx
      obtain ⟨a0, f0, a1, f1, bR⟩ := hx.store2 (.int .u64 vn) (.string vs)
      rw [← hT]
      refine wpAnyIn_ready (rs := [6, 7, 9]) (by kernel_rfl) (by simp) (AllReadyIn.cons rfl (fun K hK => ?_) (AllReadyIn.cons rfl (fun K hK => ?_) (AllReadyIn.cons rfl (fun K hK => ?_) AllReadyIn.nil)))
      · go_simp
        refine hK _ _ ?_
        rw [hT]
        exact hS111111101000 p W hb hp hx
      · go_simp
        refine hK _ _ ?_
        rw [hT]
        exact hS111111011000 p W hb hp hx
      · go_simp
        refine hK _ _ ?_
        rw [hT]
        exact hS111111001100 p _ (below_store2 hb hp _ _) hp bR
    have hS111110110000 : ∀ (W : World), Below X.heap.size X W → T 5 #[true, true, true, true, true, false, true, true, false, false, false, false] { tmps := #[.int .u64 f, .string s, undef, .pointer (some ⟨w.heap.size, 0, none⟩), .pointer (some ⟨w.heap.size + 1, 0, none⟩), .pointer (some ⟨w.heap.size + 1 + 1, 0, none⟩), .pointer (some ⟨w.heap.size + 1 + 1 + 1, 0, none⟩), .pointer (some ⟨w.heap.size + 1 + 1 + 1 + 1, 0, none⟩), .int .i64 (x.1 : Int), undef, undef, undef, .int .u64 f, .func (.func 123) #[] #[.pointer (some ⟨w.heap.size + 1 + 1 + 1 + 1 + 1, 0, none⟩)], .int .i64 (x.1 : Int), .tuple #[.agg #[.int .u64 vn, .string vs], .string nr, .int .i64 ne], .int .i64 (x.1 : Int), .int .u8 lt, .string R, .tuple #[.agg #[.int .u64 vn, .string vs], .string nr, .int .i64 ne], undef, .string nr, .int .i64 ne, undef, undef, undef, undef, undef, undef, undef, undef, undef, undef], defers := [] } W := by
      intro W hb
      rw [← hT]
      refine wpAnyIn_ready (rs := [5, 8]) (by kernel_rfl) (by simp) (AllReadyIn.cons rfl (fun K hK => ?_) (AllReadyIn.cons rfl (fun K hK => ?_) AllReadyIn.nil))
      · go_simp
        refine hK _ _ ?_
        rw [hT]
        exact hS111111110000 W hb
      · go_simp
        refine hK _ _ ?_
        rw [hT]
        exact hS111110111000 W.heap.size _ (hb.alloc hb.size _) hb.size (Bx.new W _ _)
    have hS111110011000 : ∀ (p : Nat) (W : World), Below X.heap.size X W → X.heap.size ≤ p → Bx W p 58 [.int .u64 0, .string ⟨#[]⟩] → T 5 #[true, true, true, true, true, false, false, true, true, false, false, false] { tmps := #[.int .u64 f, .string s, undef, .pointer (some ⟨w.heap.size, 0, none⟩), .pointer (some ⟨w.heap.size + 1, 0, none⟩), .pointer (some ⟨w.heap.size + 1 + 1, 0, none⟩), .pointer (some ⟨w.heap.size + 1 + 1 + 1, 0, none⟩), .pointer (some ⟨w.heap.size + 1 + 1 + 1 + 1, 0, none⟩), .int .i64 (x.1 : Int), .pointer (some ⟨p, 0, none⟩), undef, undef, .int .u64 f, .func (.func 123) #[] #[.pointer (some ⟨w.heap.size + 1 + 1 + 1 + 1 + 1, 0, none⟩)], .int .i64 (x.1 : Int), .tuple #[.agg #[.int .u64 vn, .string vs], .string nr, .int .i64 ne], .int .i64 (x.1 : Int), .int .u8 lt, .string R, .tuple #[.agg #[.int .u64 vn, .string vs], .string nr, .int .i64 ne], undef, undef, .int .i64 ne, undef, undef, undef, undef, undef, undef, undef, undef, undef, undef], defers := [] } W := by
      intro p W hb hp hx
      rw [← hT]
      refine wpAnyIn_ready (rs := [5, 6]) (by kernel_rfl) (by simp) (AllReadyIn.cons rfl (fun K hK => ?_) (AllReadyIn.cons rfl (fun K hK => ?_) AllReadyIn.nil))
      · go_simp
        refine hK _ _ ?_
        rw [hT]
        exact hS111111011000 p W hb hp hx
      · go_simp
        refine hK _ _ ?_
        rw [hT]
        exact hS111110111000 p W hb hp hx
    have hS111111100000 : ∀ (W : World), Below X.heap.size X W → T 5 #[true, true, true, true, true, true, true, false, false, false, false, false] { tmps := #[.int .u64 f, .string s, undef, .pointer (some ⟨w.heap.size, 0, none⟩), .pointer (some ⟨w.heap.size + 1, 0, none⟩), .pointer (some ⟨w.heap.size + 1 + 1, 0, none⟩), .pointer (some ⟨w.heap.size + 1 + 1 + 1, 0, none⟩), .pointer (some ⟨w.heap.size + 1 + 1 + 1 + 1, 0, none⟩), .int .i64 (x.1 : Int), undef, undef, undef, .int .u64 f, .func (.func 123) #[] #[.pointer (some ⟨w.heap.size + 1 + 1 + 1 + 1 + 1, 0, none⟩)], .int .i64 (x.1 : Int), .tuple #[.agg #[.int .u64 vn, .string vs], .string nr, .int .i64 ne], .int .i64 (x.1 : Int), .int .u8 lt, .string R, .tuple #[.agg #[.int .u64 vn, .string vs], .string nr, .int .i64 ne], .agg #[.int .u64 vn, .string vs], .string nr, undef, undef, undef, undef, undef, undef, undef, undef, undef, undef, undef], defers := [] } W := by
      intro W hb
      rw [← hT]
      refine wpAnyIn_ready (rs := [7, 8]) (by kernel_rfl) (by simp) (AllReadyIn.cons rfl (fun K hK => ?_) (AllReadyIn.cons rfl (fun K hK => ?_) AllReadyIn.nil))
      · go_simp
        refine hK _ _ ?_
        rw [hT]
        exact hS111111110000 W hb
      · go_simp
        refine hK _ _ ?_
        rw [hT]
        exact hS111111101000 W.heap.size _ (hb.alloc hb.size _) hb.size (Bx.new W _ _)
    have hS111111010000 : ∀ (W : World), Below X.heap.size X W → T 5 #[true, true, true, true, true, true, false, true, false, false, false, false] { tmps := #[.int .u64 f, .string s, undef, .pointer (some ⟨w.heap.size, 0, none⟩), .pointer (some ⟨w.heap.size + 1, 0, none⟩), .pointer (some ⟨w.heap.size + 1 + 1, 0, none⟩), .pointer (some ⟨w.heap.size + 1 + 1 + 1, 0, none⟩), .pointer (some ⟨w.heap.size + 1 + 1 + 1 + 1, 0, none⟩), .int .i64 (x.1 : Int), undef, undef, undef, .int .u64 f, .func (.func 123) #[] #[.pointer (some ⟨w.heap.size + 1 + 1 + 1 + 1 + 1, 0, none⟩)], .int .i64 (x.1 : Int), .tuple #[.agg #[.int .u64 vn, .string vs], .string nr, .int .i64 ne], .int .i64 (x.1 : Int), .int .u8 lt, .string R, .tuple #[.agg #[.int .u64 vn, .string vs], .string nr, .int .i64 ne], .agg #[.int .u64 vn, .string vs], undef, .int .i64 ne, undef, undef, undef, undef, undef, undef, undef, undef, undef, undef], defers := [] } W := by
      intro W hb
      rw [← hT]
      refine wpAnyIn_ready (rs := [6, 8]) (by kernel_rfl) (by simp) (AllReadyIn.cons rfl (fun K hK => ?_) (AllReadyIn.cons rfl (fun K hK => ?_) AllReadyIn.nil))
      · go_simp
        refine hK _ _ ?_
        rw [hT]
        exact hS111111110000 W hb
      · go_simp
        refine hK _ _ ?_
        rw [hT]
        exact hS111111011000 W.heap.size _ (hb.alloc hb.size _) hb.size (Bx.new W _ _)
    have hS111110001000 : ∀ (p : Nat) (W : World), Below X.heap.size X W → X.heap.size ≤ p → Bx W p 58 [.int .u64 0, .string ⟨#[]⟩] → T 6 #[true, true, true, true, true, false, false, false, true, false, false, false] { tmps := #[.int .u64 f, .string s, undef, .pointer (some ⟨w.heap.size, 0, none⟩), .pointer (some ⟨w.heap.size + 1, 0, none⟩), .pointer (some ⟨w.heap.size + 1 + 1, 0, none⟩), .pointer (some ⟨w.heap.size + 1 + 1 + 1, 0, none⟩), .pointer (some ⟨w.heap.size + 1 + 1 + 1 + 1, 0, none⟩), .int .i64 (x.1 : Int), .pointer (some ⟨p, 0, none⟩), undef, undef, .int .u64 f, .func (.func 123) #[] #[.pointer (some ⟨w.heap.size + 1 + 1 + 1 + 1 + 1, 0, none⟩)], .int .i64 (x.1 : Int), .tuple #[.agg #[.int .u64 vn, .string vs], .string nr, .int .i64 ne], .int .i64 (x.1 : Int), .int .u8 lt, .string R, .tuple #[.agg #[.int .u64 vn, .string vs], .string nr, .int .i64 ne], undef, undef, undef, undef, undef, undef, undef, undef, undef, undef, undef, undef, undef], defers := [] } W := by
      intro p W hb hp hx
      rw [← hT]
      refine wpAnyIn_ready (rs := [5, 6, 7]) (by kernel_rfl) (by simp) (AllReadyIn.cons rfl (fun K hK => ?_) (AllReadyIn.cons rfl (fun K hK => ?_) (AllReadyIn.cons rfl (fun K hK => ?_) AllReadyIn.nil)))
      · go_simp
        refine hK _ _ ?_
        rw [hT]
        exact hS111111001000 p W hb hp hx
      · go_simp
        refine hK _ _ ?_
        rw [hT]
        exact hS111110101000 p W hb hp hx
      · go_simp
        refine hK _ _ ?_
        rw [hT]
        exact hS111110011000 p W hb hp hx
    have hS111110100000 : ∀ (W : World), Below X.heap.size X W → T 6 #[true, true, true, true, true, false, true, false, false, false, false, false] { tmps := #[.int .u64 f, .string s, undef, .pointer (some ⟨w.heap.size, 0, none⟩), .pointer (some ⟨w.heap.size + 1, 0, none⟩), .pointer (some ⟨w.heap.size + 1 + 1, 0, none⟩), .pointer (some ⟨w.heap.size + 1 + 1 + 1, 0, none⟩), .pointer (some ⟨w.heap.size + 1 + 1 + 1 + 1, 0, none⟩), .int .i64 (x.1 : Int), undef, undef, undef, .int .u64 f, .func (.func 123) #[] #[.pointer (some ⟨w.heap.size + 1 + 1 + 1 + 1 + 1, 0, none⟩)], .int .i64 (x.1 : Int), .tuple #[.agg #[.int .u64 vn, .string vs], .string nr, .int .i64 ne], .int .i64 (x.1 : Int), .int .u8 lt, .string R, .tuple #[.agg #[.int .u64 vn, .string vs], .string nr, .int .i64 ne], undef, .string nr, undef, undef, undef, undef, undef, undef, undef, undef, undef, undef, undef], defers := [] } W := by
      intro W hb
      rw [← hT]
      refine wpAnyIn_ready (rs := [5, 7, 8]) (by kernel_rfl) (by simp) (AllReadyIn.cons rfl (fun K hK => ?_) (AllReadyIn.cons rfl (fun K hK => ?_) (AllReadyIn.cons rfl (fun K hK => ?_) AllReadyIn.nil)))
      · go_simp
        refine hK _ _ ?_
        rw [hT]
        exact hS111111100000 W hb
      · go_simp
        refine hK _ _ ?_
        rw [hT]
        exact hS111110110000 W hb
      · go_simp
        refine hK _ _ ?_
        rw [hT]
        exact hS111110101000 W.heap.size _ (hb.alloc hb.size _) hb.size (Bx.new W _ _)
    have hS111110010000 : ∀ (W : World), Below X.heap.size X W → T 6 #[true, true, true, true, true, false, false, true, false, false, false, false] { tmps := #[.int .u64 f, .string s, undef, .pointer (some ⟨w.heap.size, 0, none⟩), .pointer (some ⟨w.heap.size + 1, 0, none⟩), .pointer (some ⟨w.heap.size + 1 + 1, 0, none⟩), .pointer (some ⟨w.heap.size + 1 + 1 + 1, 0, none⟩), .pointer (some ⟨w.heap.size + 1 + 1 + 1 + 1, 0, none⟩), .int .i64 (x.1 : Int), undef, undef, undef, .int .u64 f, .func (.func 123) #[] #[.pointer (some ⟨w.heap.size + 1 + 1 + 1 + 1 + 1, 0, none⟩)], .int .i64 (x.1 : Int), .tuple #[.agg #[.int .u64 vn, .string vs], .string nr, .int .i64 ne], .int .i64 (x.1 : Int), .int .u8 lt, .string R, .tuple #[.agg #[.int .u64 vn, .string vs], .string nr, .int .i64 ne], undef, undef, .int .i64 ne, undef, undef, undef, undef, undef, undef, undef, undef, undef, undef], defers := [] } W := by
      intro W hb
      rw [← hT]
      refine wpAnyIn_ready (rs := [5, 6, 8]) (by kernel_rfl) (by simp) (AllReadyIn.cons rfl (fun K hK => ?_) (AllReadyIn.cons rfl (fun K hK => ?_) (AllReadyIn.cons rfl (fun K hK => ?_) AllReadyIn.nil)))
      · go_simp
        refine hK _ _ ?_
        rw [hT]
        exact hS111111010000 W hb
      · go_simp
        refine hK _ _ ?_
        rw [hT]
        exact hS111110110000 W hb
      · go_simp
        refine hK _ _ ?_
        rw [hT]
        exact hS111110011000 W.heap.size _ (hb.alloc hb.size _) hb.size (Bx.new W _ _)
    have hS111111000000 : ∀ (W : World), Below X.heap.size X W → T 6 #[true, true, true, true, true, true, false, false, false, false, false, false] { tmps := #[.int .u64 f, .string s, undef, .pointer (some ⟨w.heap.size, 0, none⟩), .pointer (some ⟨w.heap.size + 1, 0, none⟩), .pointer (some ⟨w.heap.size + 1 + 1, 0, none⟩), .pointer (some ⟨w.heap.size + 1 + 1 + 1, 0, none⟩), .pointer (some ⟨w.heap.size + 1 + 1 + 1 + 1, 0, none⟩), .int .i64 (x.1 : Int), undef, undef, undef, .int .u64 f, .func (.func 123) #[] #[.pointer (some ⟨w.heap.size + 1 + 1 + 1 + 1 + 1, 0, none⟩)], .int .i64 (x.1 : Int), .tuple #[.agg #[.int .u64 vn, .string vs], .string nr, .int .i64 ne], .int .i64 (x.1 : Int), .int .u8 lt, .string R, .tuple #[.agg #[.int .u64 vn, .string vs], .string nr, .int .i64 ne], .agg #[.int .u64 vn, .string vs], undef, undef, undef, undef, undef, undef, undef, undef, undef, undef, undef, undef], defers := [] } W := by
      intro W hb
      rw [← hT]
      refine wpAnyIn_ready (rs := [6, 7, 8]) (by kernel_rfl) (by simp) (AllReadyIn.cons rfl (fun K hK => ?_) (AllReadyIn.cons rfl (fun K hK => ?_) (AllReadyIn.cons rfl (fun K hK => ?_) AllReadyIn.nil)))
      · go_simp
        refine hK _ _ ?_
        rw [hT]
        exact hS111111100000 W hb
      · go_simp
        refine hK _ _ ?_
        rw [hT]
        exact hS111111010000 W hb
      · go_simp
        refine hK _ _ ?_
        rw [hT]
        exact hS111111001000 W.heap.size _ (hb.alloc hb.size _) hb.size (Bx.new W _ _)
    have hS111110000000 : ∀ (W : World), Below X.heap.size X W → T 7 #[true, true, true, true, true, false, false, false, false, false, false, false] { tmps := #[.int .u64 f, .string s, undef, .pointer (some ⟨w.heap.size, 0, none⟩), .pointer (some ⟨w.heap.size + 1, 0, none⟩), .pointer (some ⟨w.heap.size + 1 + 1, 0, none⟩), .pointer (some ⟨w.heap.size + 1 + 1 + 1, 0, none⟩), .pointer (some ⟨w.heap.size + 1 + 1 + 1 + 1, 0, none⟩), .int .i64 (x.1 : Int), undef, undef, undef, .int .u64 f, .func (.func 123) #[] #[.pointer (some ⟨w.heap.size + 1 + 1 + 1 + 1 + 1, 0, none⟩)], .int .i64 (x.1 : Int), .tuple #[.agg #[.int .u64 vn, .string vs], .string nr, .int .i64 ne], .int .i64 (x.1 : Int), .int .u8 lt, .string R, .tuple #[.agg #[.int .u64 vn, .string vs], .string nr, .int .i64 ne], undef, undef, undef, undef, undef, undef, undef, undef, undef, undef, undef, undef, undef], defers := [] } W := by
      intro W hb
      rw [← hT]
      refine wpAnyIn_ready (rs := [5, 6, 7, 8]) (by kernel_rfl) (by simp) (AllReadyIn.cons rfl (fun K hK => ?_) (AllReadyIn.cons rfl (fun K hK => ?_) (AllReadyIn.cons rfl (fun K hK => ?_) (AllReadyIn.cons rfl (fun K hK => ?_) AllReadyIn.nil))))
      · go_simp
        refine hK _ _ ?_
        rw [hT]
        exact hS111111000000 W hb
      · go_simp
        refine hK _ _ ?_
        rw [hT]
        exact hS111110100000 W hb
      · go_simp
        refine hK _ _ ?_
        rw [hT]
        exact hS111110010000 W hb
      · go_simp
        refine hK _ _ ?_
        rw [hT]
        exact hS111110001000 W.heap.size _ (hb.alloc hb.size _) hb.size (Bx.new W _ _)
    have hS111100001000 : ∀ (p : Nat) (W : World), Below X.heap.size X W → X.heap.size ≤ p → Bx W p 58 [.int .u64 0, .string ⟨#[]⟩] → T 7 #[true, true, true, true, false, false, false, false, true, false, false, false] { tmps := #[.int .u64 f, .string s, undef, .pointer (some ⟨w.heap.size, 0, none⟩), .pointer (some ⟨w.heap.size + 1, 0, none⟩), .pointer (some ⟨w.heap.size + 1 + 1, 0, none⟩), .pointer (some ⟨w.heap.size + 1 + 1 + 1, 0, none⟩), .pointer (some ⟨w.heap.size + 1 + 1 + 1 + 1, 0, none⟩), .int .i64 (x.1 : Int), .pointer (some ⟨p, 0, none⟩), undef, undef, .int .u64 f, .func (.func 123) #[] #[.pointer (some ⟨w.heap.size + 1 + 1 + 1 + 1 + 1, 0, none⟩)], .int .i64 (x.1 : Int), undef, .int .i64 (x.1 : Int), .int .u8 lt, .string R, .tuple #[.agg #[.int .u64 vn, .string vs], .string nr, .int .i64 ne], undef, undef, undef, undef, undef, undef, undef, undef, undef, undef, undef, undef, undef], defers := [] } W := by
      intro p W hb hp hx
      rw [← hT]
      refine wpAnyIn_ready (rs := [4]) (by kernel_rfl) (by simp) (AllReadyIn.cons rfl (fun K hK => ?_) AllReadyIn.nil)
      go_simp
      refine hK _ _ ?_
      rw [hT]
      exact hS111110001000 p W hb hp hx
    have hS111000001000 : ∀ (p : Nat) (W : World), Below X.heap.size X W → X.heap.size ≤ p → Bx W p 58 [.int .u64 0, .string ⟨#[]⟩] → T 8 #[true, true, true, false, false, false, false, false, true, false, false, false] { tmps := #[.int .u64 f, .string s, undef, .pointer (some ⟨w.heap.size, 0, none⟩), .pointer (some ⟨w.heap.size + 1, 0, none⟩), .pointer (some ⟨w.heap.size + 1 + 1, 0, none⟩), .pointer (some ⟨w.heap.size + 1 + 1 + 1, 0, none⟩), .pointer (some ⟨w.heap.size + 1 + 1 + 1 + 1, 0, none⟩), .int .i64 (x.1 : Int), .pointer (some ⟨p, 0, none⟩), undef, undef, .int .u64 f, .func (.func 123) #[] #[.pointer (some ⟨w.heap.size + 1 + 1 + 1 + 1 + 1, 0, none⟩)], .int .i64 (x.1 : Int), undef, .int .i64 (x.1 : Int), .int .u8 lt, .string R, undef, undef, undef, undef, undef, undef, undef, undef, undef, undef, undef, undef, undef, undef], defers := [] } W := by
      intro p W hb hp hx
      rw [← hT]
      refine wpAnyIn_ready (rs := [3]) (by kernel_rfl) (by simp) (AllReadyIn.cons rfl (fun K hK => ?_) AllReadyIn.nil)
      go_simp
      refine ⟨trivial, (CallsIn.inRound l (callsIn_wide.2 (hL W hb))).mono ?_⟩
      rintro e W' ⟨rfl, hb'⟩
      refine hK _ _ ?_
      rw [hT]
      exact hS111100001000 p W' (hb.trans (hb'.mono hb.size)) hp (hx.kept hb')
    have hS111100000000 : ∀ (W : World), Below X.heap.size X W → T 8 #[true, true, true, true, false, false, false, false, false, false, false, false] { tmps := #[.int .u64 f, .string s, undef, .pointer (some ⟨w.heap.size, 0, none⟩), .pointer (some ⟨w.heap.size + 1, 0, none⟩), .pointer (some ⟨w.heap.size + 1 + 1, 0, none⟩), .pointer (some ⟨w.heap.size + 1 + 1 + 1, 0, none⟩), .pointer (some ⟨w.heap.size + 1 + 1 + 1 + 1, 0, none⟩), .int .i64 (x.1 : Int), undef, undef, undef, .int .u64 f, .func (.func 123) #[] #[.pointer (some ⟨w.heap.size + 1 + 1 + 1 + 1 + 1, 0, none⟩)], .int .i64 (x.1 : Int), undef, .int .i64 (x.1 : Int), .int .u8 lt, .string R, .tuple #[.agg #[.int .u64 vn, .string vs], .string nr, .int .i64 ne], undef, undef, undef, undef, undef, undef, undef, undef, undef, undef, undef, undef, undef], defers := [] } W := by
      intro W hb
      rw [← hT]
      refine wpAnyIn_ready (rs := [4, 8]) (by kernel_rfl) (by simp) (AllReadyIn.cons rfl (fun K hK => ?_) (AllReadyIn.cons rfl (fun K hK => ?_) AllReadyIn.nil))
      · go_simp
        refine hK _ _ ?_
        rw [hT]
        exact hS111110000000 W hb
      · go_simp
        refine hK _ _ ?_
        rw [hT]
        exact hS111100001000 W.heap.size _ (hb.alloc hb.size _) hb.size (Bx.new W _ _)
    have hS110000001000 : ∀ (p : Nat) (W : World), Below X.heap.size X W → X.heap.size ≤ p → Bx W p 58 [.int .u64 0, .string ⟨#[]⟩] → T 9 #[true, true, false, false, false, false, false, false, true, false, false, false] { tmps := #[.int .u64 f, .string s, undef, .pointer (some ⟨w.heap.size, 0, none⟩), .pointer (some ⟨w.heap.size + 1, 0, none⟩), .pointer (some ⟨w.heap.size + 1 + 1, 0, none⟩), .pointer (some ⟨w.heap.size + 1 + 1 + 1, 0, none⟩), .pointer (some ⟨w.heap.size + 1 + 1 + 1 + 1, 0, none⟩), .int .i64 (x.1 : Int), .pointer (some ⟨p, 0, none⟩), undef, undef, .int .u64 f, .func (.func 123) #[] #[.pointer (some ⟨w.heap.size + 1 + 1 + 1 + 1 + 1, 0, none⟩)], .int .i64 (x.1 : Int), undef, .int .i64 (x.1 : Int), .int .u8 lt, undef, undef, undef, undef, undef, undef, undef, undef, undef, undef, undef, undef, undef, undef, undef], defers := [] } W := by
      intro p W hb hp hx
      have cS := (boxed_underP HS.out hb).cell
      rw [← hT]
      refine wpAnyIn_ready (rs := [2]) (by kernel_rfl) (by simp) (AllReadyIn.cons rfl (fun K hK => ?_) AllReadyIn.nil)
      go_simp
      refine hK _ _ ?_
      rw [hT]
      exact hS111000001000 p W hb hp hx
    have hS111000000000 : ∀ (W : World), Below X.heap.size X W → T 9 #[true, true, true, false, false, false, false, false, false, false, false, false] { tmps := #[.int .u64 f, .string s, undef, .pointer (some ⟨w.heap.size, 0, none⟩), .pointer (some ⟨w.heap.size + 1, 0, none⟩), .pointer (some ⟨w.heap.size + 1 + 1, 0, none⟩), .pointer (some ⟨w.heap.size + 1 + 1 + 1, 0, none⟩), .pointer (some ⟨w.heap.size + 1 + 1 + 1 + 1, 0, none⟩), .int .i64 (x.1 : Int), undef, undef, undef, .int .u64 f, .func (.func 123) #[] #[.pointer (some ⟨w.heap.size + 1 + 1 + 1 + 1 + 1, 0, none⟩)], .int .i64 (x.1 : Int), undef, .int .i64 (x.1 : Int), .int .u8 lt, .string R, undef, undef, undef, undef, undef, undef, undef, undef, undef, undef, undef, undef, undef, undef], defers := [] } W := by
      intro W hb
      rw [← hT]
      refine wpAnyIn_ready (rs := [3, 8]) (by kernel_rfl) (by simp) (AllReadyIn.cons rfl (fun K hK => ?_) (AllReadyIn.cons rfl (fun K hK => ?_) AllReadyIn.nil))
      · go_simp
        refine ⟨trivial, (CallsIn.inRound l (callsIn_wide.2 (hL W hb))).mono ?_⟩
        rintro e W' ⟨rfl, hb'⟩
        refine hK _ _ ?_
        rw [hT]
        exact hS111100000000 W' (hb.trans (hb'.mono hb.size))
      · go_simp
        refine hK _ _ ?_
        rw [hT]
        exact hS111000001000 W.heap.size _ (hb.alloc hb.size _) hb.size (Bx.new W _ _)
    have hS101000001000 : ∀ (p : Nat) (W : World), Below X.heap.size X W → X.heap.size ≤ p → Bx W p 58 [.int .u64 0, .string ⟨#[]⟩] → T 9 #[true, false, true, false, false, false, false, false, true, false, false, false] { tmps := #[.int .u64 f, .string s, undef, .pointer (some ⟨w.heap.size, 0, none⟩), .pointer (some ⟨w.heap.size + 1, 0, none⟩), .pointer (some ⟨w.heap.size + 1 + 1, 0, none⟩), .pointer (some ⟨w.heap.size + 1 + 1 + 1, 0, none⟩), .pointer (some ⟨w.heap.size + 1 + 1 + 1 + 1, 0, none⟩), .int .i64 (x.1 : Int), .pointer (some ⟨p, 0, none⟩), undef, undef, .int .u64 f, .func (.func 123) #[] #[.pointer (some ⟨w.heap.size + 1 + 1 + 1 + 1 + 1, 0, none⟩)], .int .i64 (x.1 : Int), undef, .int .i64 (x.1 : Int), undef, .string R, undef, undef, undef, undef, undef, undef, undef, undef, undef, undef, undef, undef, undef, undef], defers := [] } W := by
      intro p W hb hp hx
      rw [← hT]
      refine wpAnyIn_ready (rs := [1]) (by kernel_rfl) (by simp) (AllReadyIn.cons rfl (fun K hK => ?_) AllReadyIn.nil)
      go_simp
      refine hK _ _ ?_
      rw [hT]
      exact hS111000001000 p W hb hp hx
    have hS001000001000 : ∀ (p : Nat) (W : World), Below X.heap.size X W → X.heap.size ≤ p → Bx W p 58 [.int .u64 0, .string ⟨#[]⟩] → T 10 #[false, false, true, false, false, false, false, false, true, false, false, false] { tmps := #[.int .u64 f, .string s, undef, .pointer (some ⟨w.heap.size, 0, none⟩), .pointer (some ⟨w.heap.size + 1, 0, none⟩), .pointer (some ⟨w.heap.size + 1 + 1, 0, none⟩), .pointer (some ⟨w.heap.size + 1 + 1 + 1, 0, none⟩), .pointer (some ⟨w.heap.size + 1 + 1 + 1 + 1, 0, none⟩), .int .i64 (x.1 : Int), .pointer (some ⟨p, 0, none⟩), undef, undef, .int .u64 f, .func (.func 123) #[] #[.pointer (some ⟨w.heap.size + 1 + 1 + 1 + 1 + 1, 0, none⟩)], .int .i64 (x.1 : Int), undef, undef, undef, .string R, undef, undef, undef, undef, undef, undef, undef, undef, undef, undef, undef, undef, undef, undef], defers := [] } W := by
      intro p W hb hp hx
      rw [← hT]
      refine wpAnyIn_ready (rs := [0]) (by kernel_rfl) (by simp) (AllReadyIn.cons rfl (fun K hK => ?_) AllReadyIn.nil)
      go_simp
      refine hK _ _ ?_
      rw [hT]
      exact hS101000001000 p W hb hp hx
    have hS101000000000 : ∀ (W : World), Below X.heap.size X W → T 10 #[true, false, true, false, false, false, false, false, false, false, false, false] { tmps := #[.int .u64 f, .string s, undef, .pointer (some ⟨w.heap.size, 0, none⟩), .pointer (some ⟨w.heap.size + 1, 0, none⟩), .pointer (some ⟨w.heap.size + 1 + 1, 0, none⟩), .pointer (some ⟨w.heap.size + 1 + 1 + 1, 0, none⟩), .pointer (some ⟨w.heap.size + 1 + 1 + 1 + 1, 0, none⟩), .int .i64 (x.1 : Int), undef, undef, undef, .int .u64 f, .func (.func 123) #[] #[.pointer (some ⟨w.heap.size + 1 + 1 + 1 + 1 + 1, 0, none⟩)], .int .i64 (x.1 : Int), undef, .int .i64 (x.1 : Int), undef, .string R, undef, undef, undef, undef, undef, undef, undef, undef, undef, undef, undef, undef, undef, undef], defers := [] } W := by
      intro W hb
      rw [← hT]
      refine wpAnyIn_ready (rs := [1, 8]) (by kernel_rfl) (by simp) (AllReadyIn.cons rfl (fun K hK => ?_) (AllReadyIn.cons rfl (fun K hK => ?_) AllReadyIn.nil))
      · go_simp
        refine hK _ _ ?_
        rw [hT]
        exact hS111000000000 W hb
      · go_simp
        refine hK _ _ ?_
        rw [hT]
        exact hS101000001000 W.heap.size _ (hb.alloc hb.size _) hb.size (Bx.new W _ _)
    have hS110000000000 : ∀ (W : World), Below X.heap.size X W → T 10 #[true, true, false, false, false, false, false, false, false, false, false, false] { tmps := #[.int .u64 f, .string s, undef, .pointer (some ⟨w.heap.size, 0, none⟩), .pointer (some ⟨w.heap.size + 1, 0, none⟩), .pointer (some ⟨w.heap.size + 1 + 1, 0, none⟩), .pointer (some ⟨w.heap.size + 1 + 1 + 1, 0, none⟩), .pointer (some ⟨w.heap.size + 1 + 1 + 1 + 1, 0, none⟩), .int .i64 (x.1 : Int), undef, undef, undef, .int .u64 f, .func (.func 123) #[] #[.pointer (some ⟨w.heap.size + 1 + 1 + 1 + 1 + 1, 0, none⟩)], .int .i64 (x.1 : Int), undef, .int .i64 (x.1 : Int), .int .u8 lt, undef, undef, undef, undef, undef, undef, undef, undef, undef, undef, undef, undef, undef, undef, undef], defers := [] } W := by
      intro W hb
      have cS := (boxed_underP HS.out hb).cell
      rw [← hT]
      refine wpAnyIn_ready (rs := [2, 8]) (by kernel_rfl) (by simp) (AllReadyIn.cons rfl (fun K hK => ?_) (AllReadyIn.cons rfl (fun K hK => ?_) AllReadyIn.nil))
      · go_simp
        refine hK _ _ ?_
        rw [hT]
        exact hS111000000000 W hb
      · go_simp
        refine hK _ _ ?_
        rw [hT]
        exact hS110000001000 W.heap.size _ (hb.alloc hb.size _) hb.size (Bx.new W _ _)
    have hS100000001000 : ∀ (p : Nat) (W : World), Below X.heap.size X W → X.heap.size ≤ p → Bx W p 58 [.int .u64 0, .string ⟨#[]⟩] → T 10 #[true, false, false, false, false, false, false, false, true, false, false, false] { tmps := #[.int .u64 f, .string s, undef, .pointer (some ⟨w.heap.size, 0, none⟩), .pointer (some ⟨w.heap.size + 1, 0, none⟩), .pointer (some ⟨w.heap.size + 1 + 1, 0, none⟩), .pointer (some ⟨w.heap.size + 1 + 1 + 1, 0, none⟩), .pointer (some ⟨w.heap.size + 1 + 1 + 1 + 1, 0, none⟩), .int .i64 (x.1 : Int), .pointer (some ⟨p, 0, none⟩), undef, undef, .int .u64 f, .func (.func 123) #[] #[.pointer (some ⟨w.heap.size + 1 + 1 + 1 + 1 + 1, 0, none⟩)], .int .i64 (x.1 : Int), undef, .int .i64 (x.1 : Int), undef, undef, undef, undef, undef, undef, undef, undef, undef, undef, undef, undef, undef, undef, undef, undef], defers := [] } W := by
      intro p W hb hp hx
      have cS := (boxed_underP HS.out hb).cell
      rw [← hT]
      refine wpAnyIn_ready (rs := [1, 2]) (by kernel_rfl) (by simp) (AllReadyIn.cons rfl (fun K hK => ?_) (AllReadyIn.cons rfl (fun K hK => ?_) AllReadyIn.nil))
      · go_simp
        refine hK _ _ ?_
        rw [hT]
        exact hS110000001000 p W hb hp hx
      · go_simp
        refine hK _ _ ?_
        rw [hT]
        exact hS101000001000 p W hb hp hx
    have hS000000001000 : ∀ (p : Nat) (W : World), Below X.heap.size X W → X.heap.size ≤ p → Bx W p 58 [.int .u64 0, .string ⟨#[]⟩] → T 11 #[false, false, false, false, false, false, false, false, true, false, false, false] { tmps := #[.int .u64 f, .string s, undef, .pointer (some ⟨w.heap.size, 0, none⟩), .pointer (some ⟨w.heap.size + 1, 0, none⟩), .pointer (some ⟨w.heap.size + 1 + 1, 0, none⟩), .pointer (some ⟨w.heap.size + 1 + 1 + 1, 0, none⟩), .pointer (some ⟨w.heap.size + 1 + 1 + 1 + 1, 0, none⟩), .int .i64 (x.1 : Int), .pointer (some ⟨p, 0, none⟩), undef, undef, .int .u64 f, .func (.func 123) #[] #[.pointer (some ⟨w.heap.size + 1 + 1 + 1 + 1 + 1, 0, none⟩)], .int .i64 (x.1 : Int), undef, undef, undef, undef, undef, undef, undef, undef, undef, undef, undef, undef, undef, undef, undef, undef, undef, undef], defers := [] } W := by
      intro p W hb hp hx
      have cS := (boxed_underP HS.out hb).cell
      rw [← hT]
      refine wpAnyIn_ready (rs := [0, 2]) (by kernel_rfl) (by simp) (AllReadyIn.cons rfl (fun K hK => ?_) (AllReadyIn.cons rfl (fun K hK => ?_) AllReadyIn.nil))
      · go_simp
        refine hK _ _ ?_
        rw [hT]
        exact hS100000001000 p W hb hp hx
      · go_simp
        refine hK _ _ ?_
        rw [hT]
        exact hS001000001000 p W hb hp hx
    have hS001000000000 : ∀ (W : World), Below X.heap.size X W → T 11 #[false, false, true, false, false, false, false, false, false, false, false, false] { tmps := #[.int .u64 f, .string s, undef, .pointer (some ⟨w.heap.size, 0, none⟩), .pointer (some ⟨w.heap.size + 1, 0, none⟩), .pointer (some ⟨w.heap.size + 1 + 1, 0, none⟩), .pointer (some ⟨w.heap.size + 1 + 1 + 1, 0, none⟩), .pointer (some ⟨w.heap.size + 1 + 1 + 1 + 1, 0, none⟩), .int .i64 (x.1 : Int), undef, undef, undef, .int .u64 f, .func (.func 123) #[] #[.pointer (some ⟨w.heap.size + 1 + 1 + 1 + 1 + 1, 0, none⟩)], .int .i64 (x.1 : Int), undef, undef, undef, .string R, undef, undef, undef, undef, undef, undef, undef, undef, undef, undef, undef, undef, undef, undef], defers := [] } W := by
      intro W hb
      rw [← hT]
      refine wpAnyIn_ready (rs := [0, 8]) (by kernel_rfl) (by simp) (AllReadyIn.cons rfl (fun K hK => ?_) (AllReadyIn.cons rfl (fun K hK => ?_) AllReadyIn.nil))
      · go_simp
        refine hK _ _ ?_
        rw [hT]
        exact hS101000000000 W hb
      · go_simp
        refine hK _ _ ?_
        rw [hT]
        exact hS001000001000 W.heap.size _ (hb.alloc hb.size _) hb.size (Bx.new W _ _)
    have hS100000000000 : ∀ (W : World), Below X.heap.size X W → T 11 #[true, false, false, false, false, false, false, false, false, false, false, false] { tmps := #[.int .u64 f, .string s, undef, .pointer (some ⟨w.heap.size, 0, none⟩), .pointer (some ⟨w.heap.size + 1, 0, none⟩), .pointer (some ⟨w.heap.size + 1 + 1, 0, none⟩), .pointer (some ⟨w.heap.size + 1 + 1 + 1, 0, none⟩), .pointer (some ⟨w.heap.size + 1 + 1 + 1 + 1, 0, none⟩), .int .i64 (x.1 : Int), undef, undef, undef, .int .u64 f, .func (.func 123) #[] #[.pointer (some ⟨w.heap.size + 1 + 1 + 1 + 1 + 1, 0, none⟩)], .int .i64 (x.1 : Int), undef, .int .i64 (x.1 : Int), undef, undef, undef, undef, undef, undef, undef, undef, undef, undef, undef, undef, undef, undef, undef, undef], defers := [] } W := by
      intro W hb
      have cS := (boxed_underP HS.out hb).cell
      rw [← hT]
      refine wpAnyIn_ready (rs := [1, 2, 8]) (by kernel_rfl) (by simp) (AllReadyIn.cons rfl (fun K hK => ?_) (AllReadyIn.cons rfl (fun K hK => ?_) (AllReadyIn.cons rfl (fun K hK => ?_) AllReadyIn.nil)))
      · go_simp
        refine hK _ _ ?_
        rw [hT]
        exact hS110000000000 W hb
      · go_simp
        refine hK _ _ ?_
        rw [hT]
        exact hS101000000000 W hb
      · go_simp
        refine hK _ _ ?_
        rw [hT]
        exact hS100000001000 W.heap.size _ (hb.alloc hb.size _) hb.size (Bx.new W _ _)
    have hS000000000000 : ∀ (W : World), Below X.heap.size X W → T 12 #[false, false, false, false, false, false, false, false, false, false, false, false] { tmps := #[.int .u64 f, .string s, undef, .pointer (some ⟨w.heap.size, 0, none⟩), .pointer (some ⟨w.heap.size + 1, 0, none⟩), .pointer (some ⟨w.heap.size + 1 + 1, 0, none⟩), .pointer (some ⟨w.heap.size + 1 + 1 + 1, 0, none⟩), .pointer (some ⟨w.heap.size + 1 + 1 + 1 + 1, 0, none⟩), .int .i64 (x.1 : Int), undef, undef, undef, .int .u64 f, .func (.func 123) #[] #[.pointer (some ⟨w.heap.size + 1 + 1 + 1 + 1 + 1, 0, none⟩)], .int .i64 (x.1 : Int), undef, undef, undef, undef, undef, undef, undef, undef, undef, undef, undef, undef, undef, undef, undef, undef, undef, undef], defers := [] } W := by
      intro W hb
      have cS := (boxed_underP HS.out hb).cell
      rw [← hT]
      refine wpAnyIn_ready (rs := [0, 2, 8]) (by kernel_rfl) (by simp) (AllReadyIn.cons rfl (fun K hK => ?_) (AllReadyIn.cons rfl (fun K hK => ?_) (AllReadyIn.cons rfl (fun K hK => ?_) AllReadyIn.nil)))
      · go_simp
        refine hK _ _ ?_
        rw [hT]
        exact hS100000000000 W hb
      · go_simp
        refine hK _ _ ?_
        rw [hT]
        exact hS001000000000 W hb
      · go_simp
        refine hK _ _ ?_
        rw [hT]
        exact hS000000001000 W.heap.size _ (hb.alloc hb.size _) hb.size (Bx.new W _ _)
    exact hS000000000000 _ (below_undrew (Below.refl _ _))
  case done =>
    rintro D ys Y hD rfl hI hK
    obtain ⟨v, hv, hrow⟩ := hI.row
    have hmo : Tryz.prog.follows .mixedOrders = true := by kernel_rfl
    obtain ⟨A8, n8, c8, rfl⟩ : ∃ A n c, v = .slice A n c := by
      rcases hrow.2 with ⟨h1, -⟩ | ⟨g, cap, cur, h1, -⟩
      · exact ⟨_, _, _, h1⟩
      · exact ⟨_, _, _, h1⟩
    have HF : Hid (tkE (hLs f) s = 0 ∧ (wh f).length = (hLs f).length) := Lib.hid ⟨hI.ok, (hLs_length f).symm⟩
    have hv' : Boxed Y.drew (w.heap.size + 1 + 1 + 1 + 1) 22 (.slice A8 n8 c8) := hv
    have hs' : Boxed Y.drew w.heap.size 9 (.string (tkR (hLs f) s)) := hI.str
    have q1 : Boxed Y.drew (w.heap.size + 1) 22 (.slice none 0 0) := hI.r1
    have q2 : Boxed Y.drew (w.heap.size + 1 + 1) 9 (.string ⟨#[]⟩) := hI.r2
    have q3 : Boxed Y.drew (w.heap.size + 1 + 1 + 1) 37 (.int .i64 0) := hI.r3
    have hB' : Below w.heap.size w Y.drew := hI.bel.trans ((below_undrew (Below.refl _ _)).mono hI.bel.size)
    have hK' : Y.drew.heap[D]? = some (.deferred (some [])) := hK
    have hrow' : Y.drew.ownsRow w.heap.size 58 2 (.slice A8 n8 c8) (wh f).length (rowV (tkVs (hLs f) s)) := hrow
    clear hI hK hv hrow
    generalize hR : tkR (hLs f) s = R at hs'
    have HR := Lib.hid hR
    clear hR
    have q2a := q2.other (B' := w.heap.size + 1) (by omega) (.slice A8 n8 c8)
    have q3a := (q3.other (B' := w.heap.size + 1) (by omega) (.slice A8 n8 c8)).other (B' := w.heap.size + 1 + 1) (by omega) (.string R)
    have c1 := q1.cell
    have f1 := q1.frozen
    have c2 := q2a.cell
    have f2 := q2a.frozen
    have c3 := q3a.cell
    have f3 := q3a.frozen
    have cs := hs'.cell
    have cv := hv'.cell
    have cs2 := (hs'.other (B' := w.heap.size + 1) (by omega) (.slice A8 n8 c8)).cell
    have late : (((Y.drew.setCell ⟨w.heap.size + 1, 0, none⟩ (.slice A8 n8 c8)).setCell ⟨w.heap.size + 1 + 1, 0, none⟩ (.string R)).setCell ⟨w.heap.size + 1 + 1 + 1, 0, none⟩ (.int .i64 0)).heap[D]? = some (.deferred (some [])) := ((Keeps.setCell (p := fun _ => false) q1 rfl 0 _).trans ((Keeps.setCell q2a rfl 0 _).trans (Keeps.setCell q3a rfl 0 _))) D _ hK' (fun _ _ _ e => by cases e)
    have HZ : Hid (Boxed (((Y.drew.setCell ⟨w.heap.size + 1, 0, none⟩ (.slice A8 n8 c8)).setCell ⟨w.heap.size + 1 + 1, 0, none⟩ (.string R)).setCell ⟨w.heap.size + 1 + 1 + 1, 0, none⟩ (.int .i64 0)) (w.heap.size + 1) 22 (.slice A8 n8 c8) ∧ Boxed (((Y.drew.setCell ⟨w.heap.size + 1, 0, none⟩ (.slice A8 n8 c8)).setCell ⟨w.heap.size + 1 + 1, 0, none⟩ (.string R)).setCell ⟨w.heap.size + 1 + 1 + 1, 0, none⟩ (.int .i64 0)) (w.heap.size + 1 + 1) 9 (.string R) ∧ Boxed (((Y.drew.setCell ⟨w.heap.size + 1, 0, none⟩ (.slice A8 n8 c8)).setCell ⟨w.heap.size + 1 + 1, 0, none⟩ (.string R)).setCell ⟨w.heap.size + 1 + 1 + 1, 0, none⟩ (.int .i64 0)) (w.heap.size + 1 + 1 + 1) 37 (.int .i64 0) ∧ (((Y.drew.setCell ⟨w.heap.size + 1, 0, none⟩ (.slice A8 n8 c8)).setCell ⟨w.heap.size + 1 + 1, 0, none⟩ (.string R)).setCell ⟨w.heap.size + 1 + 1 + 1, 0, none⟩ (.int .i64 0)).ownsRow w.heap.size 58 2 (.slice A8 n8 c8) (wh f).length (rowV (tkVs (hLs f) s)) ∧ Below w.heap.size w (((Y.drew.setCell ⟨w.heap.size + 1, 0, none⟩ (.slice A8 n8 c8)).setCell ⟨w.heap.size + 1 + 1, 0, none⟩ (.string R)).setCell ⟨w.heap.size + 1 + 1 + 1, 0, none⟩ (.int .i64 0))) := Lib.hid (by
      refine ⟨((q1.set _).other (by omega) _).other (by omega) _, (q2a.set _).other (by omega) _, q3a.set _, ?_, ((hB'.setCell (p := ⟨w.heap.size + 1, 0, none⟩) (by simp) _).setCell (p := ⟨w.heap.size + 1 + 1, 0, none⟩) (by simp; omega) _).setCell (p := ⟨w.heap.size + 1 + 1 + 1, 0, none⟩) (by simp; omega) _⟩
      have k := (Keeps.setCell (p := fun t => t == 58) q1 rfl 0 (.slice A8 n8 c8)).trans ((Keeps.setCell q2a rfl 0 (.string R)).trans (Keeps.setCell q3a rfl 0 (.int .i64 0)))
      exact k.row hrow' rfl)
    gi_wp2_with fail
    rename_i Kx hKx
    have hend : Kx { tmps := #[.int .u64 f, .string s, undef, .pointer (some ⟨w.heap.size, 0, none⟩), .pointer (some ⟨w.heap.size + 1, 0, none⟩), .pointer (some ⟨w.heap.size + 1 + 1, 0, none⟩), .pointer (some ⟨w.heap.size + 1 + 1 + 1, 0, none⟩), .pointer (some ⟨w.heap.size + 1 + 1 + 1 + 1, 0, none⟩), undef, undef, undef, undef, .int .u64 f, .func (.func 123) #[] #[.pointer (some ⟨w.heap.size + 1 + 1 + 1 + 1 + 1, 0, none⟩)], undef, undef, undef, undef, undef, undef, undef, undef, undef, undef, undef, undef, undef, undef, undef, undef, undef, .slice A8 n8 c8, .string R], defers := [{ target := Target.collected D, args := #[] }] } (((Y.drew.setCell ⟨w.heap.size + 1, 0, none⟩ (.slice A8 n8 c8)).setCell ⟨w.heap.size + 1 + 1, 0, none⟩ (.string R)).setCell ⟨w.heap.size + 1 + 1 + 1, 0, none⟩ (.int .i64 0)) := by
      refine hKx _ _ ?_
      clear hKx Kx
      clear q2a q3a c1 f1 c2 f2 c3 f3 cs cv cs2
      generalize (((Y.drew.setCell ⟨w.heap.size + 1, 0, none⟩ (.slice A8 n8 c8)).setCell ⟨w.heap.size + 1 + 1, 0, none⟩ (.string R)).setCell ⟨w.heap.size + 1 + 1 + 1, 0, none⟩ (.int .i64 0)) = WF at late HZ ⊢
      gi_wp2
      refine ⟨by simp, .inl ⟨_, _, rfl, run_takeDeferred late, ?_⟩⟩
      refine ⟨.tuple #[.slice A8 n8 c8, .string R, .int .i64 0], ?_, fun _ => ⟨_, by rw [HR.out], ?_⟩, fun h => absurd HF.out.1 h, HZ.out.2.2.2.2.trans (belowK_b (w := w) (Nat.le_refl _) _ D _ _ (by omega) late rfl rfl)⟩
      · have r1 := boxed_put (.deferred none) HZ.out.1 late rfl
        have r2 := boxed_put (.deferred none) HZ.out.2.1 late rfl
        have r3 := boxed_put (.deferred none) HZ.out.2.2.1 late rfl
        rw [results_ccc rfl]
        simp [asAddr, Result.andThen, go_sem, r1, r2, r3]
      · rw [← HF.out.2]
        exact ownsRow_putObj HZ.out.2.2.2.1 _ late rfl
    clear hKx
    refine wpIn_region_any hmo ?_
    change wpAnyIn _ _ _ _ _ _ 5 #[false, false, false, false, false] _ (World.drew _)
    generalize hT : wpAnyIn _ _ _ _ _ _ = T
    generalize World.drew Y = Y1 at c1 f1 c2 f2 c3 f3 cs cv cs2 hend ⊢
    have hS11111 : T 0 #[true, true, true, true, true] { tmps := #[.int .u64 f, .string s, undef, .pointer (some ⟨w.heap.size, 0, none⟩), .pointer (some ⟨w.heap.size + 1, 0, none⟩), .pointer (some ⟨w.heap.size + 1 + 1, 0, none⟩), .pointer (some ⟨w.heap.size + 1 + 1 + 1, 0, none⟩), .pointer (some ⟨w.heap.size + 1 + 1 + 1 + 1, 0, none⟩), undef, undef, undef, undef, .int .u64 f, .func (.func 123) #[] #[.pointer (some ⟨w.heap.size + 1 + 1 + 1 + 1 + 1, 0, none⟩)], undef, undef, undef, undef, undef, undef, undef, undef, undef, undef, undef, undef, undef, undef, undef, undef, undef, .slice A8 n8 c8, .string R], defers := [{ target := Target.collected D, args := #[] }] } (((Y1.setCell ⟨w.heap.size + 1, 0, none⟩ (.slice A8 n8 c8)).setCell ⟨w.heap.size + 1 + 1, 0, none⟩ (.string R)).setCell ⟨w.heap.size + 1 + 1 + 1, 0, none⟩ (.int .i64 0)) := by
      rw [← hT]
      refine wpAnyIn_done (by kernel_rfl) ?_ _
      exact hend
    have hS11110 : T 1 #[true, true, true, true, false] { tmps := #[.int .u64 f, .string s, undef, .pointer (some ⟨w.heap.size, 0, none⟩), .pointer (some ⟨w.heap.size + 1, 0, none⟩), .pointer (some ⟨w.heap.size + 1 + 1, 0, none⟩), .pointer (some ⟨w.heap.size + 1 + 1 + 1, 0, none⟩), .pointer (some ⟨w.heap.size + 1 + 1 + 1 + 1, 0, none⟩), undef, undef, undef, undef, .int .u64 f, .func (.func 123) #[] #[.pointer (some ⟨w.heap.size + 1 + 1 + 1 + 1 + 1, 0, none⟩)], undef, undef, undef, undef, undef, undef, undef, undef, undef, undef, undef, undef, undef, undef, undef, undef, undef, .slice A8 n8 c8, .string R], defers := [{ target := Target.collected D, args := #[] }] } ((Y1.setCell ⟨w.heap.size + 1, 0, none⟩ (.slice A8 n8 c8)).setCell ⟨w.heap.size + 1 + 1, 0, none⟩ (.string R)) := by
      rw [← hT]
      refine wpAnyIn_ready (rs := [4]) (by kernel_rfl) (by simp) (AllReadyIn.cons rfl (fun K hK => ?_) AllReadyIn.nil)
      go_simp
      refine hK _ _ ?_
      rw [hT]
      exact hS11111
    have hS11100 : T 2 #[true, true, true, false, false] { tmps := #[.int .u64 f, .string s, undef, .pointer (some ⟨w.heap.size, 0, none⟩), .pointer (some ⟨w.heap.size + 1, 0, none⟩), .pointer (some ⟨w.heap.size + 1 + 1, 0, none⟩), .pointer (some ⟨w.heap.size + 1 + 1 + 1, 0, none⟩), .pointer (some ⟨w.heap.size + 1 + 1 + 1 + 1, 0, none⟩), undef, undef, undef, undef, .int .u64 f, .func (.func 123) #[] #[.pointer (some ⟨w.heap.size + 1 + 1 + 1 + 1 + 1, 0, none⟩)], undef, undef, undef, undef, undef, undef, undef, undef, undef, undef, undef, undef, undef, undef, undef, undef, undef, .slice A8 n8 c8, .string R], defers := [{ target := Target.collected D, args := #[] }] } (Y1.setCell ⟨w.heap.size + 1, 0, none⟩ (.slice A8 n8 c8)) := by
      rw [← hT]
      refine wpAnyIn_ready (rs := [3]) (by kernel_rfl) (by simp) (AllReadyIn.cons rfl (fun K hK => ?_) AllReadyIn.nil)
      go_simp
      refine hK _ _ ?_
      rw [hT]
      exact hS11110
    have hS11000 : T 3 #[true, true, false, false, false] { tmps := #[.int .u64 f, .string s, undef, .pointer (some ⟨w.heap.size, 0, none⟩), .pointer (some ⟨w.heap.size + 1, 0, none⟩), .pointer (some ⟨w.heap.size + 1 + 1, 0, none⟩), .pointer (some ⟨w.heap.size + 1 + 1 + 1, 0, none⟩), .pointer (some ⟨w.heap.size + 1 + 1 + 1 + 1, 0, none⟩), undef, undef, undef, undef, .int .u64 f, .func (.func 123) #[] #[.pointer (some ⟨w.heap.size + 1 + 1 + 1 + 1 + 1, 0, none⟩)], undef, undef, undef, undef, undef, undef, undef, undef, undef, undef, undef, undef, undef, undef, undef, undef, undef, .slice A8 n8 c8, .string R], defers := [{ target := Target.collected D, args := #[] }] } Y1 := by
      rw [← hT]
      refine wpAnyIn_ready (rs := [2]) (by kernel_rfl) (by simp) (AllReadyIn.cons rfl (fun K hK => ?_) AllReadyIn.nil)
      go_simp
      refine hK _ _ ?_
      rw [hT]
      exact hS11100
    have hS10100 : T 3 #[true, false, true, false, false] { tmps := #[.int .u64 f, .string s, undef, .pointer (some ⟨w.heap.size, 0, none⟩), .pointer (some ⟨w.heap.size + 1, 0, none⟩), .pointer (some ⟨w.heap.size + 1 + 1, 0, none⟩), .pointer (some ⟨w.heap.size + 1 + 1 + 1, 0, none⟩), .pointer (some ⟨w.heap.size + 1 + 1 + 1 + 1, 0, none⟩), undef, undef, undef, undef, .int .u64 f, .func (.func 123) #[] #[.pointer (some ⟨w.heap.size + 1 + 1 + 1 + 1 + 1, 0, none⟩)], undef, undef, undef, undef, undef, undef, undef, undef, undef, undef, undef, undef, undef, undef, undef, undef, undef, .slice A8 n8 c8, undef], defers := [{ target := Target.collected D, args := #[] }] } (Y1.setCell ⟨w.heap.size + 1, 0, none⟩ (.slice A8 n8 c8)) := by
      rw [← hT]
      refine wpAnyIn_ready (rs := [1]) (by kernel_rfl) (by simp) (AllReadyIn.cons rfl (fun K hK => ?_) AllReadyIn.nil)
      go_simp
      refine hK _ _ ?_
      rw [hT]
      exact hS11100
    have hS01000 : T 4 #[false, true, false, false, false] { tmps := #[.int .u64 f, .string s, undef, .pointer (some ⟨w.heap.size, 0, none⟩), .pointer (some ⟨w.heap.size + 1, 0, none⟩), .pointer (some ⟨w.heap.size + 1 + 1, 0, none⟩), .pointer (some ⟨w.heap.size + 1 + 1 + 1, 0, none⟩), .pointer (some ⟨w.heap.size + 1 + 1 + 1 + 1, 0, none⟩), undef, undef, undef, undef, .int .u64 f, .func (.func 123) #[] #[.pointer (some ⟨w.heap.size + 1 + 1 + 1 + 1 + 1, 0, none⟩)], undef, undef, undef, undef, undef, undef, undef, undef, undef, undef, undef, undef, undef, undef, undef, undef, undef, undef, .string R], defers := [{ target := Target.collected D, args := #[] }] } Y1 := by
      rw [← hT]
      refine wpAnyIn_ready (rs := [0]) (by kernel_rfl) (by simp) (AllReadyIn.cons rfl (fun K hK => ?_) AllReadyIn.nil)
      go_simp
      refine hK _ _ ?_
      rw [hT]
      exact hS11000
    have hS10000 : T 4 #[true, false, false, false, false] { tmps := #[.int .u64 f, .string s, undef, .pointer (some ⟨w.heap.size, 0, none⟩), .pointer (some ⟨w.heap.size + 1, 0, none⟩), .pointer (some ⟨w.heap.size + 1 + 1, 0, none⟩), .pointer (some ⟨w.heap.size + 1 + 1 + 1, 0, none⟩), .pointer (some ⟨w.heap.size + 1 + 1 + 1 + 1, 0, none⟩), undef, undef, undef, undef, .int .u64 f, .func (.func 123) #[] #[.pointer (some ⟨w.heap.size + 1 + 1 + 1 + 1 + 1, 0, none⟩)], undef, undef, undef, undef, undef, undef, undef, undef, undef, undef, undef, undef, undef, undef, undef, undef, undef, .slice A8 n8 c8, undef], defers := [{ target := Target.collected D, args := #[] }] } Y1 := by
      rw [← hT]
      refine wpAnyIn_ready (rs := [1, 2]) (by kernel_rfl) (by simp) (AllReadyIn.cons rfl (fun K hK => ?_) (AllReadyIn.cons rfl (fun K hK => ?_) AllReadyIn.nil))
      · go_simp
        refine hK _ _ ?_
        rw [hT]
        exact hS11000
      · go_simp
        refine hK _ _ ?_
        rw [hT]
        exact hS10100
    have hS00000 : T 5 #[false, false, false, false, false] { tmps := #[.int .u64 f, .string s, undef, .pointer (some ⟨w.heap.size, 0, none⟩), .pointer (some ⟨w.heap.size + 1, 0, none⟩), .pointer (some ⟨w.heap.size + 1 + 1, 0, none⟩), .pointer (some ⟨w.heap.size + 1 + 1 + 1, 0, none⟩), .pointer (some ⟨w.heap.size + 1 + 1 + 1 + 1, 0, none⟩), undef, undef, undef, undef, .int .u64 f, .func (.func 123) #[] #[.pointer (some ⟨w.heap.size + 1 + 1 + 1 + 1 + 1, 0, none⟩)], undef, undef, undef, undef, undef, undef, undef, undef, undef, undef, undef, undef, undef, undef, undef, undef, undef, undef, undef], defers := [{ target := Target.collected D, args := #[] }] } Y1 := by
      rw [← hT]
      refine wpAnyIn_ready (rs := [0, 1]) (by kernel_rfl) (by simp) (AllReadyIn.cons rfl (fun K hK => ?_) (AllReadyIn.cons rfl (fun K hK => ?_) AllReadyIn.nil))
      · go_simp
        refine hK _ _ ?_
        rw [hT]
        exact hS10000
      · go_simp
        refine hK _ _ ?_
        rw [hT]
        exact hS01000
    exact hS00000

  case stop =>
    rintro D c pre Y hD hSp ⟨rfl, hX⟩ hK
    have HF : Hid (tkE (hLs f) s = tkE (pre.map pLet) s ∧ ¬ tkE (hLs f) s = 0) := Lib.hid (by
      have hp : pre.map pLet <+: hLs f := by
        obtain ⟨t, ht⟩ := hSp
        exact ⟨t.map pLet, by rw [hLs, ← ht, List.map_append]⟩
      have e := tkE_pre hp hX.bad
      exact ⟨e, by rw [e]; exact hX.bad⟩)
    gi_wp2
    refine ⟨by simp, .inl ⟨_, _, rfl, run_takeDeferred hK, ?_⟩⟩
    refine ⟨.tuple #[.slice none 0 0, .string ⟨#[]⟩, .int .i64 (tkE (hLs f) s)], ?_, fun h => absurd h HF.out.2, fun _ => rfl, hX.bel.trans (belowK_b (w := w) (Nat.le_refl _) _ D _ _ (by omega) hK rfl rfl)⟩
    have r1 := boxed_put (.deferred none) hX.r1 hK rfl
    have r2 := boxed_put (.deferred none) hX.r2 hK rfl
    have r3 := boxed_put (.deferred none) hX.r3 hK rfl
    rw [results_ccc rfl, HF.out.1]
    simp [asAddr, Result.andThen, go_sem, r1, r2, r3]
end Go.Proofs.YtllgkohgcicbhaaGreatDoor

/-
  props.Take answers the head that bytes are, its values in memory of its own, or why there is none; nothing that was there is changed. Conditions: the package num's table of widths holds 1, 2, 4, 8; texts of fewer than 2^62 bytes.
-/
namespace Go.Proofs.YtllgkohgcicbhaaGreatDoor
open Go.RowKit

def noneH : Value := .agg #[.int .i64 0, .int .u64 0, .int .u64 0, .slice none 0 0]
/-- what Take answers -/
def TpPost (s : ByteArray) (w : World) (e : Ending) (w' : World) : Prop :=
  (tpErr s = 0 ∧ ∃ A cap, e = .returned (.tuple #[encH (tpH s) A cap, .int .i64 0]) ∧ ValsAt w' A (rowV (tpH s).l) ∧ (A = none → (tpH s).l.length = 0 ∧ cap = 0) ∧ Below w.heap.size w w') ∨
  (¬ tpErr s = 0 ∧ e = .returned (.tuple #[noneH, .int .i64 (tpErr s)]) ∧ Below w.heap.size w w')
theorem results_ct {fn : Func} {p t : Tmp} {ty : TypeId} (h : fn.results = #[.cell p ty, .tmp t]) (tmps : Array Value) (P : Program) (w : World) :
    (results fn tmps).run P w = ((asAddr (tmps.getD p undef)).run P w).andThen fun a w₁ => ((loadVar ty a).run P w₁).andThen fun v w₂ => .ok (.tuple #[v, tmps.getD t undef]) w₂ := by
  simp only [results, h]
  simp [Sem.run_bind, Result.andThen]
theorem Bx.store4 {W : World} {B : Nat} {t : TypeId} {a b c d : Value} (h : Bx W B t [a, b, c, d]) (a' b' c' d' : Value) :
    W.cell? ⟨B, 0, none⟩ = some a ∧ W.frozen? ⟨B, 0, none⟩ = false ∧
    (W.setCell ⟨B, 0, none⟩ a').cell? ⟨B, 1, none⟩ = some b ∧ (W.setCell ⟨B, 0, none⟩ a').frozen? ⟨B, 1, none⟩ = false ∧
    ((W.setCell ⟨B, 0, none⟩ a').setCell ⟨B, 1, none⟩ b').cell? ⟨B, 2, none⟩ = some c ∧ ((W.setCell ⟨B, 0, none⟩ a').setCell ⟨B, 1, none⟩ b').frozen? ⟨B, 2, none⟩ = false ∧
    (((W.setCell ⟨B, 0, none⟩ a').setCell ⟨B, 1, none⟩ b').setCell ⟨B, 2, none⟩ c').cell? ⟨B, 3, none⟩ = some d ∧ (((W.setCell ⟨B, 0, none⟩ a').setCell ⟨B, 1, none⟩ b').setCell ⟨B, 2, none⟩ c').frozen? ⟨B, 3, none⟩ = false ∧
    Bx ((((W.setCell ⟨B, 0, none⟩ a').setCell ⟨B, 1, none⟩ b').setCell ⟨B, 2, none⟩ c').setCell ⟨B, 3, none⟩ d') B t [a', b', c', d'] :=
  ⟨h.cell 0 (by simp), h.frozen 0, (h.set 0 a').cell 1 (by simp), (h.set 0 a').frozen 1, ((h.set 0 a').set 1 b').cell 2 (by simp), ((h.set 0 a').set 1 b').frozen 2, (((h.set 0 a').set 1 b').set 2 c').cell 3 (by simp), (((h.set 0 a').set 1 b').set 2 c').frozen 3, (((h.set 0 a').set 1 b').set 2 c').set 3 d'⟩
theorem below_store4 {n B : Nat} {w W : World} (h : Below n w W) (hn : n ≤ B) (a b c d : Value) : Below n w ((((W.setCell ⟨B, 0, none⟩ a).setCell ⟨B, 1, none⟩ b).setCell ⟨B, 2, none⟩ c).setCell ⟨B, 3, none⟩ d) :=
  (((h.setCell (p := ⟨B, 0, none⟩) hn a).setCell (p := ⟨B, 1, none⟩) hn b).setCell (p := ⟨B, 2, none⟩) hn c).setCell (p := ⟨B, 3, none⟩) hn d
/-- values stay where another block is written -/
theorem vals_store4 {W : World} {B : Nat} {t : TypeId} {l vs : List Value} {A : Option Addr} {base n : Nat} {v : Value} (hB : Bx W B t l) (hte : t ≠ 58) (h : W.ownsRow base 58 2 v n vs) (hA : ∃ c, v = .slice A n c) (a b c d : Value) : ValsAt ((((W.setCell ⟨B, 0, none⟩ a).setCell ⟨B, 1, none⟩ b).setCell ⟨B, 2, none⟩ c).setCell ⟨B, 3, none⟩ d) A vs := by
  have hp : (fun x => x == 58) t = false := by simpa using hte
  have k := ((Keeps.setCell (p := fun x => x == 58) hB hp 0 a).trans (Keeps.setCell (hB.set 0 a) hp 1 b)).trans ((Keeps.setCell ((hB.set 0 a).set 1 b) hp 2 c).trans (Keeps.setCell (((hB.set 0 a).set 1 b).set 2 c) hp 3 d))
  obtain ⟨A', c', e, h1, -⟩ := row_form (k.row h rfl)
  obtain ⟨c'', e'⟩ := hA
  rw [e'] at e
  cases e
  exact h1

set_option maxRecDepth 100000 in
set_option maxHeartbeats 2000000 in
theorem pTake_any (s : ByteArray) (w : World) (hw : Wid w) (hs : s.size < 4611686018427387904) : Calls Tryz.prog 64 #[.string s] w (TpPost s w) := by
  have hb0 : Below w.heap.size w (w.alloc (.cells #[.int .i64 0, .int .u64 0, .int .u64 0, .slice none 0 0] 27)) := (Below.refl _ w).alloc (Nat.le_refl _) _
  have hx := Bx.new w 27 [.int .i64 0, .int .u64 0, .int .u64 0, .slice none 0 0]
  have hT1 := take_any s 2 _ (hw.below hb0)
  have hT2 := fun W hW => take_any (tpR1 s) 2 W hW
  have hT3 := fun W hW => take_any (tpR2 s) 8 W hW
  have hT4 := fun W hW => take_any (tpR3 s) 2 W hW
  have hsz : (tpR4 s).size < 4611686018427387904 := by
    have r1 := takeR_le s 2
    have r2 := takeR_le (tpR1 s) 2
    have r3 := takeR_le (tpR2 s) 8
    have r4 := takeR_le (tpR3 s) 2
    unfold tpR4 tpR3 tpR2 tpR1 at *
    omega
  have hf0 : 0 ≤ tpF s := takeV_nonneg (tpR3 s) 2
  have hf1 : tpF s < 18446744073709551616 := takeV_lt (tpR3 s) 2
  have hTA := fun W hW => takeAll_any (tpF s) (tpR4 s) W hW hf0 hf1 hsz
  have hc : IntKind.i64.wrap (takeV s 2) = takeV s 2 := by
    have h0 := takeV_nonneg s 2
    have h1 : takeV s 2 < 65536 := by
      cases g : takeOk s 2
      · rw [takeV, if_neg (by simp [g])]; omega
      · have := takeV_pow g
        have e : (256 : Nat) ^ (2 : Int).toNat = 65536 := by decide
        rw [e] at this
        omega
    simp only [IntKind.wrap_i64]
    omega
  have HTP : Hid (tpErr s = if takeE (tpR3 s) 2 = 0 then (if tkE (hLs (tpF s)) (tpR4 s) = 0 ∧ takeV (tpR1 s) 2 = 0 ∧ (tkR (hLs (tpF s)) (tpR4 s)).size = 0 then shE (tpH s) else 7) else 7) := Lib.hid rfl
  have HL : Hid ((hLs (tpF s)).length = (tpH s).l.length) := Lib.hid (tkVs_length _ _).symm
  have hSh : tkE (hLs (tpF s)) (tpR4 s) = 0 → ∀ A cap W, _ := fun hk A cap W => shape_any (tpH s) A cap W (tp_wf hk)
  have e1 : takeR s 2 = tpR1 s := rfl
  have e2 : takeR (tpR1 s) 2 = tpR2 s := rfl
  have e3 : takeR (tpR2 s) 8 = tpR3 s := rfl
  have e4 : takeR (tpR3 s) 2 = tpR4 s := rfl
  have e5 : takeV (tpR3 s) 2 = tpF s := rfl
  rw [e1] at hT1
  rw [e2] at hT2
  rw [e3] at hT3
  rw [e4, e5] at hT4
  clear e1 e2 e3 e4 e5
  have HH : Hid (tpH s = ⟨takeV s 2, takeV (tpR2 s) 8, tpF s, tkVs (hLs (tpF s)) (tpR4 s)⟩) := Lib.hid rfl
  have HHv : Hid (tpH s = tpH s) := Lib.hid rfl
  unfold encH at hSh
  have hc1 : (tpH s).c = takeV s 2 := rfl
  have hc2 : (tpH s).z = takeV (tpR2 s) 8 := rfl
  have hc3 : (tpH s).f = tpF s := rfl
  have hc4 : (tpH s).l = tkVs (hLs (tpF s)) (tpR4 s) := rfl
  rw [hc1, hc2, hc3] at hSh
  have HC : Hid ((tpH s).c = takeV s 2 ∧ (tpH s).z = takeV (tpR2 s) 8 ∧ (tpH s).f = tpF s ∧ (tpH s).l = tkVs (hLs (tpF s)) (tpR4 s)) := Lib.hid ⟨rfl, rfl, rfl, rfl⟩
  clear hc1 hc2 hc3 hc4 HHv HH
  unfold TpPost
  generalize tpH s = h at *
  generalize tpErr s = er at *
  generalize takeV s 2 = cv at *
  generalize takeE s 2 = x1 at *
  generalize takeV (tpR1 s) 2 = zv at *
  generalize takeE (tpR1 s) 2 = x2 at *
  generalize takeV (tpR2 s) 8 = sv at *
  generalize takeE (tpR2 s) 8 = x3 at *
  generalize takeE (tpR3 s) 2 = x4 at *
  generalize tpF s = fv at *
  generalize tpR1 s = r1 at *
  generalize tpR2 s = r2 at *
  generalize tpR3 s = r3 at *
  generalize tpR4 s = r4 at *
  go_enter Tryz.func64, Tryz.ntmps64
  go_wp2_with fail
  refine hT1.mono ?_
  rintro e w1 ⟨rfl, hb1⟩
  have hB1 := hb0.trans (hb1.mono hb0.size)
  have hx1 := hx.kept hb1
  clear hT1 hx hb1 hb0
  go_wp2_with fail
  refine (hT2 w1 (hw.below hB1)).mono ?_
  rintro e w2 ⟨rfl, hb2⟩
  have hB2 := hB1.trans (hb2.mono hB1.size)
  have hx2 := hx1.kept hb2
  clear hT2 hx1 hb2 hB1
  go_wp2_with fail
  refine (hT3 w2 (hw.below hB2)).mono ?_
  rintro e w3 ⟨rfl, hb3⟩
  have hB3 := hB2.trans (hb3.mono hB2.size)
  have hx3 := hx2.kept hb3
  clear hT3 hx2 hb3 hB2
  go_wp2_with fail
  refine (hT4 w3 (hw.below hB3)).mono ?_
  rintro e w4 ⟨rfl, hb4⟩
  have hB4 := hB3.trans (hb4.mono hB3.size)
  have hx4 := hx3.kept hb4
  clear hT4 hx3 hb4 hB3
  have fin : ∀ (W : World), Below w.heap.size w W → Bx W w.heap.size 27 [.int .i64 0, .int .u64 0, .int .u64 0, .slice none 0 0] → (W.cell? ⟨w.heap.size, 0, none⟩ = some (.int .i64 0) ∧ W.frozen? ⟨w.heap.size, 0, none⟩ = false ∧ (W.setCell ⟨w.heap.size, 0, none⟩ (.int .i64 0)).cell? ⟨w.heap.size, 1, none⟩ = some (.int .u64 0) ∧ (W.setCell ⟨w.heap.size, 0, none⟩ (.int .i64 0)).frozen? ⟨w.heap.size, 1, none⟩ = false ∧ _) := fun W _ h => h.store4 (.int .i64 0) (.int .u64 0) (.int .u64 0) (.slice none 0 0)
  by_cases hx0 : x4 = 0
  · subst hx0
    go_wp2_with fail
    refine (hTA w4 (hw.below hB4)).mono ?_
    rintro e w5 ⟨hyes, hno, hb5⟩
    have hB5 := hB4.trans (hb5.mono hB4.size)
    have hx5 := hx4.kept hb5
    clear hTA hx4 hb5
    obtain ⟨a0, f0, a1, f1, a2, f2, a3, f3, bR⟩ := fin w5 hB5 hx5
    have hB6 := below_store4 hB5 (B := w.heap.size) (Nat.le_refl _) (.int .i64 0) (.int .u64 0) (.int .u64 0) (.slice none 0 0)
    have y0 := bR.cell 0 (by simp)
    have y1 := bR.cell 1 (by simp)
    have y2 := bR.cell 2 (by simp)
    have y3 := bR.cell 3 (by simp)
    dsimp only [List.getElem_cons_zero, List.getElem_cons_succ] at y0 y1 y2 y3
    by_cases hk : tkE (hLs fv) r4 = 0
    · obtain ⟨v, rfl, hrow⟩ := hyes hk
      have hSh' := hSh hk
      obtain ⟨A, cc, rfl, hV, hn⟩ := row_form hrow
      clear hSh hyes hno
      rw [HL.out] at hrow hn ⊢
      by_cases hz : zv = 0
      · subst hz
        by_cases hr : (tkR (hLs fv) r4).size = 0
        · have HF : Hid (er = shE h) := Lib.hid (by rw [HTP.out]; simp [hk, hr])
          rw [ba_empty hr]
          have hy := Bx.new w5 27 [.int .i64 cv, .int .u64 sv, .int .u64 fv, .slice A h.l.length cc]
          have hx6 := hx5.alloc (.cells #[.int .i64 cv, .int .u64 sv, .int .u64 fv, .slice A h.l.length cc] 27)
          have hB6' := hB5.alloc hB5.size (.cells #[.int .i64 cv, .int .u64 sv, .int .u64 fv, .slice A h.l.length cc] 27)
          have hrow6 := hrow.alloc (.cells #[.int .i64 cv, .int .u64 sv, .int .u64 fv, .slice A h.l.length cc] 27)
          clear HTP hr hk a0 f0 a1 f1 a2 f2 a3 f3 bR hB6 y0 y1 y2 y3 hV hrow hB5 hx5
          go_wp2_with fail
          refine (hSh' A cc _).mono ?_
          rintro e w7 ⟨rfl, hb7⟩
          have hx7 := hx6.kept hb7
          have hy7 := hy.kept hb7
          have hB7 := hB6'.trans (hb7.mono hB6'.size)
          have hrow7 := rowKept hrow6 hb7
          have z0 := hy7.cell 0 (by simp)
          have z1 := hy7.cell 1 (by simp)
          have z2 := hy7.cell 2 (by simp)
          have z3 := hy7.cell 3 (by simp)
          dsimp only [List.getElem_cons_zero, List.getElem_cons_succ] at z0 z1 z2 z3
          clear hSh' hx6 hy hb7 hB6' hrow6
          by_cases hs0 : shE h = 0
          · rw [hs0]
            have HF0 : Hid (er = 0) := Lib.hid (by rw [HF.out, hs0])
            obtain ⟨a0, f0, a1, f1, a2, f2, a3, f3, bR⟩ := hx7.store4 (.int .i64 cv) (.int .u64 sv) (.int .u64 fv) (.slice A h.l.length cc)
            have hB8 := below_store4 hB7 (B := w.heap.size) (Nat.le_refl _) (.int .i64 cv) (.int .u64 sv) (.int .u64 fv) (.slice A h.l.length cc)
            have hV8 := vals_store4 hx7 (by decide) hrow7 ⟨cc, rfl⟩ (.int .i64 cv) (.int .u64 sv) (.int .u64 fv) (.slice A h.l.length cc)
            have HV8 := Lib.hid hV8
            have y0 := bR.cell 0 (by simp)
            have y1 := bR.cell 1 (by simp)
            have y2 := bR.cell 2 (by simp)
            have y3 := bR.cell 3 (by simp)
            dsimp only [List.getElem_cons_zero, List.getElem_cons_succ] at y0 y1 y2 y3
            clear hV8 hrow7 hB7 bR HF hs0
            go_wp2
            refine bodyPost_ret (v := .tuple #[encH h A cc, .int .i64 0]) ?_ rfl (.inl ⟨HF0.out, A, cc, rfl, by have hv := HV8.out; rw [← HC.out.2.2.2] at hv; exact hv, hn, hB8⟩)
            rw [results_ct rfl, encH, HC.out.1, HC.out.2.1, HC.out.2.2.1]
            simp [asAddr, Result.andThen, go_sem, y0, y1, y2, y3]
          · have ts : (shE h != 0) = true := by simpa using hs0
            obtain ⟨a0, f0, a1, f1, a2, f2, a3, f3, bR⟩ := fin w7 hB7 hx7
            have hB8 := below_store4 hB7 (B := w.heap.size) (Nat.le_refl _) (.int .i64 0) (.int .u64 0) (.int .u64 0) (.slice none 0 0)
            have y0 := bR.cell 0 (by simp)
            have y1 := bR.cell 1 (by simp)
            have y2 := bR.cell 2 (by simp)
            have y3 := bR.cell 3 (by simp)
            dsimp only [List.getElem_cons_zero, List.getElem_cons_succ] at y0 y1 y2 y3
            clear hrow7 hB7 bR
            go_wp2
            refine bodyPost_ret (v := .tuple #[noneH, .int .i64 (shE h)]) ?_ rfl (.inr ⟨by rw [HF.out]; exact hs0, by rw [HF.out], hB8⟩)
            rw [results_ct rfl]
            simp [asAddr, Result.andThen, go_sem, y0, y1, y2, y3, noneH]
        · have HF : Hid (er = 7) := Lib.hid (by rw [HTP.out]; simp only [hr, and_false, if_false, if_true])
          have tr := ba_ne hr
          generalize tkR (hLs fv) r4 = rr at *
          clear HTP hr hk hSh'
          go_wp2
          refine bodyPost_ret (v := .tuple #[noneH, .int .i64 7]) ?_ rfl (.inr ⟨by rw [HF.out]; decide, by rw [HF.out], hB6⟩)
          rw [results_ct rfl]
          simp [asAddr, Result.andThen, go_sem, y0, y1, y2, y3, noneH]
      · have HF : Hid (er = 7) := Lib.hid (by rw [HTP.out]; simp only [hz, and_false, false_and, if_false, if_true])
        have tz : (zv != 0) = true := by simpa using hz
        generalize tkR (hLs fv) r4 = rr at *
        clear HTP hz hk hSh'
        go_wp2
        refine bodyPost_ret (v := .tuple #[noneH, .int .i64 7]) ?_ rfl (.inr ⟨by rw [HF.out]; decide, by rw [HF.out], hB6⟩)
        rw [results_ct rfl]
        simp [asAddr, Result.andThen, go_sem, y0, y1, y2, y3, noneH]
    · have he := hno hk
      subst he
      have HF : Hid (er = 7) := Lib.hid (by rw [HTP.out]; simp only [hk, false_and, if_false, if_true])
      have t1 : (tkE (hLs fv) r4 != 0) = true := by simpa using hk
      generalize tkE (hLs fv) r4 = ke at *
      clear hyes hno hSh HTP hk
      go_wp2
      refine bodyPost_ret (v := .tuple #[noneH, .int .i64 7]) ?_ rfl (.inr ⟨by rw [HF.out]; decide, by rw [HF.out], hB6⟩)
      rw [results_ct rfl]
      simp [asAddr, Result.andThen, go_sem, y0, y1, y2, y3, noneH]
  · have HF : Hid (er = 7) := Lib.hid (by rw [HTP.out, if_neg hx0])
    have t4 : (x4 != 0) = true := by simpa using hx0
    clear HTP hx0 hTA hSh
    obtain ⟨a0, f0, a1, f1, a2, f2, a3, f3, bR⟩ := fin w4 hB4 hx4
    have hB6 := below_store4 hB4 (B := w.heap.size) (Nat.le_refl _) (.int .i64 0) (.int .u64 0) (.int .u64 0) (.slice none 0 0)
    have y0 := bR.cell 0 (by simp)
    have y1 := bR.cell 1 (by simp)
    have y2 := bR.cell 2 (by simp)
    have y3 := bR.cell 3 (by simp)
    dsimp only [List.getElem_cons_zero, List.getElem_cons_succ] at y0 y1 y2 y3
    go_wp2
    refine bodyPost_ret (v := .tuple #[noneH, .int .i64 7]) ?_ rfl (.inr ⟨by rw [HF.out]; decide, by rw [HF.out], hB6⟩)
    rw [results_ct rfl]
    simp [asAddr, Result.andThen, go_sem, y0, y1, y2, y3, noneH]
end Go.Proofs.YtllgkohgcicbhaaGreatDoor
