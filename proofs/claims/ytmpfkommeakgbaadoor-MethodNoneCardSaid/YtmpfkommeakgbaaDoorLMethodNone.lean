/-
  interchangelaw06.MethodNone answers true; nothing that was there is changed. Conditions: the table of widths is as its text lays it; the values lie in old memory, each number a uint64, each text shorter than 2^47 bytes.
-/
import Derived.Deep.RegionHeld3
import Derived.Deep.DeepCutAuto
import Derived.Test.YtmpfkommeakgbaaDoorRMWith
import Derived.Test.YtmpfkommeakgbaaDoorRSigO
namespace Go.Proofs.YtmpfkommeakgbaaDoor
open Go.RowKit

/-- an append to a row of one's own, nil or not, as a step of a region that draws its order -/
theorem step_append_any {P : Program} (w : World) {ops : Array Oper} {o : Oper} {a : Act} {K : Act → World → Prop} {Q : Exit → Act → World → Prop} {E : Prop} (hg : o.guard = none) (s x : Operand) (t : TypeId)
    (hop : o.op = Op.call { callee := Callee.builtin Builtin.append, args := #[s, x], argTypes := #[t, t] })
    (base : Nat) (e : TypeId) (i : TypeInfo) (z : Value) (size bytes : Nat) (h1 : P.underlying t = some (.slice e)) (h2 : P.info? e = some i) (h3 : i.zero = some z) (h4 : i.size = size) (h5 : i.bytes = bytes) (h6 : z.cells.size = size) (h7 : 0 < size)
    (v : Value) (k : Nat) (xs : List Value) (hs : a.eval s = v) (hown : w.ownsRow base e size v k xs) (A : Option Addr) (m c : Nat) (news : List Value) (hx : a.eval x = .slice A m c) (hn : news.length = m * size)
    (hA : ValsAt w A news) (hnone : A = none → m = 0 ∧ c = 0) (h1c : ∀ u ∈ news, u.oneCell' = true) (b1 : k + m ≤ maxLen) (b2 : (k + m) * bytes ≤ 140737488355328) (b3 : base ≤ w.heap.size)
    (hK : ∀ v' w', w'.ownsRow base e size v' (k + m) (xs ++ news) → w.grownBy w' v.ownBlock → K (a.put o.dst v') w') :
    if Region.wanted o (yielded ops a.tmps) = true then Oper.wp P o a w K Q else E := by
  rw [if_pos (by simp [Region.wanted, hg])]
  cases A with
  | none =>
    obtain ⟨rfl, rfl⟩ := hnone rfl
    have hn0 : news = [] := List.eq_nil_of_length_eq_zero (by omega)
    subst hn0
    have hrun := run_append_owned_none (P := P) (w := w) base t o.type e i size h1 h2 v k xs hown
    unfold Oper.wp
    simp [execOp, hop, resolve, invoke, builtin, hs, hx, hrun, Result.andThen]
    exact hK v w (by simpa using hown) ⟨rfl, rfl, rfl, Nat.le_refl _, fun _ _ _ => rfl⟩
  | some ad =>
    have hc : ∀ j u, news[j]? = some u → w.cell? (ad.add j) = some u := by
      intro j u hj
      obtain ⟨hlt, he⟩ := List.getElem?_eq_some_iff.1 hj
      obtain ⟨b, off, hab, -, hc⟩ := hA (by omega)
      cases hab
      have := hc j hlt
      rw [he] at this
      rw [Addr.add_mid]
      exact this
    obtain ⟨v', w', hrun, r1, r2, -⟩ := run_append_own (P := P) w base t o.type e i z size bytes h1 h2 h3 h4 h5 h6 h7 v k xs hown ad m c news hn hc h1c b1 b2 b3
    unfold Oper.wp
    simp [execOp, hop, resolve, invoke, builtin, hs, hx, hrun, Result.andThen]
    exact hK v' w' r1 r2

theorem own_zero {w : World} {b : Nat} {e : TypeId} {z : Nat} {v : Value} {n : Nat} {xs : List Value} (h : w.ownsRow b e z v (0 + n) ([] ++ xs)) : w.ownsRow b e z v n xs := by rwa [Nat.zero_add, List.nil_append] at h
theorem vals_drop {W : World} {b off : Nat} {l : List MV} (h : ValsAt W (some ⟨b, off, none⟩) (rowV l)) : ValsAt W (some ⟨b, off + 2, none⟩) (rowV (l.drop 1)) := by
  cases l with
  | nil => intro h0; simp [rowV] at h0
  | cons a l =>
    intro h0
    have e : rowV (a :: l) = .int .u64 a.n :: .string a.s :: rowV l := by simp [rowV, cellsV]
    obtain ⟨b', off', e1, hlt, hc⟩ := h (by rw [e]; simp)
    cases e1
    refine ⟨b, off + 2, rfl, hlt, fun i hi => ?_⟩
    have hi' : i + 2 < (rowV (a :: l)).length := by rw [e]; simp at hi ⊢; omega
    have := hc (i + 2) hi'
    rw [show off + 2 + i = off + (i + 2) by omega, this]
    congr 1
theorem vals_store2 {W : World} {nb : Nat} {t : TypeId} {C : Option Addr} {l : List MV} {x y : Int} {z : Option Addr} {z1 z2 : Nat} (hV : ValsAt W C (rowV l)) (hb : Bx W nb t [.int .i64 x, .int .i64 y, .slice z z1 z2]) (v0 v1 v2 : Value) :
    ValsAt (((W.setCell ⟨nb, 0, none⟩ v0).setCell ⟨nb, 1, none⟩ v1).setCell ⟨nb, 2, none⟩ v2) C (rowV l) := by
  intro h0
  obtain ⟨b, off, rfl, hlt, hc⟩ := hV h0
  have hne : b ≠ nb := by
    rintro rfl
    have h1 := hc 0 h0
    cases l with
    | nil => simp [rowV] at h0
    | cons a l =>
      have e : (rowV (a :: l))[0]'h0 = .int .u64 a.n := by simp [rowV, cellsV]
      rw [e] at h1
      simp only [World.cell?, show W.heap[b]? = _ from hb, Nat.add_zero] at h1
      match off, h1 with
      | 0, h1 => simp at h1
      | 1, h1 => simp at h1
      | 2, h1 => simp at h1
      | n + 3, h1 => simp at h1
  have hh : (((W.setCell ⟨nb, 0, none⟩ v0).setCell ⟨nb, 1, none⟩ v1).setCell ⟨nb, 2, none⟩ v2).heap[b]? = W.heap[b]? :=
    ((Below.heap_setCell _ ⟨nb, 2, none⟩ v2 b hne).trans (Below.heap_setCell _ ⟨nb, 1, none⟩ v1 b hne)).trans (Below.heap_setCell _ ⟨nb, 0, none⟩ v0 b hne)
  refine ⟨b, off, rfl, by simpa using hlt, fun i hi => ?_⟩
  rw [← hc i hi]
  simp only [World.cell?, hh]
theorem le_alloc {a : Nat} {w : World} (h : a ≤ w.heap.size) (o : Obj) : a ≤ (w.alloc o).heap.size := by rw [World.size_alloc]; exact Nat.le_succ_of_le h
theorem vals_pair_new (w : World) (x y : Value) (t : TypeId) : ValsAt (w.alloc (.cells #[x, y] t)) (some ⟨w.heap.size, 0, none⟩) [x, y] := fun _ => by
  refine ⟨w.heap.size, 0, rfl, by simp, fun i hi => ?_⟩
  rw [Nat.zero_add, World.cell?_alloc_new]
  match i, hi with
  | 0, _ => rfl
  | 1, _ => rfl

theorem rowV_snoc2 (l : List MV) (nn : Int) (ss : ByteArray) : rowV (l ++ [⟨nn, ss⟩]) = rowV l ++ [.int .u64 nn, .string ss] := rowV_snoc l ⟨nn, ss⟩
theorem bx_at {W : World} {g g' : Nat} {t : TypeId} {l : List Value} (h : Bx W g t l) (e : g = g') : Bx W g' t l := e ▸ h
theorem own_emptyAt {W : World} {g base : Nat} {e : TypeId} (h : Bx W g e []) (hb : base ≤ g) : W.ownsRow base e 2 (.slice (some ⟨g, 0, none⟩) 0 0) 0 [] :=
  ⟨by simp, .inr ⟨g, 0, #[], rfl, hb, h, Nat.le_refl _, Nat.zero_le _, by simp, by simp⟩⟩
theorem bx_grow2 {W W' : World} {p g : Nat} {t : TypeId} {l : List Value} (h : Bx W p t l) (hne : p ≠ g) (hg : W.grownBy W' (some g)) : Bx W' p t l :=
  (hg.block p h.lt (fun e => hne (Option.some.inj e))).trans h
theorem bx_own {W W' : World} {base p : Nat} {e t : TypeId} {size n : Nat} {v : Value} {xs l : List Value} (hrow : W.ownsRow base e size v n xs) (hg : W.grownBy W' v.ownBlock) (h : Bx W p t l) (ht : (t != e) = true) : Bx W' p t l :=
  Keeps.bx (p := fun x => x != e) (Keeps.grown hrow hg (by simp)) h ht
theorem vals_of_pair {W : World} {p : Nat} {t : TypeId} {x y : Value} (h : Bx W p t [x, y]) : ValsAt W (some ⟨p, 0, none⟩) [x, y] := fun _ => by
  refine ⟨p, 0, rfl, h.lt, fun i hi => ?_⟩
  rw [Nat.zero_add]
  exact h.cell i hi
theorem pair_P (w4 : World) (nn : Int) (ss : ByteArray) : ValsAt (w4.alloc (.cells #[.int .u64 nn, .string ss] 27)) (some ⟨w4.heap.size, 0, none⟩) [.int .u64 nn, .string ss] := vals_of_pair (bx_at (Bx.new w4 27 [.int .u64 nn, .string ss]) (by simp))
theorem pair_MP (w4 : World) (nn : Int) (ss : ByteArray) : ValsAt ((w4.alloc (.cells #[.int .i64 0, .int .i64 0, .slice none 0 0] 24)).alloc (.cells #[.int .u64 nn, .string ss] 27)) (some ⟨w4.heap.size + 1, 0, none⟩) [.int .u64 nn, .string ss] := vals_of_pair (bx_at (Bx.new (w4.alloc (.cells #[.int .i64 0, .int .i64 0, .slice none 0 0] 24)) 27 [.int .u64 nn, .string ss]) (by simp))
theorem pair_PM (w4 : World) (nn : Int) (ss : ByteArray) : ValsAt ((w4.alloc (.cells #[.int .u64 nn, .string ss] 27)).alloc (.cells #[.int .i64 0, .int .i64 0, .slice none 0 0] 24)) (some ⟨w4.heap.size, 0, none⟩) [.int .u64 nn, .string ss] := vals_of_pair (bx_at ((Bx.new w4 27 [.int .u64 nn, .string ss]).alloc (.cells #[.int .i64 0, .int .i64 0, .slice none 0 0] 24)) (by simp))
theorem mth_M (w4 : World) (_nn : Int) (_ss : ByteArray) : Bx (w4.alloc (.cells #[.int .i64 0, .int .i64 0, .slice none 0 0] 24)) (w4.heap.size) 24 [.int .i64 0, .int .i64 0, .slice none 0 0] := bx_at (Bx.new w4 24 [.int .i64 0, .int .i64 0, .slice none 0 0]) (by simp)
theorem mth_MP (w4 : World) (nn : Int) (ss : ByteArray) : Bx ((w4.alloc (.cells #[.int .i64 0, .int .i64 0, .slice none 0 0] 24)).alloc (.cells #[.int .u64 nn, .string ss] 27)) (w4.heap.size) 24 [.int .i64 0, .int .i64 0, .slice none 0 0] := bx_at ((Bx.new w4 24 [.int .i64 0, .int .i64 0, .slice none 0 0]).alloc (.cells #[.int .u64 nn, .string ss] 27)) (by simp)
theorem mth_PM (w4 : World) (nn : Int) (ss : ByteArray) : Bx ((w4.alloc (.cells #[.int .u64 nn, .string ss] 27)).alloc (.cells #[.int .i64 0, .int .i64 0, .slice none 0 0] 24)) (w4.heap.size + 1) 24 [.int .i64 0, .int .i64 0, .slice none 0 0] := bx_at (Bx.new (w4.alloc (.cells #[.int .u64 nn, .string ss] 27)) 24 [.int .i64 0, .int .i64 0, .slice none 0 0]) (by simp)

set_option maxRecDepth 100000 in
set_option maxHeartbeats 4000000 in
theorem methodNone_walk (m : Me) (A : Option Addr) (cap : Nat) (v : MV) (w : World) (hw : Wid w) (hA : ValsAt w A (rowV m.l)) (h0 : A = none → m.l.length = 0 ∧ cap = 0) (hcap : m.l.length ≤ cap) (hm : wfM m) (hv : wfV v) :
    Calls Tryd.prog 7 #[encM m A cap, encV v] w fun e w' => e = .returned (.bool true) ∧ Below w.heap.size w w' := by
  obtain ⟨i0, hi, hz0, hz1, hz2⟩ := info_partsV infoVal
  have hR := fun W hW h => mright_any m A cap W hW hm h
  have HP : Hid (mE m = 0 → sIs m.c m.i = true ∧ (sOf m.c m.i).size = m.l.length ∧ m.l.length ≤ 16) := Lib.hid (fun h => by
    obtain ⟨h1, h2, -⟩ := mE_parts h
    exact ⟨h1, h2, by rw [← h2]; exact (met_facts h1).2.1⟩)
  have HK : Hid (mE m = 0 → mE ⟨m.c, m.i, m.l ++ [v]⟩ = 7) := Lib.hid (fun h => by
    obtain ⟨h1, h2, -⟩ := mE_parts h
    rw [mE, if_pos h1, if_neg (by dsimp only; rw [List.length_append, h2]; simp)])
  have HN : Hid (mE m = 0 → m.l ≠ [] → mE ⟨m.c, m.i, m.l.drop 1⟩ = 7) := Lib.hid (fun h hne => by
    obtain ⟨h1, h2, -⟩ := mE_parts h
    have : 0 < m.l.length := List.length_pos_iff.2 hne
    rw [mE, if_pos h1, if_neg (by dsimp only; rw [List.length_drop, h2]; omega)])
  have hRk := fun B cb W hW h => mright_any ⟨m.c, m.i, m.l ++ [v]⟩ B cb W hW (fun u hu => by
    rcases List.mem_append.1 hu with hu | hu
    · exact hm u hu
    · rw [List.mem_singleton.1 hu]; exact hv) h
  have hRn := fun B cb W hW h => mright_any ⟨m.c, m.i, m.l.drop 1⟩ B cb W hW (fun u hu => hm u (List.mem_of_mem_drop hu)) h
  have hOf := fun W => rof_any m.c m.i W
  generalize hE1 : mE m = e1 at hR HP HK HN
  clear hE1
  obtain ⟨c, j, l⟩ := m
  obtain ⟨nn, ss⟩ := v
  dsimp only at hA h0 hcap hR HP HK HN hRk hRn hOf
  simp only [encM, encV] at hR hRk hRn ⊢
  obtain ⟨W0, hW0⟩ : ∃ W0, W0 = (w.alloc (.cells #[.int .i64 c, .int .i64 j, .slice A l.length cap] 24)).alloc (.cells #[.int .u64 nn, .string ss] 27) := ⟨_, rfl⟩
  have hb0 : Below w.heap.size w W0 := by rw [hW0]; exact ((Below.refl _ w).alloc (Nat.le_refl _) _).alloc (by simp) _
  have hx : Bx W0 w.heap.size 24 [.int .i64 c, .int .i64 j, .slice A l.length cap] := by rw [hW0]; exact (Bx.new w 24 [.int .i64 c, .int .i64 j, .slice A l.length cap]).alloc _
  have hy : Bx W0 (w.heap.size + 1) 27 [.int .u64 nn, .string ss] := by
    have h := Bx.new (w.alloc (.cells #[.int .i64 c, .int .i64 j, .slice A l.length cap] 24)) 27 [.int .u64 nn, .string ss]
    rw [World.size_alloc] at h
    rw [hW0]
    exact h
  have hSh := mshown_any W0 (hw.below hb0)
  go_enter Tryd.func7, Tryd.ntmps7
  go_wp2_with fail
  rw [← hW0]
  refine hSh.mono ?_
  rintro e w1 ⟨rfl, hb1⟩
  have hB1 := hb0.trans (hb1.mono hb0.size)
  have hx1 := hx.kept hb1
  have hy1 := hy.kept hb1
  have x0 := hx1.cell 0 (by simp)
  have x1 := hx1.cell 1 (by simp)
  have x2 := hx1.cell 2 (by simp)
  dsimp only [List.getElem_cons_zero, List.getElem_cons_succ] at x0 x1 x2
  clear hSh hb0 hb1 hx hy hW0
  go_wp2_with fail
  refine (hR w1 (hw.below hB1) (hA.below hB1)).mono ?_
  rintro e w2 ⟨rfl, hb2⟩
  have hB2 := hB1.trans (hb2.mono hB1.size)
  have hx2 := hx1.kept hb2
  have hy2 := hy1.kept hb2
  clear hR hB1 hb2 hx1 hy1 x0 x1 x2
  by_cases he : e1 = 0
  · obtain ⟨p1, p2, p3⟩ := HP.out he
    have pk := HK.out he
    have HN2 := Lib.hid (HN.out he)
    subst he
    rw [p1] at hOf
    rw [pk] at hRk
    have HL := Lib.hid p2
    generalize sOf c j = L at hOf HL
    have x0 := hx2.cell 0 (by simp)
    have x1 := hx2.cell 1 (by simp)
    dsimp only [List.getElem_cons_zero, List.getElem_cons_succ] at x0 x1
    clear HP HK HN p1 p2 pk
    go_wp2_with fail
    refine (hOf w2).mono ?_
    rintro e w3 ⟨rfl, hb3⟩
    have hB3 := hB2.trans (hb3.mono hB2.size)
    have hx3 := hx2.kept hb3
    have hy3 := hy2.kept hb3
    have hA3 := hA.below hB3
    have keep : ∀ w', Below w3.heap.size w3 w' → w'.cell? ⟨w.heap.size, 0, none⟩ = some (.int .i64 c) ∧ w'.cell? ⟨w.heap.size, 1, none⟩ = some (.int .i64 j) ∧ w'.cell? ⟨w.heap.size, 2, none⟩ = some (.slice A l.length cap) ∧ w'.cell? ⟨w.heap.size + 1, 0, none⟩ = some (.int .u64 nn) ∧ w'.cell? ⟨w.heap.size + 1, 1, none⟩ = some (.string ss) := fun w' h => ⟨(hx3.kept h).cell 0 (by simp), (hx3.kept h).cell 1 (by simp), (hx3.kept h).cell 2 (by simp), (hy3.kept h).cell 0 (by simp), (hy3.kept h).cell 1 (by simp)⟩
    obtain ⟨q0, q1, q2, q3, q4⟩ := keep w3 (Below.refl _ _)
    have hrl := Lib.hid (rowV_length l)
    have h1c := Lib.hid (rowV_one l)
    have hA4 : Hid (ValsAt (w3.drew.alloc (.cells #[] 27)) A (rowV l)) := Lib.hid (hA3.below ((Below.refl _ w3).drew.alloc (Nat.le_refl _) _))
    have bk1 : 0 + l.length ≤ maxLen := by unfold maxLen; omega
    have bk2 : (0 + l.length) * 24 ≤ 140737488355328 := by omega
    have bk3 : l.length + 1 ≤ maxLen := by unfold maxLen; omega
    have bk4 : (l.length + 1) * 24 ≤ 140737488355328 := by omega
    have h2c := Lib.hid (rowV_one [⟨nn, ss⟩])
    have hsz0 : w3.heap.size ≤ (w3.drew.alloc (.cells #[] 27)).heap.size := le_alloc (Nat.le_refl _) _
    clear hOf hB2 hb3 hx2 hy2 x0 x1
    have HB : Hid ((w3.drew.alloc (.cells #[] 27)).ownsRow w3.heap.size 27 2 (.slice (some ⟨w3.heap.size, 0, none⟩) 0 0) 0 [] ∧ ValsAt (w3.drew.alloc (.cells #[] 27)) A (rowV l) ∧ Below w3.heap.size w3 (w3.drew.alloc (.cells #[] 27))) := Lib.hid (by
      have hbl : Below w3.heap.size w3 (w3.drew.alloc (.cells #[] 27)) := ((Below.refl _ w3).drew.alloc (Nat.le_refl _) (.cells #[] 27))
      exact ⟨own_emptyAt (bx_at (Bx.new w3.drew 27 []) (by simp)) (by omega), hA3.below hbl, hbl⟩)
    have HBP : Hid (((w3.drew.alloc (.cells #[] 27)).alloc (.cells #[.int .u64 nn, .string ss] 27)).ownsRow w3.heap.size 27 2 (.slice (some ⟨w3.heap.size, 0, none⟩) 0 0) 0 [] ∧ ValsAt ((w3.drew.alloc (.cells #[] 27)).alloc (.cells #[.int .u64 nn, .string ss] 27)) A (rowV l) ∧ Below w3.heap.size w3 ((w3.drew.alloc (.cells #[] 27)).alloc (.cells #[.int .u64 nn, .string ss] 27)) ∧ (Bx ((w3.drew.alloc (.cells #[] 27)).alloc (.cells #[.int .u64 nn, .string ss] 27)) (w3.heap.size + 1) 27 [.int .u64 nn, .string ss] ∧ w3.heap.size + 1 ≠ w3.heap.size)) := Lib.hid (by
      have hbl : Below w3.heap.size w3 ((w3.drew.alloc (.cells #[] 27)).alloc (.cells #[.int .u64 nn, .string ss] 27)) := (((Below.refl _ w3).drew.alloc (Nat.le_refl _) (.cells #[] 27)).alloc (by simp <;> omega) (.cells #[.int .u64 nn, .string ss] 27))
      exact ⟨own_emptyAt (bx_at ((Bx.new w3.drew 27 []).alloc (.cells #[.int .u64 nn, .string ss] 27)) (by simp)) (by omega), hA3.below hbl, hbl, ⟨bx_at (Bx.new (w3.drew.alloc (.cells #[] 27)) 27 [.int .u64 nn, .string ss]) (by simp), by omega⟩⟩)
    have HBM : Hid (((w3.drew.alloc (.cells #[] 27)).alloc (.cells #[.int .i64 0, .int .i64 0, .slice none 0 0] 24)).ownsRow w3.heap.size 27 2 (.slice (some ⟨w3.heap.size, 0, none⟩) 0 0) 0 [] ∧ ValsAt ((w3.drew.alloc (.cells #[] 27)).alloc (.cells #[.int .i64 0, .int .i64 0, .slice none 0 0] 24)) A (rowV l) ∧ Below w3.heap.size w3 ((w3.drew.alloc (.cells #[] 27)).alloc (.cells #[.int .i64 0, .int .i64 0, .slice none 0 0] 24)) ∧ (Bx ((w3.drew.alloc (.cells #[] 27)).alloc (.cells #[.int .i64 0, .int .i64 0, .slice none 0 0] 24)) (w3.heap.size + 1) 24 [.int .i64 0, .int .i64 0, .slice none 0 0] ∧ w3.heap.size + 1 ≠ w3.heap.size ∧ w3.heap.size ≤ w3.heap.size + 1)) := Lib.hid (by
      have hbl : Below w3.heap.size w3 ((w3.drew.alloc (.cells #[] 27)).alloc (.cells #[.int .i64 0, .int .i64 0, .slice none 0 0] 24)) := (((Below.refl _ w3).drew.alloc (Nat.le_refl _) (.cells #[] 27)).alloc (by simp <;> omega) (.cells #[.int .i64 0, .int .i64 0, .slice none 0 0] 24))
      exact ⟨own_emptyAt (bx_at ((Bx.new w3.drew 27 []).alloc (.cells #[.int .i64 0, .int .i64 0, .slice none 0 0] 24)) (by simp)) (by omega), hA3.below hbl, hbl, ⟨bx_at (Bx.new (w3.drew.alloc (.cells #[] 27)) 24 [.int .i64 0, .int .i64 0, .slice none 0 0]) (by simp), by omega, by omega⟩⟩)
    have HPB : Hid (((w3.drew.alloc (.cells #[.int .u64 nn, .string ss] 27)).alloc (.cells #[] 27)).ownsRow w3.heap.size 27 2 (.slice (some ⟨w3.heap.size + 1, 0, none⟩) 0 0) 0 [] ∧ ValsAt ((w3.drew.alloc (.cells #[.int .u64 nn, .string ss] 27)).alloc (.cells #[] 27)) A (rowV l) ∧ Below w3.heap.size w3 ((w3.drew.alloc (.cells #[.int .u64 nn, .string ss] 27)).alloc (.cells #[] 27)) ∧ (Bx ((w3.drew.alloc (.cells #[.int .u64 nn, .string ss] 27)).alloc (.cells #[] 27)) (w3.heap.size) 27 [.int .u64 nn, .string ss] ∧ w3.heap.size ≠ w3.heap.size + 1)) := Lib.hid (by
      have hbl : Below w3.heap.size w3 ((w3.drew.alloc (.cells #[.int .u64 nn, .string ss] 27)).alloc (.cells #[] 27)) := (((Below.refl _ w3).drew.alloc (Nat.le_refl _) (.cells #[.int .u64 nn, .string ss] 27)).alloc (by simp <;> omega) (.cells #[] 27))
      exact ⟨own_emptyAt (bx_at (Bx.new (w3.drew.alloc (.cells #[.int .u64 nn, .string ss] 27)) 27 []) (by simp)) (by omega), hA3.below hbl, hbl, ⟨bx_at ((Bx.new w3.drew 27 [.int .u64 nn, .string ss]).alloc (.cells #[] 27)) (by simp), by omega⟩⟩)
    have HMB : Hid (((w3.drew.alloc (.cells #[.int .i64 0, .int .i64 0, .slice none 0 0] 24)).alloc (.cells #[] 27)).ownsRow w3.heap.size 27 2 (.slice (some ⟨w3.heap.size + 1, 0, none⟩) 0 0) 0 [] ∧ ValsAt ((w3.drew.alloc (.cells #[.int .i64 0, .int .i64 0, .slice none 0 0] 24)).alloc (.cells #[] 27)) A (rowV l) ∧ Below w3.heap.size w3 ((w3.drew.alloc (.cells #[.int .i64 0, .int .i64 0, .slice none 0 0] 24)).alloc (.cells #[] 27)) ∧ (Bx ((w3.drew.alloc (.cells #[.int .i64 0, .int .i64 0, .slice none 0 0] 24)).alloc (.cells #[] 27)) (w3.heap.size) 24 [.int .i64 0, .int .i64 0, .slice none 0 0] ∧ w3.heap.size ≠ w3.heap.size + 1 ∧ w3.heap.size ≤ w3.heap.size)) := Lib.hid (by
      have hbl : Below w3.heap.size w3 ((w3.drew.alloc (.cells #[.int .i64 0, .int .i64 0, .slice none 0 0] 24)).alloc (.cells #[] 27)) := (((Below.refl _ w3).drew.alloc (Nat.le_refl _) (.cells #[.int .i64 0, .int .i64 0, .slice none 0 0] 24)).alloc (by simp <;> omega) (.cells #[] 27))
      exact ⟨own_emptyAt (bx_at (Bx.new (w3.drew.alloc (.cells #[.int .i64 0, .int .i64 0, .slice none 0 0] 24)) 27 []) (by simp)) (by omega), hA3.below hbl, hbl, ⟨bx_at ((Bx.new w3.drew 24 [.int .i64 0, .int .i64 0, .slice none 0 0]).alloc (.cells #[] 27)) (by simp), by omega, by omega⟩⟩)
    have HBPM : Hid ((((w3.drew.alloc (.cells #[] 27)).alloc (.cells #[.int .u64 nn, .string ss] 27)).alloc (.cells #[.int .i64 0, .int .i64 0, .slice none 0 0] 24)).ownsRow w3.heap.size 27 2 (.slice (some ⟨w3.heap.size, 0, none⟩) 0 0) 0 [] ∧ ValsAt (((w3.drew.alloc (.cells #[] 27)).alloc (.cells #[.int .u64 nn, .string ss] 27)).alloc (.cells #[.int .i64 0, .int .i64 0, .slice none 0 0] 24)) A (rowV l) ∧ Below w3.heap.size w3 (((w3.drew.alloc (.cells #[] 27)).alloc (.cells #[.int .u64 nn, .string ss] 27)).alloc (.cells #[.int .i64 0, .int .i64 0, .slice none 0 0] 24)) ∧ (Bx (((w3.drew.alloc (.cells #[] 27)).alloc (.cells #[.int .u64 nn, .string ss] 27)).alloc (.cells #[.int .i64 0, .int .i64 0, .slice none 0 0] 24)) (w3.heap.size + 1) 27 [.int .u64 nn, .string ss] ∧ w3.heap.size + 1 ≠ w3.heap.size) ∧ (Bx (((w3.drew.alloc (.cells #[] 27)).alloc (.cells #[.int .u64 nn, .string ss] 27)).alloc (.cells #[.int .i64 0, .int .i64 0, .slice none 0 0] 24)) (w3.heap.size + 1 + 1) 24 [.int .i64 0, .int .i64 0, .slice none 0 0] ∧ w3.heap.size + 1 + 1 ≠ w3.heap.size ∧ w3.heap.size ≤ w3.heap.size + 1 + 1)) := Lib.hid (by
      have hbl : Below w3.heap.size w3 (((w3.drew.alloc (.cells #[] 27)).alloc (.cells #[.int .u64 nn, .string ss] 27)).alloc (.cells #[.int .i64 0, .int .i64 0, .slice none 0 0] 24)) := ((((Below.refl _ w3).drew.alloc (Nat.le_refl _) (.cells #[] 27)).alloc (by simp <;> omega) (.cells #[.int .u64 nn, .string ss] 27)).alloc (by simp <;> omega) (.cells #[.int .i64 0, .int .i64 0, .slice none 0 0] 24))
      exact ⟨own_emptyAt (bx_at (((Bx.new w3.drew 27 []).alloc (.cells #[.int .u64 nn, .string ss] 27)).alloc (.cells #[.int .i64 0, .int .i64 0, .slice none 0 0] 24)) (by simp)) (by omega), hA3.below hbl, hbl, ⟨bx_at ((Bx.new (w3.drew.alloc (.cells #[] 27)) 27 [.int .u64 nn, .string ss]).alloc (.cells #[.int .i64 0, .int .i64 0, .slice none 0 0] 24)) (by simp), by omega⟩, ⟨bx_at (Bx.new ((w3.drew.alloc (.cells #[] 27)).alloc (.cells #[.int .u64 nn, .string ss] 27)) 24 [.int .i64 0, .int .i64 0, .slice none 0 0]) (by simp), by omega, by omega⟩⟩)
    have HBMP : Hid ((((w3.drew.alloc (.cells #[] 27)).alloc (.cells #[.int .i64 0, .int .i64 0, .slice none 0 0] 24)).alloc (.cells #[.int .u64 nn, .string ss] 27)).ownsRow w3.heap.size 27 2 (.slice (some ⟨w3.heap.size, 0, none⟩) 0 0) 0 [] ∧ ValsAt (((w3.drew.alloc (.cells #[] 27)).alloc (.cells #[.int .i64 0, .int .i64 0, .slice none 0 0] 24)).alloc (.cells #[.int .u64 nn, .string ss] 27)) A (rowV l) ∧ Below w3.heap.size w3 (((w3.drew.alloc (.cells #[] 27)).alloc (.cells #[.int .i64 0, .int .i64 0, .slice none 0 0] 24)).alloc (.cells #[.int .u64 nn, .string ss] 27)) ∧ (Bx (((w3.drew.alloc (.cells #[] 27)).alloc (.cells #[.int .i64 0, .int .i64 0, .slice none 0 0] 24)).alloc (.cells #[.int .u64 nn, .string ss] 27)) (w3.heap.size + 1 + 1) 27 [.int .u64 nn, .string ss] ∧ w3.heap.size + 1 + 1 ≠ w3.heap.size) ∧ (Bx (((w3.drew.alloc (.cells #[] 27)).alloc (.cells #[.int .i64 0, .int .i64 0, .slice none 0 0] 24)).alloc (.cells #[.int .u64 nn, .string ss] 27)) (w3.heap.size + 1) 24 [.int .i64 0, .int .i64 0, .slice none 0 0] ∧ w3.heap.size + 1 ≠ w3.heap.size ∧ w3.heap.size ≤ w3.heap.size + 1)) := Lib.hid (by
      have hbl : Below w3.heap.size w3 (((w3.drew.alloc (.cells #[] 27)).alloc (.cells #[.int .i64 0, .int .i64 0, .slice none 0 0] 24)).alloc (.cells #[.int .u64 nn, .string ss] 27)) := ((((Below.refl _ w3).drew.alloc (Nat.le_refl _) (.cells #[] 27)).alloc (by simp <;> omega) (.cells #[.int .i64 0, .int .i64 0, .slice none 0 0] 24)).alloc (by simp <;> omega) (.cells #[.int .u64 nn, .string ss] 27))
      exact ⟨own_emptyAt (bx_at (((Bx.new w3.drew 27 []).alloc (.cells #[.int .i64 0, .int .i64 0, .slice none 0 0] 24)).alloc (.cells #[.int .u64 nn, .string ss] 27)) (by simp)) (by omega), hA3.below hbl, hbl, ⟨bx_at (Bx.new ((w3.drew.alloc (.cells #[] 27)).alloc (.cells #[.int .i64 0, .int .i64 0, .slice none 0 0] 24)) 27 [.int .u64 nn, .string ss]) (by simp), by omega⟩, ⟨bx_at ((Bx.new (w3.drew.alloc (.cells #[] 27)) 24 [.int .i64 0, .int .i64 0, .slice none 0 0]).alloc (.cells #[.int .u64 nn, .string ss] 27)) (by simp), by omega, by omega⟩⟩)
    have HPBM : Hid ((((w3.drew.alloc (.cells #[.int .u64 nn, .string ss] 27)).alloc (.cells #[] 27)).alloc (.cells #[.int .i64 0, .int .i64 0, .slice none 0 0] 24)).ownsRow w3.heap.size 27 2 (.slice (some ⟨w3.heap.size + 1, 0, none⟩) 0 0) 0 [] ∧ ValsAt (((w3.drew.alloc (.cells #[.int .u64 nn, .string ss] 27)).alloc (.cells #[] 27)).alloc (.cells #[.int .i64 0, .int .i64 0, .slice none 0 0] 24)) A (rowV l) ∧ Below w3.heap.size w3 (((w3.drew.alloc (.cells #[.int .u64 nn, .string ss] 27)).alloc (.cells #[] 27)).alloc (.cells #[.int .i64 0, .int .i64 0, .slice none 0 0] 24)) ∧ (Bx (((w3.drew.alloc (.cells #[.int .u64 nn, .string ss] 27)).alloc (.cells #[] 27)).alloc (.cells #[.int .i64 0, .int .i64 0, .slice none 0 0] 24)) (w3.heap.size) 27 [.int .u64 nn, .string ss] ∧ w3.heap.size ≠ w3.heap.size + 1) ∧ (Bx (((w3.drew.alloc (.cells #[.int .u64 nn, .string ss] 27)).alloc (.cells #[] 27)).alloc (.cells #[.int .i64 0, .int .i64 0, .slice none 0 0] 24)) (w3.heap.size + 1 + 1) 24 [.int .i64 0, .int .i64 0, .slice none 0 0] ∧ w3.heap.size + 1 + 1 ≠ w3.heap.size + 1 ∧ w3.heap.size ≤ w3.heap.size + 1 + 1)) := Lib.hid (by
      have hbl : Below w3.heap.size w3 (((w3.drew.alloc (.cells #[.int .u64 nn, .string ss] 27)).alloc (.cells #[] 27)).alloc (.cells #[.int .i64 0, .int .i64 0, .slice none 0 0] 24)) := ((((Below.refl _ w3).drew.alloc (Nat.le_refl _) (.cells #[.int .u64 nn, .string ss] 27)).alloc (by simp <;> omega) (.cells #[] 27)).alloc (by simp <;> omega) (.cells #[.int .i64 0, .int .i64 0, .slice none 0 0] 24))
      exact ⟨own_emptyAt (bx_at ((Bx.new (w3.drew.alloc (.cells #[.int .u64 nn, .string ss] 27)) 27 []).alloc (.cells #[.int .i64 0, .int .i64 0, .slice none 0 0] 24)) (by simp)) (by omega), hA3.below hbl, hbl, ⟨bx_at (((Bx.new w3.drew 27 [.int .u64 nn, .string ss]).alloc (.cells #[] 27)).alloc (.cells #[.int .i64 0, .int .i64 0, .slice none 0 0] 24)) (by simp), by omega⟩, ⟨bx_at (Bx.new ((w3.drew.alloc (.cells #[.int .u64 nn, .string ss] 27)).alloc (.cells #[] 27)) 24 [.int .i64 0, .int .i64 0, .slice none 0 0]) (by simp), by omega, by omega⟩⟩)
    have HPMB : Hid ((((w3.drew.alloc (.cells #[.int .u64 nn, .string ss] 27)).alloc (.cells #[.int .i64 0, .int .i64 0, .slice none 0 0] 24)).alloc (.cells #[] 27)).ownsRow w3.heap.size 27 2 (.slice (some ⟨w3.heap.size + 1 + 1, 0, none⟩) 0 0) 0 [] ∧ ValsAt (((w3.drew.alloc (.cells #[.int .u64 nn, .string ss] 27)).alloc (.cells #[.int .i64 0, .int .i64 0, .slice none 0 0] 24)).alloc (.cells #[] 27)) A (rowV l) ∧ Below w3.heap.size w3 (((w3.drew.alloc (.cells #[.int .u64 nn, .string ss] 27)).alloc (.cells #[.int .i64 0, .int .i64 0, .slice none 0 0] 24)).alloc (.cells #[] 27)) ∧ (Bx (((w3.drew.alloc (.cells #[.int .u64 nn, .string ss] 27)).alloc (.cells #[.int .i64 0, .int .i64 0, .slice none 0 0] 24)).alloc (.cells #[] 27)) (w3.heap.size) 27 [.int .u64 nn, .string ss] ∧ w3.heap.size ≠ w3.heap.size + 1 + 1) ∧ (Bx (((w3.drew.alloc (.cells #[.int .u64 nn, .string ss] 27)).alloc (.cells #[.int .i64 0, .int .i64 0, .slice none 0 0] 24)).alloc (.cells #[] 27)) (w3.heap.size + 1) 24 [.int .i64 0, .int .i64 0, .slice none 0 0] ∧ w3.heap.size + 1 ≠ w3.heap.size + 1 + 1 ∧ w3.heap.size ≤ w3.heap.size + 1)) := Lib.hid (by
      have hbl : Below w3.heap.size w3 (((w3.drew.alloc (.cells #[.int .u64 nn, .string ss] 27)).alloc (.cells #[.int .i64 0, .int .i64 0, .slice none 0 0] 24)).alloc (.cells #[] 27)) := ((((Below.refl _ w3).drew.alloc (Nat.le_refl _) (.cells #[.int .u64 nn, .string ss] 27)).alloc (by simp <;> omega) (.cells #[.int .i64 0, .int .i64 0, .slice none 0 0] 24)).alloc (by simp <;> omega) (.cells #[] 27))
      exact ⟨own_emptyAt (bx_at (Bx.new ((w3.drew.alloc (.cells #[.int .u64 nn, .string ss] 27)).alloc (.cells #[.int .i64 0, .int .i64 0, .slice none 0 0] 24)) 27 []) (by simp)) (by omega), hA3.below hbl, hbl, ⟨bx_at (((Bx.new w3.drew 27 [.int .u64 nn, .string ss]).alloc (.cells #[.int .i64 0, .int .i64 0, .slice none 0 0] 24)).alloc (.cells #[] 27)) (by simp), by omega⟩, ⟨bx_at ((Bx.new (w3.drew.alloc (.cells #[.int .u64 nn, .string ss] 27)) 24 [.int .i64 0, .int .i64 0, .slice none 0 0]).alloc (.cells #[] 27)) (by simp), by omega, by omega⟩⟩)
    have HMBP : Hid ((((w3.drew.alloc (.cells #[.int .i64 0, .int .i64 0, .slice none 0 0] 24)).alloc (.cells #[] 27)).alloc (.cells #[.int .u64 nn, .string ss] 27)).ownsRow w3.heap.size 27 2 (.slice (some ⟨w3.heap.size + 1, 0, none⟩) 0 0) 0 [] ∧ ValsAt (((w3.drew.alloc (.cells #[.int .i64 0, .int .i64 0, .slice none 0 0] 24)).alloc (.cells #[] 27)).alloc (.cells #[.int .u64 nn, .string ss] 27)) A (rowV l) ∧ Below w3.heap.size w3 (((w3.drew.alloc (.cells #[.int .i64 0, .int .i64 0, .slice none 0 0] 24)).alloc (.cells #[] 27)).alloc (.cells #[.int .u64 nn, .string ss] 27)) ∧ (Bx (((w3.drew.alloc (.cells #[.int .i64 0, .int .i64 0, .slice none 0 0] 24)).alloc (.cells #[] 27)).alloc (.cells #[.int .u64 nn, .string ss] 27)) (w3.heap.size + 1 + 1) 27 [.int .u64 nn, .string ss] ∧ w3.heap.size + 1 + 1 ≠ w3.heap.size + 1) ∧ (Bx (((w3.drew.alloc (.cells #[.int .i64 0, .int .i64 0, .slice none 0 0] 24)).alloc (.cells #[] 27)).alloc (.cells #[.int .u64 nn, .string ss] 27)) (w3.heap.size) 24 [.int .i64 0, .int .i64 0, .slice none 0 0] ∧ w3.heap.size ≠ w3.heap.size + 1 ∧ w3.heap.size ≤ w3.heap.size)) := Lib.hid (by
      have hbl : Below w3.heap.size w3 (((w3.drew.alloc (.cells #[.int .i64 0, .int .i64 0, .slice none 0 0] 24)).alloc (.cells #[] 27)).alloc (.cells #[.int .u64 nn, .string ss] 27)) := ((((Below.refl _ w3).drew.alloc (Nat.le_refl _) (.cells #[.int .i64 0, .int .i64 0, .slice none 0 0] 24)).alloc (by simp <;> omega) (.cells #[] 27)).alloc (by simp <;> omega) (.cells #[.int .u64 nn, .string ss] 27))
      exact ⟨own_emptyAt (bx_at ((Bx.new (w3.drew.alloc (.cells #[.int .i64 0, .int .i64 0, .slice none 0 0] 24)) 27 []).alloc (.cells #[.int .u64 nn, .string ss] 27)) (by simp)) (by omega), hA3.below hbl, hbl, ⟨bx_at (Bx.new ((w3.drew.alloc (.cells #[.int .i64 0, .int .i64 0, .slice none 0 0] 24)).alloc (.cells #[] 27)) 27 [.int .u64 nn, .string ss]) (by simp), by omega⟩, ⟨bx_at (((Bx.new w3.drew 24 [.int .i64 0, .int .i64 0, .slice none 0 0]).alloc (.cells #[] 27)).alloc (.cells #[.int .u64 nn, .string ss] 27)) (by simp), by omega, by omega⟩⟩)
    have HMPB : Hid ((((w3.drew.alloc (.cells #[.int .i64 0, .int .i64 0, .slice none 0 0] 24)).alloc (.cells #[.int .u64 nn, .string ss] 27)).alloc (.cells #[] 27)).ownsRow w3.heap.size 27 2 (.slice (some ⟨w3.heap.size + 1 + 1, 0, none⟩) 0 0) 0 [] ∧ ValsAt (((w3.drew.alloc (.cells #[.int .i64 0, .int .i64 0, .slice none 0 0] 24)).alloc (.cells #[.int .u64 nn, .string ss] 27)).alloc (.cells #[] 27)) A (rowV l) ∧ Below w3.heap.size w3 (((w3.drew.alloc (.cells #[.int .i64 0, .int .i64 0, .slice none 0 0] 24)).alloc (.cells #[.int .u64 nn, .string ss] 27)).alloc (.cells #[] 27)) ∧ (Bx (((w3.drew.alloc (.cells #[.int .i64 0, .int .i64 0, .slice none 0 0] 24)).alloc (.cells #[.int .u64 nn, .string ss] 27)).alloc (.cells #[] 27)) (w3.heap.size + 1) 27 [.int .u64 nn, .string ss] ∧ w3.heap.size + 1 ≠ w3.heap.size + 1 + 1) ∧ (Bx (((w3.drew.alloc (.cells #[.int .i64 0, .int .i64 0, .slice none 0 0] 24)).alloc (.cells #[.int .u64 nn, .string ss] 27)).alloc (.cells #[] 27)) (w3.heap.size) 24 [.int .i64 0, .int .i64 0, .slice none 0 0] ∧ w3.heap.size ≠ w3.heap.size + 1 + 1 ∧ w3.heap.size ≤ w3.heap.size)) := Lib.hid (by
      have hbl : Below w3.heap.size w3 (((w3.drew.alloc (.cells #[.int .i64 0, .int .i64 0, .slice none 0 0] 24)).alloc (.cells #[.int .u64 nn, .string ss] 27)).alloc (.cells #[] 27)) := ((((Below.refl _ w3).drew.alloc (Nat.le_refl _) (.cells #[.int .i64 0, .int .i64 0, .slice none 0 0] 24)).alloc (by simp <;> omega) (.cells #[.int .u64 nn, .string ss] 27)).alloc (by simp <;> omega) (.cells #[] 27))
      exact ⟨own_emptyAt (bx_at (Bx.new ((w3.drew.alloc (.cells #[.int .i64 0, .int .i64 0, .slice none 0 0] 24)).alloc (.cells #[.int .u64 nn, .string ss] 27)) 27 []) (by simp)) (by omega), hA3.below hbl, hbl, ⟨bx_at ((Bx.new (w3.drew.alloc (.cells #[.int .i64 0, .int .i64 0, .slice none 0 0] 24)) 27 [.int .u64 nn, .string ss]).alloc (.cells #[] 27)) (by simp), by omega⟩, ⟨bx_at (((Bx.new w3.drew 24 [.int .i64 0, .int .i64 0, .slice none 0 0]).alloc (.cells #[.int .u64 nn, .string ss] 27)).alloc (.cells #[] 27)) (by simp), by omega, by omega⟩⟩)
    have tmv : (24 != 27) = true := by decide
    go_wp2_with fail
    go_cut [8] (fun p wx => ∃ nb C cc, p = .pointer (some ⟨nb, 0, none⟩) ∧ Bx wx nb 24 [.int .i64 c, .int .i64 j, .slice C (l.length + 1) cc] ∧ ValsAt wx C (rowV (l ++ [⟨nn, ss⟩])) ∧ Below w3.heap.size w3 wx)
    case first =>
      go_region_held3 (fun w' => w'.cell? ⟨w.heap.size, 0, none⟩ = some (.int .i64 c) ∧ w'.cell? ⟨w.heap.size, 1, none⟩ = some (.int .i64 j) ∧ w'.cell? ⟨w.heap.size, 2, none⟩ = some (.slice A l.length cap) ∧ w'.cell? ⟨w.heap.size + 1, 0, none⟩ = some (.int .u64 nn) ∧ w'.cell? ⟨w.heap.size + 1, 1, none⟩ = some (.string ss)) (first | (exact keep _ (Below.refl _ w3).drew) | (exact keep _ HB.out.2.2) | (exact keep _ HBP.out.2.2.1) | (exact keep _ HBM.out.2.2.1) | (exact keep _ HPB.out.2.2.1) | (exact keep _ HMB.out.2.2.1) | (exact keep _ HBPM.out.2.2.1) | (exact keep _ HBMP.out.2.2.1) | (exact keep _ HPBM.out.2.2.1) | (exact keep _ HPMB.out.2.2.1) | (exact keep _ HMBP.out.2.2.1) | (exact keep _ HMPB.out.2.2.1) | (exact keep _ ((Below.refl _ w3).drew.alloc (Nat.le_refl _) _)) | (exact keep _ ((Below.refl _ w3).drew.alloc (Nat.le_refl _) _)) | (exact keep _ (((Below.refl _ w3).drew.alloc (Nat.le_refl _) _).alloc (le_alloc (Nat.le_refl _) _) _)) | (exact keep _ (((Below.refl _ w3).drew.alloc (Nat.le_refl _) _).alloc (le_alloc (Nat.le_refl _) _) _)) | (exact keep _ hb4) | (exact keep _ (hb4.alloc hb4.size _)) | (exact keep _ ((hb4.alloc hb4.size _).alloc (le_alloc hb4.size _) _)) | (exact keep _ hb5) | (exact keep _ (hb5.alloc hb5.size _)) | (exact keep _ hS)) (first | (refine step_append_any _ rfl (.tmp 27) (.tmp 29) 22 rfl w3.heap.size 27 i0 (.agg #[.int .u64 0, .string ⟨#[]⟩]) 2 24 Tryd.underlying22 hi hz0 hz1 hz2 rfl Nat.zero_lt_two (.slice (some ⟨w3.heap.size, 0, none⟩) 0 0) 0 [] rfl HB.out.1 A l.length cap (rowV l) rfl hrl.out HB.out.2.1 h0 h1c.out bk1 bk2 HB.out.2.2.size ?_; intro v4 w4 hown4x hgrow4; have hown4 := own_zero hown4x; have hb4 : Below w3.heap.size w3 w4 := rowBelow0 (Nat.le_refl _) HB.out.1 HB.out.2.2 hgrow4) | (refine step_append_any _ rfl (.tmp 27) (.tmp 29) 22 rfl w3.heap.size 27 i0 (.agg #[.int .u64 0, .string ⟨#[]⟩]) 2 24 Tryd.underlying22 hi hz0 hz1 hz2 rfl Nat.zero_lt_two (.slice (some ⟨w3.heap.size, 0, none⟩) 0 0) 0 [] rfl HBP.out.1 A l.length cap (rowV l) rfl hrl.out HBP.out.2.1 h0 h1c.out bk1 bk2 HBP.out.2.2.1.size ?_; intro v4 w4 hown4x hgrow4; have hown4 := own_zero hown4x; have hb4 : Below w3.heap.size w3 w4 := rowBelow0 (Nat.le_refl _) HBP.out.1 HBP.out.2.2.1 hgrow4; have hP4 := bx_grow2 HBP.out.2.2.2.1 HBP.out.2.2.2.2 hgrow4) | (refine step_append_any _ rfl (.tmp 27) (.tmp 29) 22 rfl w3.heap.size 27 i0 (.agg #[.int .u64 0, .string ⟨#[]⟩]) 2 24 Tryd.underlying22 hi hz0 hz1 hz2 rfl Nat.zero_lt_two (.slice (some ⟨w3.heap.size, 0, none⟩) 0 0) 0 [] rfl HBM.out.1 A l.length cap (rowV l) rfl hrl.out HBM.out.2.1 h0 h1c.out bk1 bk2 HBM.out.2.2.1.size ?_; intro v4 w4 hown4x hgrow4; have hown4 := own_zero hown4x; have hb4 : Below w3.heap.size w3 w4 := rowBelow0 (Nat.le_refl _) HBM.out.1 HBM.out.2.2.1 hgrow4; have hM4 := bx_grow2 HBM.out.2.2.2.1 HBM.out.2.2.2.2.1 hgrow4; have hMge := HBM.out.2.2.2.2.2) | (refine step_append_any _ rfl (.tmp 27) (.tmp 29) 22 rfl w3.heap.size 27 i0 (.agg #[.int .u64 0, .string ⟨#[]⟩]) 2 24 Tryd.underlying22 hi hz0 hz1 hz2 rfl Nat.zero_lt_two (.slice (some ⟨w3.heap.size + 1, 0, none⟩) 0 0) 0 [] rfl HPB.out.1 A l.length cap (rowV l) rfl hrl.out HPB.out.2.1 h0 h1c.out bk1 bk2 HPB.out.2.2.1.size ?_; intro v4 w4 hown4x hgrow4; have hown4 := own_zero hown4x; have hb4 : Below w3.heap.size w3 w4 := rowBelow0 (Nat.le_refl _) HPB.out.1 HPB.out.2.2.1 hgrow4; have hP4 := bx_grow2 HPB.out.2.2.2.1 HPB.out.2.2.2.2 hgrow4) | (refine step_append_any _ rfl (.tmp 27) (.tmp 29) 22 rfl w3.heap.size 27 i0 (.agg #[.int .u64 0, .string ⟨#[]⟩]) 2 24 Tryd.underlying22 hi hz0 hz1 hz2 rfl Nat.zero_lt_two (.slice (some ⟨w3.heap.size + 1, 0, none⟩) 0 0) 0 [] rfl HMB.out.1 A l.length cap (rowV l) rfl hrl.out HMB.out.2.1 h0 h1c.out bk1 bk2 HMB.out.2.2.1.size ?_; intro v4 w4 hown4x hgrow4; have hown4 := own_zero hown4x; have hb4 : Below w3.heap.size w3 w4 := rowBelow0 (Nat.le_refl _) HMB.out.1 HMB.out.2.2.1 hgrow4; have hM4 := bx_grow2 HMB.out.2.2.2.1 HMB.out.2.2.2.2.1 hgrow4; have hMge := HMB.out.2.2.2.2.2) | (refine step_append_any _ rfl (.tmp 27) (.tmp 29) 22 rfl w3.heap.size 27 i0 (.agg #[.int .u64 0, .string ⟨#[]⟩]) 2 24 Tryd.underlying22 hi hz0 hz1 hz2 rfl Nat.zero_lt_two (.slice (some ⟨w3.heap.size, 0, none⟩) 0 0) 0 [] rfl HBPM.out.1 A l.length cap (rowV l) rfl hrl.out HBPM.out.2.1 h0 h1c.out bk1 bk2 HBPM.out.2.2.1.size ?_; intro v4 w4 hown4x hgrow4; have hown4 := own_zero hown4x; have hb4 : Below w3.heap.size w3 w4 := rowBelow0 (Nat.le_refl _) HBPM.out.1 HBPM.out.2.2.1 hgrow4; have hP4 := bx_grow2 HBPM.out.2.2.2.1.1 HBPM.out.2.2.2.1.2 hgrow4; have hM4 := bx_grow2 HBPM.out.2.2.2.2.1 HBPM.out.2.2.2.2.2.1 hgrow4; have hMge := HBPM.out.2.2.2.2.2.2) | (refine step_append_any _ rfl (.tmp 27) (.tmp 29) 22 rfl w3.heap.size 27 i0 (.agg #[.int .u64 0, .string ⟨#[]⟩]) 2 24 Tryd.underlying22 hi hz0 hz1 hz2 rfl Nat.zero_lt_two (.slice (some ⟨w3.heap.size, 0, none⟩) 0 0) 0 [] rfl HBMP.out.1 A l.length cap (rowV l) rfl hrl.out HBMP.out.2.1 h0 h1c.out bk1 bk2 HBMP.out.2.2.1.size ?_; intro v4 w4 hown4x hgrow4; have hown4 := own_zero hown4x; have hb4 : Below w3.heap.size w3 w4 := rowBelow0 (Nat.le_refl _) HBMP.out.1 HBMP.out.2.2.1 hgrow4; have hP4 := bx_grow2 HBMP.out.2.2.2.1.1 HBMP.out.2.2.2.1.2 hgrow4; have hM4 := bx_grow2 HBMP.out.2.2.2.2.1 HBMP.out.2.2.2.2.2.1 hgrow4; have hMge := HBMP.out.2.2.2.2.2.2) | (refine step_append_any _ rfl (.tmp 27) (.tmp 29) 22 rfl w3.heap.size 27 i0 (.agg #[.int .u64 0, .string ⟨#[]⟩]) 2 24 Tryd.underlying22 hi hz0 hz1 hz2 rfl Nat.zero_lt_two (.slice (some ⟨w3.heap.size + 1, 0, none⟩) 0 0) 0 [] rfl HPBM.out.1 A l.length cap (rowV l) rfl hrl.out HPBM.out.2.1 h0 h1c.out bk1 bk2 HPBM.out.2.2.1.size ?_; intro v4 w4 hown4x hgrow4; have hown4 := own_zero hown4x; have hb4 : Below w3.heap.size w3 w4 := rowBelow0 (Nat.le_refl _) HPBM.out.1 HPBM.out.2.2.1 hgrow4; have hP4 := bx_grow2 HPBM.out.2.2.2.1.1 HPBM.out.2.2.2.1.2 hgrow4; have hM4 := bx_grow2 HPBM.out.2.2.2.2.1 HPBM.out.2.2.2.2.2.1 hgrow4; have hMge := HPBM.out.2.2.2.2.2.2) | (refine step_append_any _ rfl (.tmp 27) (.tmp 29) 22 rfl w3.heap.size 27 i0 (.agg #[.int .u64 0, .string ⟨#[]⟩]) 2 24 Tryd.underlying22 hi hz0 hz1 hz2 rfl Nat.zero_lt_two (.slice (some ⟨w3.heap.size + 1 + 1, 0, none⟩) 0 0) 0 [] rfl HPMB.out.1 A l.length cap (rowV l) rfl hrl.out HPMB.out.2.1 h0 h1c.out bk1 bk2 HPMB.out.2.2.1.size ?_; intro v4 w4 hown4x hgrow4; have hown4 := own_zero hown4x; have hb4 : Below w3.heap.size w3 w4 := rowBelow0 (Nat.le_refl _) HPMB.out.1 HPMB.out.2.2.1 hgrow4; have hP4 := bx_grow2 HPMB.out.2.2.2.1.1 HPMB.out.2.2.2.1.2 hgrow4; have hM4 := bx_grow2 HPMB.out.2.2.2.2.1 HPMB.out.2.2.2.2.2.1 hgrow4; have hMge := HPMB.out.2.2.2.2.2.2) | (refine step_append_any _ rfl (.tmp 27) (.tmp 29) 22 rfl w3.heap.size 27 i0 (.agg #[.int .u64 0, .string ⟨#[]⟩]) 2 24 Tryd.underlying22 hi hz0 hz1 hz2 rfl Nat.zero_lt_two (.slice (some ⟨w3.heap.size + 1, 0, none⟩) 0 0) 0 [] rfl HMBP.out.1 A l.length cap (rowV l) rfl hrl.out HMBP.out.2.1 h0 h1c.out bk1 bk2 HMBP.out.2.2.1.size ?_; intro v4 w4 hown4x hgrow4; have hown4 := own_zero hown4x; have hb4 : Below w3.heap.size w3 w4 := rowBelow0 (Nat.le_refl _) HMBP.out.1 HMBP.out.2.2.1 hgrow4; have hP4 := bx_grow2 HMBP.out.2.2.2.1.1 HMBP.out.2.2.2.1.2 hgrow4; have hM4 := bx_grow2 HMBP.out.2.2.2.2.1 HMBP.out.2.2.2.2.2.1 hgrow4; have hMge := HMBP.out.2.2.2.2.2.2) | (refine step_append_any _ rfl (.tmp 27) (.tmp 29) 22 rfl w3.heap.size 27 i0 (.agg #[.int .u64 0, .string ⟨#[]⟩]) 2 24 Tryd.underlying22 hi hz0 hz1 hz2 rfl Nat.zero_lt_two (.slice (some ⟨w3.heap.size + 1 + 1, 0, none⟩) 0 0) 0 [] rfl HMPB.out.1 A l.length cap (rowV l) rfl hrl.out HMPB.out.2.1 h0 h1c.out bk1 bk2 HMPB.out.2.2.1.size ?_; intro v4 w4 hown4x hgrow4; have hown4 := own_zero hown4x; have hb4 : Below w3.heap.size w3 w4 := rowBelow0 (Nat.le_refl _) HMPB.out.1 HMPB.out.2.2.1 hgrow4; have hP4 := bx_grow2 HMPB.out.2.2.2.1.1 HMPB.out.2.2.2.1.2 hgrow4; have hM4 := bx_grow2 HMPB.out.2.2.2.2.1 HMPB.out.2.2.2.2.2.1 hgrow4; have hMge := HMPB.out.2.2.2.2.2.2) | (refine step_append_any _ rfl (.tmp 30) (.tmp 32) 22 rfl w3.heap.size 27 i0 (.agg #[.int .u64 0, .string ⟨#[]⟩]) 2 24 Tryd.underlying22 hi hz0 hz1 hz2 rfl Nat.zero_lt_two v4 _ _ rfl ((hown4.alloc (.cells #[.int .u64 nn, .string ss] 27)).alloc (.cells #[.int .i64 0, .int .i64 0, .slice none 0 0] 24)) (some ⟨w4.heap.size, 0, none⟩) 1 1 [.int .u64 nn, .string ss] rfl rfl (pair_PM w4 nn ss) nofun h2c.out bk3 bk4 ((hb4.alloc hb4.size (.cells #[.int .u64 nn, .string ss] 27)).alloc (hb4.alloc hb4.size (.cells #[.int .u64 nn, .string ss] 27)).size (.cells #[.int .i64 0, .int .i64 0, .slice none 0 0] 24)).size ?_; intro v5 w5 hown5 hgrow5; have hb5 : Below w3.heap.size w3 w5 := rowBelow0 (Nat.le_refl _) ((hown4.alloc (.cells #[.int .u64 nn, .string ss] 27)).alloc (.cells #[.int .i64 0, .int .i64 0, .slice none 0 0] 24)) ((hb4.alloc hb4.size (.cells #[.int .u64 nn, .string ss] 27)).alloc (hb4.alloc hb4.size (.cells #[.int .u64 nn, .string ss] 27)).size (.cells #[.int .i64 0, .int .i64 0, .slice none 0 0] 24)) hgrow5; obtain ⟨A5, cap5, rfl, hV5, hn5⟩ := row_form hown5; have hM5 := bx_own ((hown4.alloc (.cells #[.int .u64 nn, .string ss] 27)).alloc (.cells #[.int .i64 0, .int .i64 0, .slice none 0 0] 24)) hgrow5 (mth_PM w4 nn ss) tmv; have hS := below_store3 hb5 (Nat.le_succ_of_le hb4.size) (.int .i64 c) (.int .i64 j) (.slice A5 (l.length + 1) cap5); obtain ⟨a0, f0, a1, f1, a2, f2, bR⟩ := hM5.store3 (.int .i64 c) (.int .i64 j) (.slice A5 (l.length + 1) cap5)) | (refine step_append_any _ rfl (.tmp 30) (.tmp 32) 22 rfl w3.heap.size 27 i0 (.agg #[.int .u64 0, .string ⟨#[]⟩]) 2 24 Tryd.underlying22 hi hz0 hz1 hz2 rfl Nat.zero_lt_two v4 _ _ rfl ((hown4.alloc (.cells #[.int .i64 0, .int .i64 0, .slice none 0 0] 24)).alloc (.cells #[.int .u64 nn, .string ss] 27)) (some ⟨w4.heap.size + 1, 0, none⟩) 1 1 [.int .u64 nn, .string ss] rfl rfl (pair_MP w4 nn ss) nofun h2c.out bk3 bk4 ((hb4.alloc hb4.size (.cells #[.int .i64 0, .int .i64 0, .slice none 0 0] 24)).alloc (hb4.alloc hb4.size (.cells #[.int .i64 0, .int .i64 0, .slice none 0 0] 24)).size (.cells #[.int .u64 nn, .string ss] 27)).size ?_; intro v5 w5 hown5 hgrow5; have hb5 : Below w3.heap.size w3 w5 := rowBelow0 (Nat.le_refl _) ((hown4.alloc (.cells #[.int .i64 0, .int .i64 0, .slice none 0 0] 24)).alloc (.cells #[.int .u64 nn, .string ss] 27)) ((hb4.alloc hb4.size (.cells #[.int .i64 0, .int .i64 0, .slice none 0 0] 24)).alloc (hb4.alloc hb4.size (.cells #[.int .i64 0, .int .i64 0, .slice none 0 0] 24)).size (.cells #[.int .u64 nn, .string ss] 27)) hgrow5; obtain ⟨A5, cap5, rfl, hV5, hn5⟩ := row_form hown5; have hM5 := bx_own ((hown4.alloc (.cells #[.int .i64 0, .int .i64 0, .slice none 0 0] 24)).alloc (.cells #[.int .u64 nn, .string ss] 27)) hgrow5 (mth_MP w4 nn ss) tmv; have hS := below_store3 hb5 hb4.size (.int .i64 c) (.int .i64 j) (.slice A5 (l.length + 1) cap5); obtain ⟨a0, f0, a1, f1, a2, f2, bR⟩ := hM5.store3 (.int .i64 c) (.int .i64 j) (.slice A5 (l.length + 1) cap5)) | (refine step_append_any _ rfl (.tmp 30) (.tmp 32) 22 rfl w3.heap.size 27 i0 (.agg #[.int .u64 0, .string ⟨#[]⟩]) 2 24 Tryd.underlying22 hi hz0 hz1 hz2 rfl Nat.zero_lt_two v4 _ _ rfl (hown4.alloc (.cells #[.int .u64 nn, .string ss] 27)) (some ⟨w4.heap.size, 0, none⟩) 1 1 [.int .u64 nn, .string ss] rfl rfl (pair_P w4 nn ss) nofun h2c.out bk3 bk4 (hb4.alloc hb4.size (.cells #[.int .u64 nn, .string ss] 27)).size ?_; intro v5 w5 hown5 hgrow5; have hb5 : Below w3.heap.size w3 w5 := rowBelow0 (Nat.le_refl _) (hown4.alloc (.cells #[.int .u64 nn, .string ss] 27)) (hb4.alloc hb4.size (.cells #[.int .u64 nn, .string ss] 27)) hgrow5; obtain ⟨A5, cap5, rfl, hV5, hn5⟩ := row_form hown5; have hM5 := bx_own (hown4.alloc (.cells #[.int .u64 nn, .string ss] 27)) hgrow5 (hM4.alloc _) tmv; have hS := below_store3 hb5 hMge (.int .i64 c) (.int .i64 j) (.slice A5 (l.length + 1) cap5); obtain ⟨a0, f0, a1, f1, a2, f2, bR⟩ := hM5.store3 (.int .i64 c) (.int .i64 j) (.slice A5 (l.length + 1) cap5)) | (refine step_append_any _ rfl (.tmp 30) (.tmp 32) 22 rfl w3.heap.size 27 i0 (.agg #[.int .u64 0, .string ⟨#[]⟩]) 2 24 Tryd.underlying22 hi hz0 hz1 hz2 rfl Nat.zero_lt_two v4 _ _ rfl (hown4.alloc (.cells #[.int .u64 nn, .string ss] 27)) (some ⟨w4.heap.size, 0, none⟩) 1 1 [.int .u64 nn, .string ss] rfl rfl (pair_P w4 nn ss) nofun h2c.out bk3 bk4 (hb4.alloc hb4.size (.cells #[.int .u64 nn, .string ss] 27)).size ?_; intro v5 w5 hown5 hgrow5; have hb5 : Below w3.heap.size w3 w5 := rowBelow0 (Nat.le_refl _) (hown4.alloc (.cells #[.int .u64 nn, .string ss] 27)) (hb4.alloc hb4.size (.cells #[.int .u64 nn, .string ss] 27)) hgrow5; obtain ⟨A5, cap5, rfl, hV5, hn5⟩ := row_form hown5) | (refine step_append_any _ rfl (.tmp 30) (.tmp 32) 22 rfl w3.heap.size 27 i0 (.agg #[.int .u64 0, .string ⟨#[]⟩]) 2 24 Tryd.underlying22 hi hz0 hz1 hz2 rfl Nat.zero_lt_two v4 _ _ rfl (hown4.alloc (.cells #[.int .i64 0, .int .i64 0, .slice none 0 0] 24)) (some ⟨_, 0, none⟩) 1 1 [.int .u64 nn, .string ss] rfl rfl (vals_of_pair (hP4.alloc _)) nofun h2c.out bk3 bk4 (hb4.alloc hb4.size (.cells #[.int .i64 0, .int .i64 0, .slice none 0 0] 24)).size ?_; intro v5 w5 hown5 hgrow5; have hb5 : Below w3.heap.size w3 w5 := rowBelow0 (Nat.le_refl _) (hown4.alloc (.cells #[.int .i64 0, .int .i64 0, .slice none 0 0] 24)) (hb4.alloc hb4.size (.cells #[.int .i64 0, .int .i64 0, .slice none 0 0] 24)) hgrow5; obtain ⟨A5, cap5, rfl, hV5, hn5⟩ := row_form hown5; have hM5 := bx_own (hown4.alloc (.cells #[.int .i64 0, .int .i64 0, .slice none 0 0] 24)) hgrow5 (mth_M w4 nn ss) tmv; have hS := below_store3 hb5 hb4.size (.int .i64 c) (.int .i64 j) (.slice A5 (l.length + 1) cap5); obtain ⟨a0, f0, a1, f1, a2, f2, bR⟩ := hM5.store3 (.int .i64 c) (.int .i64 j) (.slice A5 (l.length + 1) cap5)) | (refine step_append_any _ rfl (.tmp 30) (.tmp 32) 22 rfl w3.heap.size 27 i0 (.agg #[.int .u64 0, .string ⟨#[]⟩]) 2 24 Tryd.underlying22 hi hz0 hz1 hz2 rfl Nat.zero_lt_two v4 _ _ rfl hown4 (some ⟨_, 0, none⟩) 1 1 [.int .u64 nn, .string ss] rfl rfl (vals_of_pair hP4) nofun h2c.out bk3 bk4 hb4.size ?_; intro v5 w5 hown5 hgrow5; have hb5 : Below w3.heap.size w3 w5 := rowBelow0 (Nat.le_refl _) hown4 hb4 hgrow5; obtain ⟨A5, cap5, rfl, hV5, hn5⟩ := row_form hown5; have hM5 := bx_own hown4 hgrow5 hM4 tmv; have hS := below_store3 hb5 hMge (.int .i64 c) (.int .i64 j) (.slice A5 (l.length + 1) cap5); obtain ⟨a0, f0, a1, f1, a2, f2, bR⟩ := hM5.store3 (.int .i64 c) (.int .i64 j) (.slice A5 (l.length + 1) cap5)) | (refine step_append_any _ rfl (.tmp 30) (.tmp 32) 22 rfl w3.heap.size 27 i0 (.agg #[.int .u64 0, .string ⟨#[]⟩]) 2 24 Tryd.underlying22 hi hz0 hz1 hz2 rfl Nat.zero_lt_two v4 _ _ rfl hown4 (some ⟨_, 0, none⟩) 1 1 [.int .u64 nn, .string ss] rfl rfl (vals_of_pair hP4) nofun h2c.out bk3 bk4 hb4.size ?_; intro v5 w5 hown5 hgrow5; have hb5 : Below w3.heap.size w3 w5 := rowBelow0 (Nat.le_refl _) hown4 hb4 hgrow5; obtain ⟨A5, cap5, rfl, hV5, hn5⟩ := row_form hown5))
      all_goals first
        | (rw [← rowV_snoc2] at hV5
           have hV6 := vals_store2 hV5 hM5 (.int .i64 c) (.int .i64 j) (.slice A5 (l.length + 1) cap5)
           go_wp2_with fail
           go_meet
           exact ⟨_, A5, cap5, rfl, bR, hV6, hS⟩)
        | (have hB6 := hb5.alloc hb5.size (.cells #[.int .i64 c, .int .i64 j, .slice A5 (l.length + 1) cap5] 24)
           have hN6 := Bx.new w5 24 [.int .i64 c, .int .i64 j, .slice A5 (l.length + 1) cap5]
           rw [← rowV_snoc2] at hV5
           have hV6 := hV5.below ((Below.refl _ w5).alloc (Nat.le_refl _) (.cells #[.int .i64 c, .int .i64 j, .slice A5 (l.length + 1) cap5] 24))
           go_wp2_with fail
           go_meet
           exact ⟨_, A5, cap5, rfl, hN6, hV6, hB6⟩)
    obtain ⟨nb, C, cc, rfl, hN, hV, hfc⟩ := hcut
    have hBc := hB3.trans (hfc.mono hB3.size)
    have hxc := hx3.kept hfc
    have hle : (l ++ [(⟨nn, ss⟩ : MV)]).length = l.length + 1 := by simp
    rw [hle] at hRk
    have hRc := hRk C cc wc (hw.below hBc) hV
    have tl : ((L.size : Int) != (l.length : Int)) = false := by have := HL.out; simp; omega
    have x2 := hxc.cell 2 (by simp)
    have k0 := hN.cell 0 (by simp)
    have k1 := hN.cell 1 (by simp)
    have k2 := hN.cell 2 (by simp)
    dsimp only [List.getElem_cons_zero, List.getElem_cons_succ] at x2 k0 k1 k2
    clear hle hRk hN hV HB HBP HBM HPB HMB HBPM HBMP HPBM HPMB HMBP HMPB keep hfc hB3 hx3 hy3 hA3 hA4 hrl h1c h2c q0 q1 q2 q3 q4
    go_wp2_with fail
    refine hRc.mono ?_
    rintro e w6 ⟨rfl, hb6⟩
    have hB6 := hBc.trans (hb6.mono hBc.size)
    have hx6 := hxc.kept hb6
    have y0 := hx6.cell 0 (by simp)
    have y1 := hx6.cell 1 (by simp)
    have y2 := hx6.cell 2 (by simp)
    dsimp only [List.getElem_cons_zero, List.getElem_cons_succ] at y0 y1 y2
    clear hRc hBc hxc hb6 x2 k0 k1 k2
    by_cases hl0 : l.length = 0
    · have t0 : ((l.length : Int) == 0) = true := by simp; exact List.eq_nil_of_length_eq_zero hl0
      obtain rfl : l = [] := List.eq_nil_of_length_eq_zero hl0
      clear HN2 hRn t0 hl0 hA h0 hcap hm
      dsimp only [List.length_nil] at y2 tl
      go_wp2
      go_ret
      exact ⟨rfl, hB6⟩
    · have t0 : ((l.length : Int) == 0) = false := by simp; intro h; exact hl0 (by rw [h]; rfl)
      have hdl : (l.drop 1).length = l.length - 1 := by rw [List.length_drop]
      have h7 := HN2.out (fun h => hl0 (by rw [h]; rfl))
      rw [h7, hdl] at hRn
      have hA6 := hA.below hB6
      obtain ⟨b0, off, rfl, hbl, -⟩ := vals_v hA6 (by omega)
      have g1 : (1 : Int) ≤ (l.length : Int) := by omega
      have g2 : (l.length : Int) ≤ (cap : Int) := by omega
      have hk6 : ∀ w', Below w6.heap.size w6 w' → w'.cell? ⟨w.heap.size, 0, none⟩ = some (.int .i64 c) ∧ w'.cell? ⟨w.heap.size, 1, none⟩ = some (.int .i64 j) ∧ w'.cell? ⟨w.heap.size, 2, none⟩ = some (.slice (some ⟨b0, off, none⟩) l.length cap) := fun w' h => ⟨(hx6.kept h).cell 0 (by simp), (hx6.kept h).cell 1 (by simp), (hx6.kept h).cell 2 (by simp)⟩
      have hvd := vals_drop hA6
      clear HN2 hdl h7 hx6
      by_cases hc1 : cap = 1
      · have hl1 : l.length = 1 := by omega
        subst hc1
        go_wp2_with fail
        go_region_held3 (fun w' => w'.cell? ⟨w.heap.size, 0, none⟩ = some (.int .i64 c) ∧ w'.cell? ⟨w.heap.size, 1, none⟩ = some (.int .i64 j) ∧ w'.cell? ⟨w.heap.size, 2, none⟩ = some (.slice (some ⟨b0, off, none⟩) l.length 1)) (first | (exact hk6 _ (Below.refl _ w6).drew) | (exact hk6 _ ((Below.refl _ w6).drew.alloc (Nat.le_refl _) _))) (fail)
        have h10 : l.length - 1 = 0 := by omega
        rw [h10] at hRn
        have hB7 := (hB6.alloc hB6.size (.cells #[.int .i64 c, .int .i64 j, .slice (some ⟨b0, off, none⟩) 0 0] 24)).drew
        have hR7 := hRn (some ⟨b0, off, none⟩) 0 _ (hw.below hB7) (fun h => by rw [rowV_length, List.length_drop, h10] at h; cases h)
        clear hRn hk6 hvd hA hA6 h10
        go_wp2_with fail
        refine hR7.mono ?_
        rintro e w8 ⟨rfl, hb8⟩
        have hB8 := hB7.trans (hb8.mono hB7.size)
        clear hR7 hb8 hB7
        go_wp2
        go_ret
        exact ⟨rfl, hB8⟩
      · go_wp2_with fail
        go_region_held3 (fun w' => w'.cell? ⟨w.heap.size, 0, none⟩ = some (.int .i64 c) ∧ w'.cell? ⟨w.heap.size, 1, none⟩ = some (.int .i64 j) ∧ w'.cell? ⟨w.heap.size, 2, none⟩ = some (.slice (some ⟨b0, off, none⟩) l.length cap)) (first | (exact hk6 _ (Below.refl _ w6).drew) | (exact hk6 _ ((Below.refl _ w6).drew.alloc (Nat.le_refl _) _))) (fail)
        have hB7 := (hB6.alloc hB6.size (.cells #[.int .i64 c, .int .i64 j, .slice (some ⟨b0, off + 2, none⟩) (l.length - 1) (cap - 1)] 24)).drew
        have hR7 := hRn (some ⟨b0, off + 2, none⟩) (cap - 1) _ (hw.below hB7) (hvd.below (((Below.refl _ w6).alloc (Nat.le_refl _) (.cells #[.int .i64 c, .int .i64 j, .slice (some ⟨b0, off + 2, none⟩) (l.length - 1) (cap - 1)] 24)).drew))
        clear hRn hk6 hvd hA hA6
        go_wp2_with fail
        refine hR7.mono ?_
        rintro e w8 ⟨rfl, hb8⟩
        have hB8 := hB7.trans (hb8.mono hB7.size)
        clear hR7 hb8 hB7
        go_wp2
        go_ret
        exact ⟨rfl, hB8⟩
  · have te : (e1 != 0) = true := by simpa using he
    clear HP HK HN hx2 hy2 hRk hRn hOf hA he
    go_wp2
    go_ret
    exact ⟨rfl, hB2⟩
end Go.Proofs.YtmpfkommeakgbaaDoor
