/-
  Commands gathered in a row of one's own: the first one and the second one, in each way in which an append may lay them; what else stays. No condition.
-/
import Derived.Test.YtllgkohgcicbhaaGreatDoorMTwo
import Derived.Test.YtllgkohgcicbhaaGreatDoorZA
import Derived.Test.YtllgkohgcicbhaaGreatDoorZB
namespace Go.Proofs.YtllgkohgcicbhaaGreatDoor
open Go.RowKit

def ZC : Array Value := #[.int .i64 0, .int .i64 0, .slice none 0 0, .int .i64 0, .int .u64 0, .int .u64 0, .slice none 0 0, .string ⟨#[]⟩]
theorem infoCmd : (Tryz.prog.info? 29).map (fun i => (i.zero, i.size, i.bytes)) = some (some (.agg ZC), 8, 104) := by kernel_rfl
theorem vals_apart2 {W W' : World} {B : Nat} {t : TypeId} {cs : List Value} (hB : Bx W B t cs) (hno : NoVal cs) {A : Option Addr} {m : List MV} (h : ValsAt W A (rowV m)) (hW : ∀ g, g < W.heap.size → g ≠ B → W'.heap[g]? = W.heap[g]?) : ValsAt W' A (rowV m) := fun h0 => by
  obtain ⟨b, off, hA, hlt, hc⟩ := h h0
  have hne : b ≠ B := by
    rintro rfl
    cases m with
    | nil => exact absurd h0 (by simp [rowV])
    | cons x m =>
      have g0 := hc 0 (by rw [rowV_length, List.length_cons]; omega)
      have g1 := hc 1 (by rw [rowV_length, List.length_cons]; omega)
      have e0 : (rowV (x :: m))[0]'(by rw [rowV_length, List.length_cons]; omega) = .int .u64 x.n := rfl
      have e1 : (rowV (x :: m))[1]'(by rw [rowV_length, List.length_cons]; omega) = .string x.s := rfl
      rw [e0] at g0
      rw [e1] at g1
      have k : ∀ i, W.cell? ⟨b, i, none⟩ = cs[i]? := fun i => by simp [World.cell?, show W.heap[b]? = _ from hB]
      rw [k] at g0 g1
      exact hno (off + 0) x.n x.s g0 g1
  have hk := hW b hlt hne
  refine ⟨b, off, hA, ?_, fun i hi => ?_⟩
  · rw [Array.getElem?_eq_getElem hlt] at hk
    exact (Array.getElem?_eq_some_iff.1 hk).1
  · rw [← hc i hi]
    simp only [World.cell?, hk]
/-- spare places hold no value -/
theorem noVal_spare (k : Nat) : NoVal (Builtin.zeroCells ZC k).toList := by
  intro i n s h1 h2
  simp only [Builtin.zeroCells, Array.toList_map, List.getElem?_map, Array.toList_range] at h1 h2
  rw [Option.map_eq_some_iff] at h1 h2
  obtain ⟨j, hj, h1⟩ := h1
  obtain ⟨j2, hj2, h2⟩ := h2
  obtain ⟨g1, rfl⟩ := List.getElem?_eq_some_iff.1 hj
  obtain ⟨g2, rfl⟩ := List.getElem?_eq_some_iff.1 hj2
  simp only [List.getElem_range] at h1 h2
  have hz : ZC.size = 8 := rfl
  rw [hz] at h1 h2
  obtain ⟨r, hr⟩ : ∃ r, i % 8 = r := ⟨_, rfl⟩
  have hlt : r < 8 := by omega
  have h3 : (i + 1) % 8 = (r + 1) % 8 := by omega
  rw [h3] at h2
  rw [hr] at h1
  match r, hlt, h1, h2 with
  | 0, _, h1, _ => cases h1
  | 1, _, h1, _ => cases h1
  | 2, _, h1, _ => cases h1
  | 3, _, h1, _ => cases h1
  | 4, _, _, h2 => cases h2
  | 5, _, _, h2 => cases h2
  | 6, _, h1, _ => cases h1
  | 7, _, h1, _ => cases h1
theorem noVal_got (c : Cm) (A B : Option Addr) (ca cb : Nat) (k : Nat) : NoVal (cellsC c A B ca cb ++ (Builtin.zeroCells ZC k).toList) := by
  intro i n s h1 h2
  have hl : (cellsC c A B ca cb).length = 8 := rfl
  by_cases h : i < 8
  · rw [List.getElem?_append_left (by omega)] at h1
    by_cases g : i + 1 < 8
    · rw [List.getElem?_append_left (by omega)] at h2
      exact noVal_cells c A B ca cb i n s h1 h2
    · obtain rfl : i = 7 := by omega
      simp [cellsC] at h1
  · rw [List.getElem?_append_right (by omega)] at h1 h2
    rw [hl] at h1 h2
    rw [show i + 1 - 8 = (i - 8) + 1 by omega] at h2
    exact noVal_spare k _ n s h1 h2

/-- one command stands in a row of one's own -/
def Got1 (n : Nat) (W : World) (c : Cm) (g : Value) : Prop := ∃ X k A B ca cb, g = .slice (some ⟨X, 0, none⟩) 1 (1 + k) ∧ n ≤ X ∧ 1 + k ≤ maxLen ∧ Bx W X 29 (cellsC c A B ca cb ++ (Builtin.zeroCells ZC k).toList) ∧ CmAt W c A B ca cb
/-- two do -/
def Got2 (n : Nat) (W : World) (c d : Cm) (g : Value) : Prop := ∃ X cap A B ca cb A' B' ca' cb' cs, g = .slice (some ⟨X, 0, none⟩) 2 cap ∧ n ≤ X ∧ 2 ≤ cap ∧ Bx W X 29 cs ∧ cs.take 16 = cellsC c A B ca cb ++ cellsC d A' B' ca' cb' ∧ CmAt W c A B ca cb ∧ CmAt W d A' B' ca' cb'
/-- how far the gathering has come -/
def GotAt (n : Nat) (W : World) (n1 N k : Nat) (c d : Cm) (g : Value) : Prop :=
  (k < n1 → g = .slice none 0 0) ∧ (n1 ≤ k → k < N → Got1 n W c g) ∧ (k = N → Got2 n W c d g)
theorem Got1.below {n : Nat} {W W' : World} {c : Cm} {g : Value} (h : Got1 n W c g) (hb : Below W.heap.size W W') : Got1 n W' c g := by
  obtain ⟨X, k, A, B, ca, cb, e, h1, h2, h3, h4⟩ := h
  exact ⟨X, k, A, B, ca, cb, e, h1, h2, h3.kept hb, h4.below hb⟩
theorem Got2.below {n : Nat} {W W' : World} {c d : Cm} {g : Value} (h : Got2 n W c d g) (hb : Below W.heap.size W W') : Got2 n W' c d g := by
  obtain ⟨X, cap, A, B, ca, cb, A', B', ca', cb', cs, e, h1, h2, h3, h4, h5, h6⟩ := h
  exact ⟨X, cap, A, B, ca, cb, A', B', ca', cb', cs, e, h1, h2, h3.kept hb, h4, h5.below hb, h6.below hb⟩
theorem Got1.store9 {n X : Nat} {t : TypeId} {cs : List Value} {W : World} {c : Cm} {g : Value} (hB : Bx W X t cs) (hno : NoVal cs) (hX : X < n) (h : Got1 n W c g) (b0 b1 b2 b3 b4 b5 b6 b7 b8 : Value) : Got1 n (((((((((W.setCell ⟨X, 0, none⟩ b0).setCell ⟨X, 1, none⟩ b1).setCell ⟨X, 2, none⟩ b2).setCell ⟨X, 3, none⟩ b3).setCell ⟨X, 4, none⟩ b4).setCell ⟨X, 5, none⟩ b5).setCell ⟨X, 6, none⟩ b6).setCell ⟨X, 7, none⟩ b7).setCell ⟨X, 8, none⟩ b8) c g := by
  obtain ⟨Y, k, A, B, ca, cb, e, h1, h2, h3, h4⟩ := h
  exact ⟨Y, k, A, B, ca, cb, e, h1, h2, (heap_store9 b0 b1 b2 b3 b4 b5 b6 b7 b8 Y (by omega)).trans h3, h4.store9 hB hno b0 b1 b2 b3 b4 b5 b6 b7 b8⟩
theorem Got2.store9 {n X : Nat} {t : TypeId} {cs : List Value} {W : World} {c d : Cm} {g : Value} (hB : Bx W X t cs) (hno : NoVal cs) (hX : X < n) (h : Got2 n W c d g) (b0 b1 b2 b3 b4 b5 b6 b7 b8 : Value) : Got2 n (((((((((W.setCell ⟨X, 0, none⟩ b0).setCell ⟨X, 1, none⟩ b1).setCell ⟨X, 2, none⟩ b2).setCell ⟨X, 3, none⟩ b3).setCell ⟨X, 4, none⟩ b4).setCell ⟨X, 5, none⟩ b5).setCell ⟨X, 6, none⟩ b6).setCell ⟨X, 7, none⟩ b7).setCell ⟨X, 8, none⟩ b8) c d g := by
  obtain ⟨Y, cap, A, B, ca, cb, A', B', ca', cb', cs2, e, h1, h2, h3, h4, h5, h6⟩ := h
  exact ⟨Y, cap, A, B, ca, cb, A', B', ca', cb', cs2, e, h1, h2, (heap_store9 b0 b1 b2 b3 b4 b5 b6 b7 b8 Y (by omega)).trans h3, h4, h5.store9 hB hno b0 b1 b2 b3 b4 b5 b6 b7 b8, h6.store9 hB hno b0 b1 b2 b3 b4 b5 b6 b7 b8⟩
/-- what an append to the row leaves -/
structure Grew (n : Nat) (w w' : World) : Prop where
  bx : ∀ X cs, Bx w X 31 cs → Bx w' X 31 cs
  cm : ∀ c A B ca cb, CmAt w c A B ca cb → CmAt w' c A B ca cb
  be : ∀ W, W.heap.size ≤ n → Below W.heap.size W w → Below W.heap.size W w'
theorem Grew.of {n : Nat} {w w' : World} (h : Below w.heap.size w w') : Grew n w w' :=
  ⟨fun _ _ hx => hx.kept h, fun _ _ _ _ _ hc => hc.below h, fun _ _ hb => hb.trans (h.mono hb.size)⟩
theorem oneCell_cells (c : Cm) (A B : Option Addr) (ca cb : Nat) : ∀ u ∈ cellsC c A B ca cb, u.oneCell' = true := by
  intro u hu
  simp only [cellsC, List.mem_cons, List.not_mem_nil, or_false] at hu
  rcases hu with rfl | rfl | rfl | rfl | rfl | rfl | rfl | rfl <;> rfl
theorem cells_at {w : World} {X : Nat} {t : TypeId} {cs : List Value} (h : Bx w X t cs) : ∀ j u, cs[j]? = some u → w.cell? ((⟨X, 0, none⟩ : Addr).add j) = some u := by
  intro j u hj
  obtain ⟨hlt, he⟩ := List.getElem?_eq_some_iff.1 hj
  rw [← he, Addr.add_lit]
  have := h.cell j hlt
  simpa using this
theorem wpList_got1 {n : Nat} {w : World} {ops : Array Oper} {rest : List Oper} {o : Oper} {a : Act} {Q : Exit → Act → World → Prop} (hgd : o.guard = none) (s x : Operand)
    (ho : o.op = .call { callee := .builtin .append, args := #[s, x], argTypes := #[56, 56] })
    (hs : a.eval s = .slice none 0 0) (X cap : Nat) (c : Cm) (A B : Option Addr) (ca cb : Nat) (hx : a.eval x = .slice (some ⟨X, 0, none⟩) 1 cap)
    (hX : Bx w X 29 (cellsC c A B ca cb)) (hc : CmAt w c A B ca cb) (hn : n ≤ w.heap.size)
    (h : ∀ v' w', Got1 n w' c v' → Grew n w w' → wpList Tryz.prog ops Q rest (a.put o.dst v') w') :
    wpList Tryz.prog ops Q (o :: rest) a w := by
  refine wpList_plain hgd fun K hK => ?_
  obtain ⟨i, hi, hz, hsz, hby⟩ := info_parts3 infoCmd
  have hr := run_append_nil (P := Tryz.prog) w 56 o.type 29 i (.agg ZC) Tryz.underlying56 hi hz ⟨X, 0, none⟩ 1 cap (cellsC c A B ca cb) (by rw [hsz]; rfl) (cells_at hX) (by decide) (by decide) (by rw [hby]; decide)
  have hm := grownCap_le_maxLen w 1 0 29 (by decide)
  obtain ⟨k, hk⟩ : ∃ k, grownCap w 1 0 29 = 1 + k := ⟨grownCap w 1 0 29 - 1, by have := grownCap_ge w 1 0 29; omega⟩
  rw [hk] at hr hm
  have e : (cellsC c A B ca cb).toArray ++ Builtin.zeroCells (Value.agg ZC).cells (1 + k - 1) = (cellsC c A B ca cb ++ (Builtin.zeroCells ZC k).toList).toArray := by
    rw [show 1 + k - 1 = k by omega, show (Value.agg ZC).cells = ZC from rfl]
    apply Array.ext'
    simp
  rw [e] at hr
  unfold Oper.wp execOp
  simp only [ho, resolve, invoke, builtin, Sem.run_bind, Sem.run_pure, Result.andThen_ok, List.map_toArray, List.map_cons, List.map_nil, hs, hx, hr]
  have hb : Below w.heap.size w (w.drew.alloc (.cells (cellsC c A B ca cb ++ (Builtin.zeroCells ZC k).toList).toArray 29)) := (Below.refl _ w).drew.alloc (Nat.le_refl _) _
  exact hK _ _ (h _ _ ⟨w.heap.size, k, A, B, ca, cb, rfl, hn, hm, Bx.new w.drew _ _, hc.below hb⟩ (Grew.of hb))
theorem wpList_got2 {n : Nat} {w : World} {ops : Array Oper} {rest : List Oper} {o : Oper} {a : Act} {Q : Exit → Act → World → Prop} (hgd : o.guard = none) (s x : Operand)
    (ho : o.op = .call { callee := .builtin .append, args := #[s, x], argTypes := #[56, 56] })
    (g : Value) (hs : a.eval s = g) (X cap : Nat) (c d : Cm) (hg : Got1 n w c g) (A B : Option Addr) (ca cb : Nat) (hx : a.eval x = .slice (some ⟨X, 0, none⟩) 1 cap)
    (hX : Bx w X 29 (cellsC d A B ca cb)) (hd : CmAt w d A B ca cb) (hn : n ≤ w.heap.size)
    (h : ∀ v' w', Got2 n w' c d v' → Grew n w w' → wpList Tryz.prog ops Q rest (a.put o.dst v') w') :
    wpList Tryz.prog ops Q (o :: rest) a w := by
  obtain ⟨i, hi, hz, hsz, hby⟩ := info_parts3 infoCmd
  obtain ⟨Y, k, A1, B1, ca1, cb1, rfl, h1, h2, h3, h4⟩ := hg
  have hsz2 : (Builtin.zeroCells ZC k).size = k * 8 := size_zeroCells ZC k
  refine wpList_append_own_at w hgd s x 56 ho n 29 i (.agg ZC) 8 104 Tryz.underlying56 hi hz hsz hby rfl (by decide) _ 1 (cellsC c A1 B1 ca1 cb1) hs
    ⟨rfl, .inr ⟨Y, 1 + k, (cellsC c A1 B1 ca1 cb1 ++ (Builtin.zeroCells ZC k).toList).toArray, rfl, h1, h3, by omega, h2, ?_, ?_⟩⟩ ⟨X, 0, none⟩ 1 cap (cellsC d A B ca cb) hx rfl (cells_at hX) (oneCell_cells d A B ca cb) (by decide) (by decide) hn (fun v' w' q1 q2 _ _ => ?_)
  · simp only [List.size_toArray, List.length_append, Array.length_toList, hsz2]
    show 8 + k * 8 = _
    omega
  · show (cellsC c A1 B1 ca1 cb1 ++ (Builtin.zeroCells ZC k).toList).take 8 = _
    rfl
  · have hcm : ∀ c' A' B' ca' cb', CmAt w c' A' B' ca' cb' → CmAt w' c' A' B' ca' cb' := fun c' A' B' ca' cb' hc => by
      have hb : ∀ j, j < w.heap.size → j ≠ Y → w'.heap[j]? = w.heap[j]? := fun j hj hne => q2.block j hj (by simpa [Value.ownBlock] using hne)
      exact ⟨vals_apart2 h3 (noVal_got _ _ _ _ _ _) hc.va hb, vals_apart2 h3 (noVal_got _ _ _ _ _ _) hc.vb hb, hc.na, hc.nb⟩
    refine h v' w' ?_ ⟨fun Z cs hb => ?_, hcm, fun W hW hb => hb.grown q2 hb.size (fun j ej => ?_)⟩
    · obtain ⟨-, ⟨-, h0⟩ | ⟨Z, cp, cur, rfl, g1, g2, g3, g4, g5, g6⟩⟩ := q1
      · omega
      · refine ⟨Z, cp, A1, B1, ca1, cb1, A, B, ca, cb, cur.toList, rfl, g1, g3, ?_, g6, hcm _ _ _ _ _ h4, hcm _ _ _ _ _ hd⟩
        show w'.heap[Z]? = _
        rw [g2, Array.toArray_toList]
    · have hne : Z ≠ Y := by
        rintro rfl
        have := hb.symm.trans h3
        simp at this
      exact (q2.block Z hb.lt (by simpa [Value.ownBlock] using hne)).trans hb
    · obtain rfl : Y = j := by simpa [Value.ownBlock] using ej
      omega
end Go.Proofs.YtllgkohgcicbhaaGreatDoor
