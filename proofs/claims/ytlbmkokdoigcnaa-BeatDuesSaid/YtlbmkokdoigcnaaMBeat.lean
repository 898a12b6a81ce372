/-
  The heap in memory: a row of what is due, the box that holds it, its methods as an interface finds them; what a change of two places leaves. No condition.
-/
import Derived.Deep.Onto
import Derived.Laws.AppendOwn
import Derived.Test.YtlbmkokdoigcnaaPHeapL
import Derived.Test.YtlbmkokdoigcnaaJMem
namespace Go.Proofs.Ytlbmkokdoigcnaa
open Go.RowKit

def cellsD (d : DP) : List Value := [.int .i64 d.a, .int .i64 d.i]
def encD (d : DP) : Value := .agg #[.int .i64 d.a, .int .i64 d.i]
def rowD (l : List DP) : List Value := l.flatMap cellsD
theorem infoDue : (Try.prog.info? 24).map (fun i => (i.zero, i.size, i.bytes)) = some (some (.agg #[.int .i64 0, .int .i64 0]), 2, 16) := by kernel_rfl
theorem rowD_length (l : List DP) : (rowD l).length = l.length * 2 := by
  induction l with
  | nil => rfl
  | cons v l ih => simp only [rowD, List.flatMap_cons, List.length_append, List.length_cons] at ih ⊢; simp only [cellsD, List.length_cons, List.length_nil]; omega
theorem rowD_nil : rowD [] = [] := rfl
theorem rowD_cons (d : DP) (l : List DP) : rowD (d :: l) = .int .i64 d.a :: .int .i64 d.i :: rowD l := by simp [rowD, cellsD]
theorem rowD_append (l m : List DP) : rowD (l ++ m) = rowD l ++ rowD m := by simp [rowD]
theorem rowD_snoc (l : List DP) (d : DP) : rowD (l ++ [d]) = rowD l ++ [.int .i64 d.a, .int .i64 d.i] := by simp [rowD, cellsD]
theorem rowD_cells (l : List DP) : ∀ (k : Nat), k < l.length → (rowD l)[k * 2]? = some (.int .i64 (atD l k).a) ∧ (rowD l)[k * 2 + 1]? = some (.int .i64 (atD l k).i) := by
  induction l with
  | nil => intro k h; cases h
  | cons f l ih =>
    intro k h
    rw [rowD_cons]
    cases k with
    | zero => exact ⟨rfl, rfl⟩
    | succ k =>
      obtain ⟨h1, h2⟩ := ih k (by simpa using h)
      refine ⟨?_, ?_⟩
      · rw [show (k + 1) * 2 = k * 2 + 1 + 1 by omega]
        simpa [atD] using h1
      · rw [show (k + 1) * 2 + 1 = (k * 2 + 1) + 1 + 1 by omega]
        simpa [atD] using h2
theorem rowD_set (l : List DP) : ∀ (k : Nat) (d : DP), k < l.length → rowD (l.set k d) = ((rowD l).set (k * 2) (.int .i64 d.a)).set (k * 2 + 1) (.int .i64 d.i) := by
  induction l with
  | nil => intro k d h; cases h
  | cons f l ih =>
    intro k d h
    cases k with
    | zero => simp [rowD_cons]
    | succ k =>
      rw [List.set_cons_succ, rowD_cons, rowD_cons, ih k d (by simpa using h), show (k + 1) * 2 = k * 2 + 1 + 1 by omega]
      rfl
theorem rowD_take (l : List DP) : ∀ k : Nat, (rowD l).take (k * 2) = rowD (l.take k) := by
  induction l with
  | nil => intro k; simp [rowD_nil]
  | cons f l ih =>
    intro k
    cases k with
    | zero => simp [rowD_nil]
    | succ k =>
      rw [rowD_cons, List.take_succ_cons, rowD_cons, show (k + 1) * 2 = k * 2 + 1 + 1 by omega, List.take_succ_cons, List.take_succ_cons, ih]
theorem rowD_one (l : List DP) : ∀ v ∈ rowD l, v.oneCell' = true := by
  intro v hv
  simp only [rowD, List.mem_flatMap, cellsD, List.mem_cons, List.not_mem_nil, or_false] at hv
  obtain ⟨d, -, rfl | rfl⟩ := hv <;> rfl

/-- the block g holds these ones, and room for cap of them -/
def RowD (w : World) (g cap : Nat) (l : List DP) : Prop := ∃ cur : List Value, Bx w g 24 cur ∧ l.length ≤ cap ∧ cap ≤ maxLen ∧ cur.length = cap * 2 ∧ cur.take (l.length * 2) = rowD l
theorem RowD.lt {w : World} {g cap : Nat} {l : List DP} (h : RowD w g cap l) : g < w.heap.size := by obtain ⟨cur, h, -⟩ := h; exact h.lt
theorem RowD.at {w : World} {g cap : Nat} {l : List DP} (h : RowD w g cap l) (k : Nat) (hk : k < l.length) :
    w.cell? ⟨g, k * 2, none⟩ = some (.int .i64 (atD l k).a) ∧ w.cell? ⟨g, k * 2 + 1, none⟩ = some (.int .i64 (atD l k).i) ∧ ∀ j, w.frozen? ⟨g, j, none⟩ = false := by
  obtain ⟨cur, hb, h1, h2, h3, h4⟩ := h
  obtain ⟨c1, c2⟩ := rowD_cells l k hk
  rw [← h4, List.getElem?_take] at c1 c2
  rw [if_pos (by omega)] at c1 c2
  refine ⟨?_, ?_, fun j => hb.frozen j⟩
  · simp [World.cell?, show w.heap[g]? = _ from hb, c1]
  · simp [World.cell?, show w.heap[g]? = _ from hb, c2]
theorem RowD.kept {w w' : World} {g cap : Nat} {l : List DP} (h : RowD w g cap l) (e : w'.heap[g]? = w.heap[g]?) : RowD w' g cap l := by
  obtain ⟨cur, hb, r⟩ := h
  exact ⟨cur, e.trans hb, r⟩
theorem RowD.set {w : World} {g cap : Nat} {l : List DP} (h : RowD w g cap l) (k : Nat) (hk : k < l.length) (d : DP) :
    RowD ((w.setCell ⟨g, k * 2, none⟩ (.int .i64 d.a)).setCell ⟨g, k * 2 + 1, none⟩ (.int .i64 d.i)) g cap (l.set k d) := by
  obtain ⟨cur, hb, h1, h2, h3, h4⟩ := h
  refine ⟨_, (hb.set _ _).set _ _, by simpa using h1, h2, by simpa using h3, ?_⟩
  rw [List.length_set, List.take_set, List.take_set, h4, rowD_set l k d hk]
theorem RowD.own {w : World} {g cap base : Nat} {l : List DP} (h : RowD w g cap l) (hb : base ≤ g) : w.ownsRow base 24 2 (.slice (some ⟨g, 0, none⟩) l.length cap) l.length (rowD l) := by
  obtain ⟨cur, hx, h1, h2, h3, h4⟩ := h
  exact ⟨rowD_length l, .inr ⟨g, cap, cur.toArray, rfl, hb, hx, h1, h2, by simpa using h3, h4⟩⟩
theorem RowD.of {w : World} {base : Nat} {v : Value} {l : List DP} (h : w.ownsRow base 24 2 v l.length (rowD l)) : (v = .slice none 0 0 ∧ l = []) ∨ ∃ g cap, v = .slice (some ⟨g, 0, none⟩) l.length cap ∧ base ≤ g ∧ RowD w g cap l := by
  obtain ⟨h1, ⟨rfl, h0⟩ | ⟨g, cap, cur, rfl, hg, hb, hn, hc, hs, ht⟩⟩ := h
  · exact .inl ⟨rfl, List.eq_nil_of_length_eq_zero h0⟩
  · exact .inr ⟨g, cap, rfl, hg, cur.toList, by simpa [Bx] using hb, hn, hc, by simpa using hs, ht⟩

/-- the box of the heap -/
abbrev BoxQ (w : World) (b : Nat) (v : Value) : Prop := Bx w b 57 [v]
theorem BoxQ.c {w : World} {b : Nat} {v : Value} (h : BoxQ w b v) : w.cell? ⟨b, 0, none⟩ = some v := h.cell 0 (by simp)
theorem bx_apart {w : World} {b g : Nat} {s t : TypeId} {l m : List Value} (h : Bx w b s l) (k : Bx w g t m) (hne : s ≠ t) : b ≠ g := by
  intro e
  subst e
  have := h.symm.trans k
  simp only [Option.some.injEq, Obj.cells.injEq] at this
  exact hne this.2.1

theorem meth_len {b : Nat} {v : Value} {w : World} (h : w.cell? ⟨b, 0, none⟩ = some v) : Sem.run Try.prog (method 193 51 (.pointer (some ⟨b, 0, none⟩)) "Len") w = .ok (40, v) w := by
  have e : Sem.run Try.prog (method 193 51 (.pointer (some ⟨b, 0, none⟩)) "Len") w = Sem.run Try.prog (.load .plain ⟨b, 0, none⟩ fun v => .pure (40, v)) w := by kernel_rfl
  rw [e]
  simp [Sem.run, h]
theorem meth_less {b : Nat} {v : Value} {w : World} (h : w.cell? ⟨b, 0, none⟩ = some v) : Sem.run Try.prog (method 193 51 (.pointer (some ⟨b, 0, none⟩)) "Less") w = .ok (30, v) w := by
  have e : Sem.run Try.prog (method 193 51 (.pointer (some ⟨b, 0, none⟩)) "Less") w = Sem.run Try.prog (.load .plain ⟨b, 0, none⟩ fun v => .pure (30, v)) w := by kernel_rfl
  rw [e]
  simp [Sem.run, h]
theorem meth_swap {b : Nat} {v : Value} {w : World} (h : w.cell? ⟨b, 0, none⟩ = some v) : Sem.run Try.prog (method 193 51 (.pointer (some ⟨b, 0, none⟩)) "Swap") w = .ok (66, v) w := by
  have e : Sem.run Try.prog (method 193 51 (.pointer (some ⟨b, 0, none⟩)) "Swap") w = Sem.run Try.prog (.load .plain ⟨b, 0, none⟩ fun v => .pure (66, v)) w := by kernel_rfl
  rw [e]
  simp [Sem.run, h]
theorem meth_push (b : Nat) (w : World) : Sem.run Try.prog (method 193 51 (.pointer (some ⟨b, 0, none⟩)) "Push") w = .ok (65, .pointer (some ⟨b, 0, none⟩)) w := by kernel_rfl
theorem meth_pop (b : Nat) (w : World) : Sem.run Try.prog (method 193 51 (.pointer (some ⟨b, 0, none⟩)) "Pop") w = .ok (64, .pointer (some ⟨b, 0, none⟩)) w := by kernel_rfl
theorem nil_ahead (n : String) (b : Nat) (w : World) (h : n = "Len" ∨ n = "Less" ∨ n = "Swap" ∨ n = "Push" ∨ n = "Pop") : Sem.run Try.prog (nilAhead 193 51 (.pointer (some ⟨b, 0, none⟩)) n) w = .ok (some false) w := by
  rcases h with rfl | rfl | rfl | rfl | rfl <;> kernel_rfl
end Go.Proofs.Ytlbmkokdoigcnaa
