/-
  Several texts joined in one file: each says at its own head, below, what it proves, and its conditions.
-/
import Derived.Test.YtkdiccedkjbpeaaGreatDoorRJMeth
import Derived.Test.YtkdiccedkjbpeaaGreatDoorRJMem
/-
  Values in memory, and what is answered of one. No condition.
-/
namespace Go.Proofs.YtkdiccedkjbpeaaGreatDoorR
open Go.RowKit

def encV (v : MV) : Value := .agg #[.int .u64 v.n, .string v.s]
def cellsV (v : MV) : List Value := [.int .u64 v.n, .string v.s]
/-- what is answered of a value: its bytes, if it is right -/
def vRes (c : UInt8) (v : MV) : ByteArray := if vE c v = 0 then vB c v else ⟨#[]⟩
def numR (k : Int) (v : MV) : ByteArray := if numE k v = 0 then putR k v.n else ⟨#[]⟩
theorem str_cases (s : ByteArray) : (s = ⟨#[]⟩ ∧ s.size = 0) ∨ ((s.toList == []) = false ∧ ¬ s.size = 0) := by
  by_cases h : s.size = 0
  · exact .inl ⟨ba_nil h, h⟩
  · exact .inr ⟨ba_ne h, h⟩
end Go.Proofs.YtkdiccedkjbpeaaGreatDoorR

/-
  Rows of values in memory: their cells; the sizes of what is laid. No condition.
-/
namespace Go.Proofs.YtkdiccedkjbpeaaGreatDoorR
open Go.RowKit

def rowV (l : List MV) : List Value := l.flatMap cellsV
theorem rowV_length (l : List MV) : (rowV l).length = l.length * 2 := by
  induction l with
  | nil => rfl
  | cons v l ih => simp only [rowV, List.flatMap_cons, List.length_append, List.length_cons] at ih ⊢; simp only [cellsV, List.length_cons, List.length_nil]; omega
theorem rowV_snoc (l : List MV) (v : MV) : rowV (l ++ [v]) = rowV l ++ cellsV v := by simp [rowV]
theorem rowV_append (l m : List MV) : rowV (l ++ m) = rowV l ++ rowV m := by simp [rowV]
theorem v_cells (l : List MV) : ∀ (k : Nat) (h : k < l.length), (rowV l)[k * 2]? = some (.int .u64 l[k].n) ∧ (rowV l)[k * 2 + 1]? = some (.string l[k].s) := by
  induction l with
  | nil => intro k h; cases h
  | cons f l ih =>
    intro k h
    have e : rowV (f :: l) = [.int .u64 f.n, .string f.s] ++ rowV l := by simp [rowV, cellsV]
    cases k with
    | zero => rw [e]; simp
    | succ k =>
      obtain ⟨h1, h2⟩ := ih k (by simpa using h)
      rw [e]
      refine ⟨?_, ?_⟩
      · rw [show (k + 1) * 2 = k * 2 + 1 + 1 by omega]
        simpa using h1
      · rw [show (k + 1) * 2 + 1 = (k * 2 + 1) + 1 + 1 by omega]
        simpa using h2
theorem vals_v {w : World} {A : Option Addr} {l : List MV} (h : ValsAt w A (rowV l)) (h0 : 0 < l.length) : ∃ b off, A = some ⟨b, off, none⟩ ∧ b < w.heap.size ∧ ∀ k (hk : k < l.length),
    w.cell? ⟨b, off + k * 2, none⟩ = some (.int .u64 l[k].n) ∧ w.cell? ⟨b, off + k * 2 + 1, none⟩ = some (.string l[k].s) := by
  have hl := rowV_length l
  obtain ⟨b, off, hA, hlt, hc⟩ := h (by omega)
  refine ⟨b, off, hA, hlt, fun k hk => ?_⟩
  obtain ⟨h1, h2⟩ := v_cells l k hk
  have g : ∀ i v, (rowV l)[i]? = some v → w.cell? ⟨b, off + i, none⟩ = some v := fun i v hv => by
    obtain ⟨hi, he⟩ := List.getElem?_eq_some_iff.1 hv
    rw [hc i hi, he]
  exact ⟨g _ _ h1, g _ _ h2⟩

theorem ttA_four_small {s : ByteArray} (h : ttOk 4 s = true) : (ttA 4 s).size < 4294967296 := by
  have e := ttA_size h
  have h2 := takeV_pow (ttOk_parts h).1
  have h3 := takeV_nonneg s 4
  have h4 : (256 : Nat) ^ (4 : Int).toNat = 4294967296 := by decide
  omega
theorem tabIs_size {s : ByteArray} (h : tabIs s = true) : s.size < 4294967400 := by
  simp only [tabIs, Bool.and_eq_true, decide_eq_true_eq] at h
  obtain ⟨-, -, a, g3, g4, -⟩ := nest_good h.1
  rw [ba_empty h.2, ba_append_e] at g3
  have hk : ttOk 4 s = true := by
    rcases Bool.eq_false_or_eq_true (ttOk 4 s) with hk | hk
    · exact hk
    · have := h.1
      rw [nest, nestOf, if_neg (by simp [hk])] at this
      simp only at this
      rw [ttE_four hk] at this
      cases this
  have h1 := ttA_four_small hk
  have h2 := layR_le 4 (ttA 4 s)
  rw [g4] at g3
  have h3 := congrArg ByteArray.size g3
  omega
theorem vB_size {c : UInt8} {v : MV} (h : vE c v = 0) : (vB c v).size ≤ 4294967400 := by
  unfold vE at h
  unfold vB
  by_cases h1 : c = 98
  · rw [if_pos h1]; exact Nat.zero_le _
  rw [if_neg h1] at h ⊢
  by_cases h2 : c = 83
  · rw [if_pos h2] at h ⊢
    have hk : layOk 1 v.s = true := by
      by_cases g : layOk 1 v.s = true
      · exact g
      · rw [if_neg g] at h; cases h
    have e := layR_size hk
    rw [layOk_one] at hk
    have : v.s.size ≤ 255 := by simpa using hk
    omega
  rw [if_neg h2] at h ⊢
  by_cases h3 : c = 76
  · rw [if_pos h3] at h ⊢
    have hk : ¬ 131072 < v.s.size := by
      intro g
      rw [if_pos g] at h; cases h
    have := layR_le 4 v.s
    omega
  rw [if_neg h3] at h ⊢
  by_cases h4 : c = 84
  · rw [if_pos h4] at h ⊢
    have hk : tabIs v.s = true := by
      by_cases g2 : v.n = 0
      · rw [if_pos g2] at h
        by_cases g : tabIs v.s = true
        · exact g
        · rw [if_neg g] at h; cases h
      · rw [if_neg g2] at h; cases h
    have := tabIs_size hk
    omega
  rw [if_neg h4] at h ⊢
  obtain ⟨k1, -⟩ := putOk_of_num h
  have e := putR_size k1
  have := isW_nat (putOk_w k1)
  omega
theorem layBy_size (K : Nat) (hK : 4294967401 ≤ K) : ∀ (ls : List UInt8) (l : List MV) (bs : List Bool), layEr ls l = 0 → (layBy ls l bs).size ≤ ls.length * K + bs.length + 7
  | [], l, bs, _ => by rw [layBy_nil, bitsS_len]; omega
  | c :: ls, [], bs, _ => by
    have e : layBy (c :: ls) [] bs = bitsS bs := rfl
    rw [e, bitsS_len]
    omega
  | c :: ls, v :: l, bs, h => by
    obtain ⟨h1, h2⟩ := layEr_cons h
    have e1 : (c :: ls).length * K = ls.length * K + K := by rw [List.length_cons, Nat.succ_mul]
    have h4 := vB_size h1
    rw [layBy, e1]
    by_cases hc : c = 98
    · rw [if_pos hc]
      have h3 := layBy_size K hK ls l (bs ++ [v.n == 1]) h2
      rw [List.length_append, List.length_singleton] at h3
      omega
    · rw [if_neg hc, ByteArray.size_append, ByteArray.size_append, bitsS_len]
      have h3 := layBy_size K hK ls l [] h2
      rw [List.length_nil] at h3
      omega
end Go.Proofs.YtkdiccedkjbpeaaGreatDoorR

/-
  What the program's text says of a value's cells. No condition.
-/
namespace Go.Proofs.YtkdiccedkjbpeaaGreatDoorR
open Go.RowKit

theorem infoVal : (Tryz.prog.info? 51).map (fun i => (i.zero, i.size, i.bytes)) = some (some (.agg #[.int .u64 0, .string ⟨#[]⟩]), 2, 24) := by kernel_rfl
theorem info_partsV {P : Program} {t : TypeId} {z : Option Value} {a b : Nat} (h : (P.info? t).map (fun i => (i.zero, i.size, i.bytes)) = some (z, a, b)) : ∃ i, P.info? t = some i ∧ i.zero = z ∧ i.size = a ∧ i.bytes = b := by
  obtain ⟨i, hi, he⟩ := Option.map_eq_some_iff.1 h
  simp only [Prod.mk.injEq] at he
  exact ⟨i, hi, he.1, he.2.1, he.2.2⟩
theorem rowV_one (l : List MV) : ∀ u ∈ rowV l, u.oneCell' = true := by
  intro u hu
  simp only [rowV, List.mem_flatMap, cellsV, List.mem_cons, List.not_mem_nil, or_false] at hu
  obtain ⟨v, -, rfl | rfl⟩ := hu <;> rfl
end Go.Proofs.YtkdiccedkjbpeaaGreatDoorR

/-
  One of a row's values. No condition.
-/
namespace Go.Proofs.YtkdiccedkjbpeaaGreatDoorR
open Go.RowKit

def argV (l : List MV) (i : Int) : MV := if 0 ≤ i then l.getD i.toNat noV else noV
theorem argV_low (l : List MV) {i : Int} (h : i < 0) : argV l i = noV := by rw [argV, if_neg (by omega)]
theorem argV_high (l : List MV) (k : Nat) (h : l.length ≤ k) : argV l (k : Int) = noV := by
  rw [argV, if_pos (by omega), Int.toNat_natCast, List.getD_eq_getElem?_getD, List.getElem?_eq_none h]; rfl
theorem argV_at (l : List MV) (k : Nat) (h : k < l.length) : argV l (k : Int) = l[k] := by
  rw [argV, if_pos (by omega), Int.toNat_natCast, List.getD_eq_getElem?_getD, List.getElem?_eq_getElem h]; rfl
theorem int_cases (i : Int) (n : Nat) : i < 0 ∨ (∃ k : Nat, i = k ∧ k < n) ∨ (∃ k : Nat, i = k ∧ n ≤ k) := by
  by_cases h : i < 0
  · exact .inl h
  · obtain ⟨k, rfl⟩ := Int.eq_ofNat_of_zero_le (show 0 ≤ i by omega)
    by_cases g : k < n
    · exact .inr (.inl ⟨k, rfl, g⟩)
    · exact .inr (.inr ⟨k, rfl, by omega⟩)
end Go.Proofs.YtkdiccedkjbpeaaGreatDoorR
