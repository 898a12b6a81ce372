/-
  What the program's text says of a value's cells. No condition.
-/
import Derived.Test.YtjpldfkhacchdaaDoorMVals
namespace Go.Proofs.YtjpldfkhacchdaaDoor
open Go.RowKit

theorem infoVal : (Tryd.prog.info? 40).map (fun i => (i.zero, i.size, i.bytes)) = some (some (.agg #[.int .u64 0, .string ⟨#[]⟩]), 2, 24) := by kernel_rfl
theorem info_partsV {P : Program} {t : TypeId} {z : Option Value} {a b : Nat} (h : (P.info? t).map (fun i => (i.zero, i.size, i.bytes)) = some (z, a, b)) : ∃ i, P.info? t = some i ∧ i.zero = z ∧ i.size = a ∧ i.bytes = b := by
  obtain ⟨i, hi, he⟩ := Option.map_eq_some_iff.1 h
  simp only [Prod.mk.injEq] at he
  exact ⟨i, hi, he.1, he.2.1, he.2.2⟩
theorem rowV_one (l : List MV) : ∀ u ∈ rowV l, u.oneCell' = true := by
  intro u hu
  simp only [rowV, List.mem_flatMap, cellsV, List.mem_cons, List.not_mem_nil, or_false] at hu
  obtain ⟨v, -, rfl | rfl⟩ := hu <;> rfl
end Go.Proofs.YtjpldfkhacchdaaDoor
