/-
  Values in memory, and what is answered of one. No condition.
-/
import Derived.Test.YtjpldfkhacchdaaDoorJMeth
namespace Go.Proofs.YtjpldfkhacchdaaDoor
open Go.RowKit

def encV (v : MV) : Value := .agg #[.int .u64 v.n, .string v.s]
def cellsV (v : MV) : List Value := [.int .u64 v.n, .string v.s]
/-- what is answered of a value: its bytes, if it is right -/
def vRes (c : UInt8) (v : MV) : ByteArray := if vE c v = 0 then vB c v else ⟨#[]⟩
def numR (k : Int) (v : MV) : ByteArray := if numE k v = 0 then putR k v.n else ⟨#[]⟩
theorem str_cases (s : ByteArray) : (s = ⟨#[]⟩ ∧ s.size = 0) ∨ ((s.toList == []) = false ∧ ¬ s.size = 0) := by
  by_cases h : s.size = 0
  · exact .inl ⟨ba_nil h, h⟩
  · exact .inr ⟨ba_ne h, h⟩
end Go.Proofs.YtjpldfkhacchdaaDoor
