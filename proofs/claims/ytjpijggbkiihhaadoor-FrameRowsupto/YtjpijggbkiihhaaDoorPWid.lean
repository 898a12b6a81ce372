/-
  The four widths as tests. No condition.
-/
import Derived.Test.YtjpijggbkiihhaaDoorWWidth
namespace Go.Proofs.YtjpijggbkiihhaaDoor

theorem isW_tests {n : Int} (h : isW n = false) : (n != 1) = true ∧ (n != 2) = true ∧ (n != 4) = true ∧ (n != 8) = true := by
  simp [isW] at h
  simp
  omega
end Go.Proofs.YtjpijggbkiihhaaDoor
