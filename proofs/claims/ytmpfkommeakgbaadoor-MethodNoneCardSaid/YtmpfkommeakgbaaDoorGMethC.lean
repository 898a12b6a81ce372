/-
  A slice of values that came in is no longer than its capacity. No condition.
-/
import Derived.Test.YtmpfkommeakgbaaDoorGMeth
namespace Go.Proofs.YtmpfkommeakgbaaDoor
open Go.RowKit Go.ChangeShapes Go.WideShapes Go.Deep

theorem slice_cap {H : Type} {enc : TypeId × Value → H} {W : World} {fuel : Nat} {A : Option Addr} {n c : Nat} {y : DataW H × List MemPlace}
    (h : DataW.trod enc Tryd.prog W 0 (fun _ => true) true fuel 22 [.slice A n c] = some y) : n ≤ c := by
  rcases open_slice Tryd.underlying22 h with ⟨hv, rfl⟩ | ⟨a, len, cap, m, n', D, Pl, hcs, hb, hl, hm, hmm, hx, hi⟩
  · simp only [List.cons.injEq, Value.slice.injEq, and_true] at hv
    omega
  · simp only [List.cons.injEq, Value.slice.injEq, and_true] at hcs
    omega
end Go.Proofs.YtmpfkommeakgbaaDoor
