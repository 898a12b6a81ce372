/-
  What is said, taken apart. No condition.
-/
import Derived.Test.YtkdiccedkjbpeaaGreatDoorRWServe0
namespace Go.Proofs.YtkdiccedkjbpeaaGreatDoorR
open Go.RowKit

theorem said_parts {n : Nat} {w : World} {A : Option Addr} {k : Nat} {m : Me} (h : SaidAt n w A k (some m)) : k = 1 ∧ ∃ b A' c, A = some ⟨b, 0, none⟩ ∧ n ≤ b ∧ Bx w b 39 [.int .i64 m.c, .int .i64 m.i, .slice A' m.l.length c] ∧ RowAt n w A' m.l := h
theorem said_none {n : Nat} {w : World} {A : Option Addr} {k : Nat} (h : SaidAt n w A k none) : A = none ∧ k = 0 := h
end Go.Proofs.YtkdiccedkjbpeaaGreatDoorR
