/-
  A store of seven cells into a box: what it asks for, and what stays. No condition.
-/
import Derived.Test.YtbdhppigmlfjhaaJMem
namespace Go.Proofs.Ytbdhppigmlfjhaa
open Go.RowKit

theorem Bx.store7 {W : World} {B : Nat} {t : TypeId} {a0 a1 a2 a3 a4 a5 a6 : Value} (h : Bx W B t [a0, a1, a2, a3, a4, a5, a6]) (b0 b1 b2 b3 b4 b5 b6 : Value) :
    W.cell? ⟨B, 0, none⟩ = some a0 ∧
    W.frozen? ⟨B, 0, none⟩ = false ∧
    (W.setCell ⟨B, 0, none⟩ b0).cell? ⟨B, 1, none⟩ = some a1 ∧
    (W.setCell ⟨B, 0, none⟩ b0).frozen? ⟨B, 1, none⟩ = false ∧
    ((W.setCell ⟨B, 0, none⟩ b0).setCell ⟨B, 1, none⟩ b1).cell? ⟨B, 2, none⟩ = some a2 ∧
    ((W.setCell ⟨B, 0, none⟩ b0).setCell ⟨B, 1, none⟩ b1).frozen? ⟨B, 2, none⟩ = false ∧
    (((W.setCell ⟨B, 0, none⟩ b0).setCell ⟨B, 1, none⟩ b1).setCell ⟨B, 2, none⟩ b2).cell? ⟨B, 3, none⟩ = some a3 ∧
    (((W.setCell ⟨B, 0, none⟩ b0).setCell ⟨B, 1, none⟩ b1).setCell ⟨B, 2, none⟩ b2).frozen? ⟨B, 3, none⟩ = false ∧
    ((((W.setCell ⟨B, 0, none⟩ b0).setCell ⟨B, 1, none⟩ b1).setCell ⟨B, 2, none⟩ b2).setCell ⟨B, 3, none⟩ b3).cell? ⟨B, 4, none⟩ = some a4 ∧
    ((((W.setCell ⟨B, 0, none⟩ b0).setCell ⟨B, 1, none⟩ b1).setCell ⟨B, 2, none⟩ b2).setCell ⟨B, 3, none⟩ b3).frozen? ⟨B, 4, none⟩ = false ∧
    (((((W.setCell ⟨B, 0, none⟩ b0).setCell ⟨B, 1, none⟩ b1).setCell ⟨B, 2, none⟩ b2).setCell ⟨B, 3, none⟩ b3).setCell ⟨B, 4, none⟩ b4).cell? ⟨B, 5, none⟩ = some a5 ∧
    (((((W.setCell ⟨B, 0, none⟩ b0).setCell ⟨B, 1, none⟩ b1).setCell ⟨B, 2, none⟩ b2).setCell ⟨B, 3, none⟩ b3).setCell ⟨B, 4, none⟩ b4).frozen? ⟨B, 5, none⟩ = false ∧
    ((((((W.setCell ⟨B, 0, none⟩ b0).setCell ⟨B, 1, none⟩ b1).setCell ⟨B, 2, none⟩ b2).setCell ⟨B, 3, none⟩ b3).setCell ⟨B, 4, none⟩ b4).setCell ⟨B, 5, none⟩ b5).cell? ⟨B, 6, none⟩ = some a6 ∧
    ((((((W.setCell ⟨B, 0, none⟩ b0).setCell ⟨B, 1, none⟩ b1).setCell ⟨B, 2, none⟩ b2).setCell ⟨B, 3, none⟩ b3).setCell ⟨B, 4, none⟩ b4).setCell ⟨B, 5, none⟩ b5).frozen? ⟨B, 6, none⟩ = false ∧
    Bx (((((((W.setCell ⟨B, 0, none⟩ b0).setCell ⟨B, 1, none⟩ b1).setCell ⟨B, 2, none⟩ b2).setCell ⟨B, 3, none⟩ b3).setCell ⟨B, 4, none⟩ b4).setCell ⟨B, 5, none⟩ b5).setCell ⟨B, 6, none⟩ b6) B t [b0, b1, b2, b3, b4, b5, b6] :=
  ⟨h.cell 0 (by simp), h.frozen 0, (h.set 0 b0).cell 1 (by simp), (h.set 0 b0).frozen 1, ((h.set 0 b0).set 1 b1).cell 2 (by simp), ((h.set 0 b0).set 1 b1).frozen 2, (((h.set 0 b0).set 1 b1).set 2 b2).cell 3 (by simp), (((h.set 0 b0).set 1 b1).set 2 b2).frozen 3, ((((h.set 0 b0).set 1 b1).set 2 b2).set 3 b3).cell 4 (by simp), ((((h.set 0 b0).set 1 b1).set 2 b2).set 3 b3).frozen 4, (((((h.set 0 b0).set 1 b1).set 2 b2).set 3 b3).set 4 b4).cell 5 (by simp), (((((h.set 0 b0).set 1 b1).set 2 b2).set 3 b3).set 4 b4).frozen 5, ((((((h.set 0 b0).set 1 b1).set 2 b2).set 3 b3).set 4 b4).set 5 b5).cell 6 (by simp), ((((((h.set 0 b0).set 1 b1).set 2 b2).set 3 b3).set 4 b4).set 5 b5).frozen 6, (((((((h.set 0 b0).set 1 b1).set 2 b2).set 3 b3).set 4 b4).set 5 b5).set 6 b6)⟩
theorem below_store7 {n B : Nat} {w W : World} (h : Below n w W) (hn : n ≤ B) (b0 b1 b2 b3 b4 b5 b6 : Value) : Below n w (((((((W.setCell ⟨B, 0, none⟩ b0).setCell ⟨B, 1, none⟩ b1).setCell ⟨B, 2, none⟩ b2).setCell ⟨B, 3, none⟩ b3).setCell ⟨B, 4, none⟩ b4).setCell ⟨B, 5, none⟩ b5).setCell ⟨B, 6, none⟩ b6) :=
  (((((((h.setCell (p := ⟨B, 0, none⟩) hn b0).setCell (p := ⟨B, 1, none⟩) hn b1).setCell (p := ⟨B, 2, none⟩) hn b2).setCell (p := ⟨B, 3, none⟩) hn b3).setCell (p := ⟨B, 4, none⟩) hn b4).setCell (p := ⟨B, 5, none⟩) hn b5).setCell (p := ⟨B, 6, none⟩) hn b6)
theorem Bx.other7 {W : World} {B B2 : Nat} {t : TypeId} {l : List Value} (h : Bx W B2 t l) (hne : B ≠ B2) (b0 b1 b2 b3 b4 b5 b6 : Value) : Bx (((((((W.setCell ⟨B, 0, none⟩ b0).setCell ⟨B, 1, none⟩ b1).setCell ⟨B, 2, none⟩ b2).setCell ⟨B, 3, none⟩ b3).setCell ⟨B, 4, none⟩ b4).setCell ⟨B, 5, none⟩ b5).setCell ⟨B, 6, none⟩ b6) B2 t l :=
  (((((((h.other (B' := B) hne 0 b0).other (B' := B) hne 1 b1).other (B' := B) hne 2 b2).other (B' := B) hne 3 b3).other (B' := B) hne 4 b4).other (B' := B) hne 5 b5).other (B' := B) hne 6 b6)
theorem Bx.seven {W : World} {B : Nat} {t : TypeId} {a0 a1 a2 a3 a4 a5 a6 : Value} (h : Bx W B t [a0, a1, a2, a3, a4, a5, a6]) : W.cell? ⟨B, 0, none⟩ = some a0 ∧ W.cell? ⟨B, 1, none⟩ = some a1 ∧ W.cell? ⟨B, 2, none⟩ = some a2 ∧ W.cell? ⟨B, 3, none⟩ = some a3 ∧ W.cell? ⟨B, 4, none⟩ = some a4 ∧ W.cell? ⟨B, 5, none⟩ = some a5 ∧ W.cell? ⟨B, 6, none⟩ = some a6 :=
  ⟨h.cell 0 (by simp), h.cell 1 (by simp), h.cell 2 (by simp), h.cell 3 (by simp), h.cell 4 (by simp), h.cell 5 (by simp), h.cell 6 (by simp)⟩
theorem Bx.three {W : World} {B : Nat} {t : TypeId} {a0 a1 a2 : Value} (h : Bx W B t [a0, a1, a2]) : W.cell? ⟨B, 0, none⟩ = some a0 ∧ W.cell? ⟨B, 1, none⟩ = some a1 ∧ W.cell? ⟨B, 2, none⟩ = some a2 :=
  ⟨h.cell 0 (by simp), h.cell 1 (by simp), h.cell 2 (by simp)⟩
end Go.Proofs.Ytbdhppigmlfjhaa
