/-
  A store of a whole command into a box: what it asks for, and what stays. No condition.
-/
import Derived.Test.YtllgkohgcicbhaaGreatDoorZA
import Derived.Test.YtllgkohgcicbhaaGreatDoorJC1
namespace Go.Proofs.YtllgkohgcicbhaaGreatDoor
open Go.RowKit

theorem Bx.store8 {W : World} {B : Nat} {t : TypeId} {a0 a1 a2 a3 a4 a5 a6 a7 : Value} (h : Bx W B t [a0, a1, a2, a3, a4, a5, a6, a7]) (b0 b1 b2 b3 b4 b5 b6 b7 : Value) :
    W.cell? ⟨B, 0, none⟩ = some a0 ∧
    W.frozen? ⟨B, 0, none⟩ = false ∧
    (W.setCell ⟨B, 0, none⟩ b0).cell? ⟨B, 1, none⟩ = some a1 ∧
    (W.setCell ⟨B, 0, none⟩ b0).frozen? ⟨B, 1, none⟩ = false ∧
    ((W.setCell ⟨B, 0, none⟩ b0).setCell ⟨B, 1, none⟩ b1).cell? ⟨B, 2, none⟩ = some a2 ∧
    ((W.setCell ⟨B, 0, none⟩ b0).setCell ⟨B, 1, none⟩ b1).frozen? ⟨B, 2, none⟩ = false ∧
    (((W.setCell ⟨B, 0, none⟩ b0).setCell ⟨B, 1, none⟩ b1).setCell ⟨B, 2, none⟩ b2).cell? ⟨B, 3, none⟩ = some a3 ∧
    (((W.setCell ⟨B, 0, none⟩ b0).setCell ⟨B, 1, none⟩ b1).setCell ⟨B, 2, none⟩ b2).frozen? ⟨B, 3, none⟩ = false ∧
    ((((W.setCell ⟨B, 0, none⟩ b0).setCell ⟨B, 1, none⟩ b1).setCell ⟨B, 2, none⟩ b2).setCell ⟨B, 3, none⟩ b3).cell? ⟨B, 4, none⟩ = some a4 ∧
    ((((W.setCell ⟨B, 0, none⟩ b0).setCell ⟨B, 1, none⟩ b1).setCell ⟨B, 2, none⟩ b2).setCell ⟨B, 3, none⟩ b3).frozen? ⟨B, 4, none⟩ = false ∧
    (((((W.setCell ⟨B, 0, none⟩ b0).setCell ⟨B, 1, none⟩ b1).setCell ⟨B, 2, none⟩ b2).setCell ⟨B, 3, none⟩ b3).setCell ⟨B, 4, none⟩ b4).cell? ⟨B, 5, none⟩ = some a5 ∧
    (((((W.setCell ⟨B, 0, none⟩ b0).setCell ⟨B, 1, none⟩ b1).setCell ⟨B, 2, none⟩ b2).setCell ⟨B, 3, none⟩ b3).setCell ⟨B, 4, none⟩ b4).frozen? ⟨B, 5, none⟩ = false ∧
    ((((((W.setCell ⟨B, 0, none⟩ b0).setCell ⟨B, 1, none⟩ b1).setCell ⟨B, 2, none⟩ b2).setCell ⟨B, 3, none⟩ b3).setCell ⟨B, 4, none⟩ b4).setCell ⟨B, 5, none⟩ b5).cell? ⟨B, 6, none⟩ = some a6 ∧
    ((((((W.setCell ⟨B, 0, none⟩ b0).setCell ⟨B, 1, none⟩ b1).setCell ⟨B, 2, none⟩ b2).setCell ⟨B, 3, none⟩ b3).setCell ⟨B, 4, none⟩ b4).setCell ⟨B, 5, none⟩ b5).frozen? ⟨B, 6, none⟩ = false ∧
    (((((((W.setCell ⟨B, 0, none⟩ b0).setCell ⟨B, 1, none⟩ b1).setCell ⟨B, 2, none⟩ b2).setCell ⟨B, 3, none⟩ b3).setCell ⟨B, 4, none⟩ b4).setCell ⟨B, 5, none⟩ b5).setCell ⟨B, 6, none⟩ b6).cell? ⟨B, 7, none⟩ = some a7 ∧
    (((((((W.setCell ⟨B, 0, none⟩ b0).setCell ⟨B, 1, none⟩ b1).setCell ⟨B, 2, none⟩ b2).setCell ⟨B, 3, none⟩ b3).setCell ⟨B, 4, none⟩ b4).setCell ⟨B, 5, none⟩ b5).setCell ⟨B, 6, none⟩ b6).frozen? ⟨B, 7, none⟩ = false ∧
    Bx ((((((((W.setCell ⟨B, 0, none⟩ b0).setCell ⟨B, 1, none⟩ b1).setCell ⟨B, 2, none⟩ b2).setCell ⟨B, 3, none⟩ b3).setCell ⟨B, 4, none⟩ b4).setCell ⟨B, 5, none⟩ b5).setCell ⟨B, 6, none⟩ b6).setCell ⟨B, 7, none⟩ b7) B t [b0, b1, b2, b3, b4, b5, b6, b7] :=
  ⟨h.cell 0 (by simp), h.frozen 0, (h.set 0 b0).cell 1 (by simp), (h.set 0 b0).frozen 1, ((h.set 0 b0).set 1 b1).cell 2 (by simp), ((h.set 0 b0).set 1 b1).frozen 2, (((h.set 0 b0).set 1 b1).set 2 b2).cell 3 (by simp), (((h.set 0 b0).set 1 b1).set 2 b2).frozen 3, ((((h.set 0 b0).set 1 b1).set 2 b2).set 3 b3).cell 4 (by simp), ((((h.set 0 b0).set 1 b1).set 2 b2).set 3 b3).frozen 4, (((((h.set 0 b0).set 1 b1).set 2 b2).set 3 b3).set 4 b4).cell 5 (by simp), (((((h.set 0 b0).set 1 b1).set 2 b2).set 3 b3).set 4 b4).frozen 5, ((((((h.set 0 b0).set 1 b1).set 2 b2).set 3 b3).set 4 b4).set 5 b5).cell 6 (by simp), ((((((h.set 0 b0).set 1 b1).set 2 b2).set 3 b3).set 4 b4).set 5 b5).frozen 6, (((((((h.set 0 b0).set 1 b1).set 2 b2).set 3 b3).set 4 b4).set 5 b5).set 6 b6).cell 7 (by simp), (((((((h.set 0 b0).set 1 b1).set 2 b2).set 3 b3).set 4 b4).set 5 b5).set 6 b6).frozen 7, ((((((((h.set 0 b0).set 1 b1).set 2 b2).set 3 b3).set 4 b4).set 5 b5).set 6 b6).set 7 b7)⟩
theorem below_store8 {n B : Nat} {w W : World} (h : Below n w W) (hn : n ≤ B) (b0 b1 b2 b3 b4 b5 b6 b7 : Value) : Below n w ((((((((W.setCell ⟨B, 0, none⟩ b0).setCell ⟨B, 1, none⟩ b1).setCell ⟨B, 2, none⟩ b2).setCell ⟨B, 3, none⟩ b3).setCell ⟨B, 4, none⟩ b4).setCell ⟨B, 5, none⟩ b5).setCell ⟨B, 6, none⟩ b6).setCell ⟨B, 7, none⟩ b7) :=
  ((((((((h.setCell (p := ⟨B, 0, none⟩) hn b0).setCell (p := ⟨B, 1, none⟩) hn b1).setCell (p := ⟨B, 2, none⟩) hn b2).setCell (p := ⟨B, 3, none⟩) hn b3).setCell (p := ⟨B, 4, none⟩) hn b4).setCell (p := ⟨B, 5, none⟩) hn b5).setCell (p := ⟨B, 6, none⟩) hn b6).setCell (p := ⟨B, 7, none⟩) hn b7)
theorem heap_store8 {W : World} {B : Nat} (b0 b1 b2 b3 b4 b5 b6 b7 : Value) (g : Nat) (hne : g ≠ B) : (((((((((W.setCell ⟨B, 0, none⟩ b0).setCell ⟨B, 1, none⟩ b1).setCell ⟨B, 2, none⟩ b2).setCell ⟨B, 3, none⟩ b3).setCell ⟨B, 4, none⟩ b4).setCell ⟨B, 5, none⟩ b5).setCell ⟨B, 6, none⟩ b6).setCell ⟨B, 7, none⟩ b7)).heap[g]? = W.heap[g]? :=
  ((Below.heap_setCell (((((((W.setCell ⟨B, 0, none⟩ b0).setCell ⟨B, 1, none⟩ b1).setCell ⟨B, 2, none⟩ b2).setCell ⟨B, 3, none⟩ b3).setCell ⟨B, 4, none⟩ b4).setCell ⟨B, 5, none⟩ b5).setCell ⟨B, 6, none⟩ b6) ⟨B, 7, none⟩ b7 g hne).trans ((Below.heap_setCell ((((((W.setCell ⟨B, 0, none⟩ b0).setCell ⟨B, 1, none⟩ b1).setCell ⟨B, 2, none⟩ b2).setCell ⟨B, 3, none⟩ b3).setCell ⟨B, 4, none⟩ b4).setCell ⟨B, 5, none⟩ b5) ⟨B, 6, none⟩ b6 g hne).trans ((Below.heap_setCell (((((W.setCell ⟨B, 0, none⟩ b0).setCell ⟨B, 1, none⟩ b1).setCell ⟨B, 2, none⟩ b2).setCell ⟨B, 3, none⟩ b3).setCell ⟨B, 4, none⟩ b4) ⟨B, 5, none⟩ b5 g hne).trans ((Below.heap_setCell ((((W.setCell ⟨B, 0, none⟩ b0).setCell ⟨B, 1, none⟩ b1).setCell ⟨B, 2, none⟩ b2).setCell ⟨B, 3, none⟩ b3) ⟨B, 4, none⟩ b4 g hne).trans ((Below.heap_setCell (((W.setCell ⟨B, 0, none⟩ b0).setCell ⟨B, 1, none⟩ b1).setCell ⟨B, 2, none⟩ b2) ⟨B, 3, none⟩ b3 g hne).trans ((Below.heap_setCell ((W.setCell ⟨B, 0, none⟩ b0).setCell ⟨B, 1, none⟩ b1) ⟨B, 2, none⟩ b2 g hne).trans ((Below.heap_setCell (W.setCell ⟨B, 0, none⟩ b0) ⟨B, 1, none⟩ b1 g hne).trans ((Below.heap_setCell W ⟨B, 0, none⟩ b0 g hne).trans rfl))))))))
theorem Bx.store9 {W : World} {B : Nat} {t : TypeId} {a0 a1 a2 a3 a4 a5 a6 a7 a8 : Value} (h : Bx W B t [a0, a1, a2, a3, a4, a5, a6, a7, a8]) (b0 b1 b2 b3 b4 b5 b6 b7 b8 : Value) :
    W.cell? ⟨B, 0, none⟩ = some a0 ∧
    W.frozen? ⟨B, 0, none⟩ = false ∧
    (W.setCell ⟨B, 0, none⟩ b0).cell? ⟨B, 1, none⟩ = some a1 ∧
    (W.setCell ⟨B, 0, none⟩ b0).frozen? ⟨B, 1, none⟩ = false ∧
    ((W.setCell ⟨B, 0, none⟩ b0).setCell ⟨B, 1, none⟩ b1).cell? ⟨B, 2, none⟩ = some a2 ∧
    ((W.setCell ⟨B, 0, none⟩ b0).setCell ⟨B, 1, none⟩ b1).frozen? ⟨B, 2, none⟩ = false ∧
    (((W.setCell ⟨B, 0, none⟩ b0).setCell ⟨B, 1, none⟩ b1).setCell ⟨B, 2, none⟩ b2).cell? ⟨B, 3, none⟩ = some a3 ∧
    (((W.setCell ⟨B, 0, none⟩ b0).setCell ⟨B, 1, none⟩ b1).setCell ⟨B, 2, none⟩ b2).frozen? ⟨B, 3, none⟩ = false ∧
    ((((W.setCell ⟨B, 0, none⟩ b0).setCell ⟨B, 1, none⟩ b1).setCell ⟨B, 2, none⟩ b2).setCell ⟨B, 3, none⟩ b3).cell? ⟨B, 4, none⟩ = some a4 ∧
    ((((W.setCell ⟨B, 0, none⟩ b0).setCell ⟨B, 1, none⟩ b1).setCell ⟨B, 2, none⟩ b2).setCell ⟨B, 3, none⟩ b3).frozen? ⟨B, 4, none⟩ = false ∧
    (((((W.setCell ⟨B, 0, none⟩ b0).setCell ⟨B, 1, none⟩ b1).setCell ⟨B, 2, none⟩ b2).setCell ⟨B, 3, none⟩ b3).setCell ⟨B, 4, none⟩ b4).cell? ⟨B, 5, none⟩ = some a5 ∧
    (((((W.setCell ⟨B, 0, none⟩ b0).setCell ⟨B, 1, none⟩ b1).setCell ⟨B, 2, none⟩ b2).setCell ⟨B, 3, none⟩ b3).setCell ⟨B, 4, none⟩ b4).frozen? ⟨B, 5, none⟩ = false ∧
    ((((((W.setCell ⟨B, 0, none⟩ b0).setCell ⟨B, 1, none⟩ b1).setCell ⟨B, 2, none⟩ b2).setCell ⟨B, 3, none⟩ b3).setCell ⟨B, 4, none⟩ b4).setCell ⟨B, 5, none⟩ b5).cell? ⟨B, 6, none⟩ = some a6 ∧
    ((((((W.setCell ⟨B, 0, none⟩ b0).setCell ⟨B, 1, none⟩ b1).setCell ⟨B, 2, none⟩ b2).setCell ⟨B, 3, none⟩ b3).setCell ⟨B, 4, none⟩ b4).setCell ⟨B, 5, none⟩ b5).frozen? ⟨B, 6, none⟩ = false ∧
    (((((((W.setCell ⟨B, 0, none⟩ b0).setCell ⟨B, 1, none⟩ b1).setCell ⟨B, 2, none⟩ b2).setCell ⟨B, 3, none⟩ b3).setCell ⟨B, 4, none⟩ b4).setCell ⟨B, 5, none⟩ b5).setCell ⟨B, 6, none⟩ b6).cell? ⟨B, 7, none⟩ = some a7 ∧
    (((((((W.setCell ⟨B, 0, none⟩ b0).setCell ⟨B, 1, none⟩ b1).setCell ⟨B, 2, none⟩ b2).setCell ⟨B, 3, none⟩ b3).setCell ⟨B, 4, none⟩ b4).setCell ⟨B, 5, none⟩ b5).setCell ⟨B, 6, none⟩ b6).frozen? ⟨B, 7, none⟩ = false ∧
    ((((((((W.setCell ⟨B, 0, none⟩ b0).setCell ⟨B, 1, none⟩ b1).setCell ⟨B, 2, none⟩ b2).setCell ⟨B, 3, none⟩ b3).setCell ⟨B, 4, none⟩ b4).setCell ⟨B, 5, none⟩ b5).setCell ⟨B, 6, none⟩ b6).setCell ⟨B, 7, none⟩ b7).cell? ⟨B, 8, none⟩ = some a8 ∧
    ((((((((W.setCell ⟨B, 0, none⟩ b0).setCell ⟨B, 1, none⟩ b1).setCell ⟨B, 2, none⟩ b2).setCell ⟨B, 3, none⟩ b3).setCell ⟨B, 4, none⟩ b4).setCell ⟨B, 5, none⟩ b5).setCell ⟨B, 6, none⟩ b6).setCell ⟨B, 7, none⟩ b7).frozen? ⟨B, 8, none⟩ = false ∧
    Bx (((((((((W.setCell ⟨B, 0, none⟩ b0).setCell ⟨B, 1, none⟩ b1).setCell ⟨B, 2, none⟩ b2).setCell ⟨B, 3, none⟩ b3).setCell ⟨B, 4, none⟩ b4).setCell ⟨B, 5, none⟩ b5).setCell ⟨B, 6, none⟩ b6).setCell ⟨B, 7, none⟩ b7).setCell ⟨B, 8, none⟩ b8) B t [b0, b1, b2, b3, b4, b5, b6, b7, b8] :=
  ⟨h.cell 0 (by simp), h.frozen 0, (h.set 0 b0).cell 1 (by simp), (h.set 0 b0).frozen 1, ((h.set 0 b0).set 1 b1).cell 2 (by simp), ((h.set 0 b0).set 1 b1).frozen 2, (((h.set 0 b0).set 1 b1).set 2 b2).cell 3 (by simp), (((h.set 0 b0).set 1 b1).set 2 b2).frozen 3, ((((h.set 0 b0).set 1 b1).set 2 b2).set 3 b3).cell 4 (by simp), ((((h.set 0 b0).set 1 b1).set 2 b2).set 3 b3).frozen 4, (((((h.set 0 b0).set 1 b1).set 2 b2).set 3 b3).set 4 b4).cell 5 (by simp), (((((h.set 0 b0).set 1 b1).set 2 b2).set 3 b3).set 4 b4).frozen 5, ((((((h.set 0 b0).set 1 b1).set 2 b2).set 3 b3).set 4 b4).set 5 b5).cell 6 (by simp), ((((((h.set 0 b0).set 1 b1).set 2 b2).set 3 b3).set 4 b4).set 5 b5).frozen 6, (((((((h.set 0 b0).set 1 b1).set 2 b2).set 3 b3).set 4 b4).set 5 b5).set 6 b6).cell 7 (by simp), (((((((h.set 0 b0).set 1 b1).set 2 b2).set 3 b3).set 4 b4).set 5 b5).set 6 b6).frozen 7, ((((((((h.set 0 b0).set 1 b1).set 2 b2).set 3 b3).set 4 b4).set 5 b5).set 6 b6).set 7 b7).cell 8 (by simp), ((((((((h.set 0 b0).set 1 b1).set 2 b2).set 3 b3).set 4 b4).set 5 b5).set 6 b6).set 7 b7).frozen 8, (((((((((h.set 0 b0).set 1 b1).set 2 b2).set 3 b3).set 4 b4).set 5 b5).set 6 b6).set 7 b7).set 8 b8)⟩
theorem below_store9 {n B : Nat} {w W : World} (h : Below n w W) (hn : n ≤ B) (b0 b1 b2 b3 b4 b5 b6 b7 b8 : Value) : Below n w (((((((((W.setCell ⟨B, 0, none⟩ b0).setCell ⟨B, 1, none⟩ b1).setCell ⟨B, 2, none⟩ b2).setCell ⟨B, 3, none⟩ b3).setCell ⟨B, 4, none⟩ b4).setCell ⟨B, 5, none⟩ b5).setCell ⟨B, 6, none⟩ b6).setCell ⟨B, 7, none⟩ b7).setCell ⟨B, 8, none⟩ b8) :=
  (((((((((h.setCell (p := ⟨B, 0, none⟩) hn b0).setCell (p := ⟨B, 1, none⟩) hn b1).setCell (p := ⟨B, 2, none⟩) hn b2).setCell (p := ⟨B, 3, none⟩) hn b3).setCell (p := ⟨B, 4, none⟩) hn b4).setCell (p := ⟨B, 5, none⟩) hn b5).setCell (p := ⟨B, 6, none⟩) hn b6).setCell (p := ⟨B, 7, none⟩) hn b7).setCell (p := ⟨B, 8, none⟩) hn b8)
theorem heap_store9 {W : World} {B : Nat} (b0 b1 b2 b3 b4 b5 b6 b7 b8 : Value) (g : Nat) (hne : g ≠ B) : ((((((((((W.setCell ⟨B, 0, none⟩ b0).setCell ⟨B, 1, none⟩ b1).setCell ⟨B, 2, none⟩ b2).setCell ⟨B, 3, none⟩ b3).setCell ⟨B, 4, none⟩ b4).setCell ⟨B, 5, none⟩ b5).setCell ⟨B, 6, none⟩ b6).setCell ⟨B, 7, none⟩ b7).setCell ⟨B, 8, none⟩ b8)).heap[g]? = W.heap[g]? :=
  ((Below.heap_setCell ((((((((W.setCell ⟨B, 0, none⟩ b0).setCell ⟨B, 1, none⟩ b1).setCell ⟨B, 2, none⟩ b2).setCell ⟨B, 3, none⟩ b3).setCell ⟨B, 4, none⟩ b4).setCell ⟨B, 5, none⟩ b5).setCell ⟨B, 6, none⟩ b6).setCell ⟨B, 7, none⟩ b7) ⟨B, 8, none⟩ b8 g hne).trans ((Below.heap_setCell (((((((W.setCell ⟨B, 0, none⟩ b0).setCell ⟨B, 1, none⟩ b1).setCell ⟨B, 2, none⟩ b2).setCell ⟨B, 3, none⟩ b3).setCell ⟨B, 4, none⟩ b4).setCell ⟨B, 5, none⟩ b5).setCell ⟨B, 6, none⟩ b6) ⟨B, 7, none⟩ b7 g hne).trans ((Below.heap_setCell ((((((W.setCell ⟨B, 0, none⟩ b0).setCell ⟨B, 1, none⟩ b1).setCell ⟨B, 2, none⟩ b2).setCell ⟨B, 3, none⟩ b3).setCell ⟨B, 4, none⟩ b4).setCell ⟨B, 5, none⟩ b5) ⟨B, 6, none⟩ b6 g hne).trans ((Below.heap_setCell (((((W.setCell ⟨B, 0, none⟩ b0).setCell ⟨B, 1, none⟩ b1).setCell ⟨B, 2, none⟩ b2).setCell ⟨B, 3, none⟩ b3).setCell ⟨B, 4, none⟩ b4) ⟨B, 5, none⟩ b5 g hne).trans ((Below.heap_setCell ((((W.setCell ⟨B, 0, none⟩ b0).setCell ⟨B, 1, none⟩ b1).setCell ⟨B, 2, none⟩ b2).setCell ⟨B, 3, none⟩ b3) ⟨B, 4, none⟩ b4 g hne).trans ((Below.heap_setCell (((W.setCell ⟨B, 0, none⟩ b0).setCell ⟨B, 1, none⟩ b1).setCell ⟨B, 2, none⟩ b2) ⟨B, 3, none⟩ b3 g hne).trans ((Below.heap_setCell ((W.setCell ⟨B, 0, none⟩ b0).setCell ⟨B, 1, none⟩ b1) ⟨B, 2, none⟩ b2 g hne).trans ((Below.heap_setCell (W.setCell ⟨B, 0, none⟩ b0) ⟨B, 1, none⟩ b1 g hne).trans ((Below.heap_setCell W ⟨B, 0, none⟩ b0 g hne).trans rfl)))))))))

/-- no value stands among these cells -/
def NoVal (cs : List Value) : Prop := ∀ (i : Nat) (n : Int) (s : ByteArray), cs[i]? = some (.int .u64 n) → cs[i + 1]? = some (.string s) → False
theorem vals_apart {W W' : World} {B : Nat} {t : TypeId} {cs : List Value} (hB : Bx W B t cs) (hno : NoVal cs) {A : Option Addr} {m : List MV} (h : ValsAt W A (rowV m)) (hW : ∀ g, g ≠ B → W'.heap[g]? = W.heap[g]?) : ValsAt W' A (rowV m) := fun h0 => by
  obtain ⟨b, off, hA, hlt, hc⟩ := h h0
  have hne : b ≠ B := by
    rintro rfl
    cases m with
    | nil => exact absurd h0 (by simp [rowV])
    | cons x m =>
      have g0 := hc 0 (by rw [rowV_length, List.length_cons]; omega)
      have g1 := hc 1 (by rw [rowV_length, List.length_cons]; omega)
      have e0 : (rowV (x :: m))[0]'(by rw [rowV_length, List.length_cons]; omega) = .int .u64 x.n := rfl
      have e1 : (rowV (x :: m))[1]'(by rw [rowV_length, List.length_cons]; omega) = .string x.s := rfl
      rw [e0] at g0
      rw [e1] at g1
      have k : ∀ i, W.cell? ⟨b, i, none⟩ = cs[i]? := fun i => by simp [World.cell?, show W.heap[b]? = _ from hB]
      rw [k] at g0 g1
      exact hno (off + 0) x.n x.s g0 g1
  have hk := hW b hne
  refine ⟨b, off, hA, ?_, fun i hi => ?_⟩
  · rw [Array.getElem?_eq_getElem hlt] at hk
    exact (Array.getElem?_eq_some_iff.1 hk).1
  · rw [← hc i hi]
    simp only [World.cell?, hk]
theorem noVal_cmd (a b c : Int) (z f : Int) (S T : Value) (s : ByteArray) (hT : ∀ r, T ≠ .string r) (hT2 : ∀ k n, T ≠ .int k n) : NoVal [.int .i64 a, .int .i64 b, S, .int .i64 c, .int .u64 z, .int .u64 f, T, .string s] := by
  intro i n r h1 h2
  match i, h1, h2 with
  | 0, h1, _ => simp at h1
  | 1, h1, _ => simp at h1
  | 2, _, h2 => simp at h2
  | 3, h1, _ => simp at h1
  | 4, _, h2 => simp at h2
  | 5, _, h2 => simp at h2; exact hT _ h2
  | 6, h1, _ => simp at h1; exact hT2 _ _ h1
  | 7, h1, _ => simp at h1
  | k + 8, h1, _ => simp at h1
theorem noVal_asm (st a b c : Int) (z f : Int) (S T : Value) (s : ByteArray) (hT : ∀ r, T ≠ .string r) (hT2 : ∀ k n, T ≠ .int k n) : NoVal [.int .i64 st, .int .i64 a, .int .i64 b, S, .int .i64 c, .int .u64 z, .int .u64 f, T, .string s] := by
  intro i n r h1 h2
  match i, h1, h2 with
  | 0, h1, _ => simp at h1
  | k + 1, h1, h2 => exact noVal_cmd a b c z f S T s hT hT2 k n r h1 h2
theorem noVal_cells (c : Cm) (A B : Option Addr) (ca cb : Nat) : NoVal (cellsC c A B ca cb) := noVal_cmd _ _ _ _ _ _ _ _ (fun r h => by cases h) (fun k n h => by cases h)
theorem noVal_zero8 : NoVal [.int .i64 0, .int .i64 0, .slice none 0 0, .int .i64 0, .int .u64 0, .int .u64 0, .slice none 0 0, .string ⟨#[]⟩] := noVal_cmd _ _ _ _ _ _ _ _ (fun r h => by cases h) (fun k n h => by cases h)
theorem noVal_zero9 : NoVal [.int .i64 0, .int .i64 0, .int .i64 0, .slice none 0 0, .int .i64 0, .int .u64 0, .int .u64 0, .slice none 0 0, .string ⟨#[]⟩] := noVal_asm _ _ _ _ _ _ _ _ _ (fun r h => by cases h) (fun k n h => by cases h)
theorem noVal_method (a b : Int) (S : Value) : NoVal [.int .i64 a, .int .i64 b, S] := by
  intro i n r h1 h2
  match i, h1, h2 with
  | 0, h1, _ => simp at h1
  | 1, h1, _ => simp at h1
  | k + 2, _, h2 => simp at h2
theorem noVal_head (a z f : Int) (S : Value) (hS : ∀ r, S ≠ .string r) : NoVal [.int .i64 a, .int .u64 z, .int .u64 f, S] := by
  intro i n r h1 h2
  match i, h1, h2 with
  | 0, h1, _ => simp at h1
  | 1, _, h2 => simp at h2
  | 2, _, h2 => simp at h2; exact hS _ h2
  | k + 3, _, h2 => simp at h2
theorem vals_store8 {W : World} {B : Nat} {t : TypeId} {cs : List Value} (hB : Bx W B t cs) (hno : NoVal cs) {A : Option Addr} {m : List MV} (h : ValsAt W A (rowV m)) (b0 b1 b2 b3 b4 b5 b6 b7 : Value) : ValsAt ((((((((W.setCell ⟨B, 0, none⟩ b0).setCell ⟨B, 1, none⟩ b1).setCell ⟨B, 2, none⟩ b2).setCell ⟨B, 3, none⟩ b3).setCell ⟨B, 4, none⟩ b4).setCell ⟨B, 5, none⟩ b5).setCell ⟨B, 6, none⟩ b6).setCell ⟨B, 7, none⟩ b7) A (rowV m) :=
  vals_apart hB hno h (fun g hne => heap_store8 b0 b1 b2 b3 b4 b5 b6 b7 g hne)
theorem vals_store9 {W : World} {B : Nat} {t : TypeId} {cs : List Value} (hB : Bx W B t cs) (hno : NoVal cs) {A : Option Addr} {m : List MV} (h : ValsAt W A (rowV m)) (b0 b1 b2 b3 b4 b5 b6 b7 b8 : Value) : ValsAt (((((((((W.setCell ⟨B, 0, none⟩ b0).setCell ⟨B, 1, none⟩ b1).setCell ⟨B, 2, none⟩ b2).setCell ⟨B, 3, none⟩ b3).setCell ⟨B, 4, none⟩ b4).setCell ⟨B, 5, none⟩ b5).setCell ⟨B, 6, none⟩ b6).setCell ⟨B, 7, none⟩ b7).setCell ⟨B, 8, none⟩ b8) A (rowV m) :=
  vals_apart hB hno h (fun g hne => heap_store9 b0 b1 b2 b3 b4 b5 b6 b7 b8 g hne)
end Go.Proofs.YtllgkohgcicbhaaGreatDoor
