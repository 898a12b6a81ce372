/-
  Several texts joined in one file: each says at its own head, below, what it proves, and its conditions.
-/
import Derived.Test.YtdgidbiolklneaaDoorJPlain
import Derived.Test.YtdgidbiolklneaaDoorJMem
/-
  A row of frames, cell by cell. No condition.
-/
namespace Go.Proofs.YtdgidbiolklneaaDoor
open Go.RowKit

/-- a frame as it stands in memory -/
def encFr (f : Fr) : Value := .agg #[.int .i64 f.t, .int .i64 f.c, .string f.d]
theorem infoFrame : (Tryd.prog.info? 36).map (fun i => (i.zero, i.size, i.bytes)) = some (some (.agg #[.int .i64 0, .int .i64 0, .string ⟨#[]⟩]), 3, 32) := by kernel_rfl
/-- a row of frames, cell by cell -/
def cellsFr (f : Fr) : List Value := [.int .i64 f.t, .int .i64 f.c, .string f.d]
def rowFr (l : List Fr) : List Value := l.flatMap cellsFr
theorem rowFr_snoc (l : List Fr) (f : Fr) : rowFr (l ++ [f]) = rowFr l ++ [.int .i64 f.t, .int .i64 f.c, .string f.d] := by simp [rowFr, cellsFr]
theorem rowFr_length (l : List Fr) : (rowFr l).length = l.length * 3 := by
  induction l with
  | nil => rfl
  | cons f l ih => simp [rowFr, cellsFr] at ih ⊢; omega
theorem cell_three_new (w : World) (x y z : Value) (t : TypeId) : ∀ j u, [x, y, z][j]? = some u → (w.alloc (.cells #[x, y, z] t)).cell? ((⟨w.heap.size, 0, none⟩ : Addr).add j) = some u := by
  intro j u hj
  match j, hj with
  | 0, hj => simp at hj; subst hj; simp [Addr.add]
  | 1, hj => simp at hj; subst hj; simp [Addr.add]
  | 2, hj => simp at hj; subst hj; simp [Addr.add]
theorem info_parts3 {P : Program} {t : TypeId} {z : Option Value} {a b : Nat} (h : (P.info? t).map (fun i => (i.zero, i.size, i.bytes)) = some (z, a, b)) : ∃ i, P.info? t = some i ∧ i.zero = z ∧ i.size = a ∧ i.bytes = b := by
  obtain ⟨i, hi, he⟩ := Option.map_eq_some_iff.1 h
  simp only [Prod.mk.injEq] at he
  exact ⟨i, hi, he.1, he.2.1, he.2.2⟩
end Go.Proofs.YtdgidbiolklneaaDoor

/-
  Rows of frames in memory. No condition.
-/
namespace Go.Proofs.YtdgidbiolklneaaDoor
open Go.RowKit

theorem vals_of_row3 {w : World} {base : Nat} {e : TypeId} {v : Value} {l : List Value} {n : Nat} (h : w.ownsRow base e 3 v n l) : ∃ A c, v = .slice A n c ∧ ValsAt w A l ∧ (A = none → n = 0 ∧ c = 0) ∧ n ≤ c := by
  obtain ⟨hlen, ⟨rfl, h0⟩ | ⟨g, cap, cur, rfl, hg, hb, hn, hc, hs, ht⟩⟩ := h
  · exact ⟨none, 0, by rw [h0], (fun h => by omega), fun _ => ⟨h0, rfl⟩, by omega⟩
  · refine ⟨_, cap, rfl, fun _ => ⟨g, 0, rfl, (Array.getElem?_eq_some_iff.1 hb).1, fun i hi => ?_⟩, (fun h => by cases h), hn⟩
    have e1 : w.cell? ⟨g, 0 + i, none⟩ = cur[i]? := by simp [World.cell?, hb]
    rw [e1]
    have h2 : (List.take (n * 3) cur.toList)[i]? = some l[i] := by rw [ht]; exact List.getElem?_eq_getElem hi
    rw [List.getElem?_take] at h2
    split at h2
    · rw [← h2, Array.getElem?_toList]
    · cases h2
/-- the three cells of the frame k -/
theorem row_cells (l : List Fr) : ∀ (k : Nat) (h : k < l.length), (rowFr l)[k * 3]? = some (.int .i64 l[k].t) ∧ (rowFr l)[k * 3 + 1]? = some (.int .i64 l[k].c) ∧ (rowFr l)[k * 3 + 2]? = some (.string l[k].d) := by
  induction l with
  | nil => intro k h; cases h
  | cons f l ih =>
    intro k h
    have e : rowFr (f :: l) = [.int .i64 f.t, .int .i64 f.c, .string f.d] ++ rowFr l := by simp [rowFr, cellsFr]
    cases k with
    | zero => rw [e]; simp
    | succ k =>
      obtain ⟨h1, h2, h3⟩ := ih k (by simpa using h)
      rw [e]
      refine ⟨?_, ?_, ?_⟩
      · rw [show (k + 1) * 3 = k * 3 + 1 + 1 + 1 by omega]
        simpa using h1
      · rw [show (k + 1) * 3 + 1 = (k * 3 + 1) + 1 + 1 + 1 by omega]
        simpa using h2
      · rw [show (k + 1) * 3 + 2 = (k * 3 + 2) + 1 + 1 + 1 by omega]
        simpa using h3
theorem vals_frame {w : World} {A : Option Addr} {l : List Fr} (h : ValsAt w A (rowFr l)) (k : Nat) (hk : k < l.length) :
    ∃ b off, A = some ⟨b, off, none⟩ ∧ b < w.heap.size ∧ ∀ w', Below w.heap.size w w' → w'.cell? ⟨b, off + k * 3, none⟩ = some (.int .i64 l[k].t) ∧ w'.cell? ⟨b, off + k * 3 + 1, none⟩ = some (.int .i64 l[k].c) ∧ w'.cell? ⟨b, off + k * 3 + 2, none⟩ = some (.string l[k].d) := by
  have hl := rowFr_length l
  obtain ⟨b, off, hA, hlt, hc⟩ := h (by omega)
  refine ⟨b, off, hA, hlt, fun w' hb => ?_⟩
  obtain ⟨h1, h2, h3⟩ := row_cells l k hk
  have g : ∀ i v, (rowFr l)[i]? = some v → w'.cell? ⟨b, off + i, none⟩ = some v := fun i v hv => by
    obtain ⟨hi, he⟩ := List.getElem?_eq_some_iff.1 hv
    rw [hb.cell (p := ⟨b, off + i, none⟩) hlt, hc i hi, he]
  exact ⟨g _ _ h1, g _ _ h2, g _ _ h3⟩
end Go.Proofs.YtdgidbiolklneaaDoor
