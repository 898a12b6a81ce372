/-
  Rows of frames in memory; the document's own Same answers that two rows of the same frames are the same; nothing that was there is changed. No condition.
-/
import Derived.Test.YtjpijggbkiihhaaDoorMStr
import Derived.Test.YtjpijggbkiihhaaDoorWSplitB
namespace Go.Proofs.YtjpijggbkiihhaaDoor
open Go.RowKit

theorem vals_of_row3 {w : World} {base : Nat} {e : TypeId} {v : Value} {l : List Value} {n : Nat} (h : w.ownsRow base e 3 v n l) : ∃ A c, v = .slice A n c ∧ ValsAt w A l ∧ (A = none → n = 0 ∧ c = 0) ∧ n ≤ c := by
  obtain ⟨hlen, ⟨rfl, h0⟩ | ⟨g, cap, cur, rfl, hg, hb, hn, hc, hs, ht⟩⟩ := h
  · exact ⟨none, 0, by rw [h0], (fun h => by omega), fun _ => ⟨h0, rfl⟩, by omega⟩
  · refine ⟨_, cap, rfl, fun _ => ⟨g, 0, rfl, (Array.getElem?_eq_some_iff.1 hb).1, fun i hi => ?_⟩, (fun h => by cases h), hn⟩
    have e1 : w.cell? ⟨g, 0 + i, none⟩ = cur[i]? := by simp [World.cell?, hb]
    rw [e1]
    have h2 : (List.take (n * 3) cur.toList)[i]? = some l[i] := by rw [ht]; exact List.getElem?_eq_getElem hi
    rw [List.getElem?_take] at h2
    split at h2
    · rw [← h2, Array.getElem?_toList]
    · cases h2
/-- the three cells of the frame k -/
theorem row_cells (l : List Fr) : ∀ (k : Nat) (h : k < l.length), (rowFr l)[k * 3]? = some (.int .i64 l[k].t) ∧ (rowFr l)[k * 3 + 1]? = some (.int .i64 l[k].c) ∧ (rowFr l)[k * 3 + 2]? = some (.string l[k].d) := by
  induction l with
  | nil => intro k h; cases h
  | cons f l ih =>
    intro k h
    have e : rowFr (f :: l) = [.int .i64 f.t, .int .i64 f.c, .string f.d] ++ rowFr l := by simp [rowFr, cellsFr]
    cases k with
    | zero => rw [e]; simp
    | succ k =>
      obtain ⟨h1, h2, h3⟩ := ih k (by simpa using h)
      rw [e]
      refine ⟨?_, ?_, ?_⟩
      · rw [show (k + 1) * 3 = k * 3 + 1 + 1 + 1 by omega]
        simpa using h1
      · rw [show (k + 1) * 3 + 1 = (k * 3 + 1) + 1 + 1 + 1 by omega]
        simpa using h2
      · rw [show (k + 1) * 3 + 2 = (k * 3 + 2) + 1 + 1 + 1 by omega]
        simpa using h3
theorem vals_frame {w : World} {A : Option Addr} {l : List Fr} (h : ValsAt w A (rowFr l)) (k : Nat) (hk : k < l.length) :
    ∃ b off, A = some ⟨b, off, none⟩ ∧ b < w.heap.size ∧ ∀ w', Below w.heap.size w w' → w'.cell? ⟨b, off + k * 3, none⟩ = some (.int .i64 l[k].t) ∧ w'.cell? ⟨b, off + k * 3 + 1, none⟩ = some (.int .i64 l[k].c) ∧ w'.cell? ⟨b, off + k * 3 + 2, none⟩ = some (.string l[k].d) := by
  have hl := rowFr_length l
  obtain ⟨b, off, hA, hlt, hc⟩ := h (by omega)
  refine ⟨b, off, hA, hlt, fun w' hb => ?_⟩
  obtain ⟨h1, h2, h3⟩ := row_cells l k hk
  have g : ∀ i v, (rowFr l)[i]? = some v → w'.cell? ⟨b, off + i, none⟩ = some v := fun i v hv => by
    obtain ⟨hi, he⟩ := List.getElem?_eq_some_iff.1 hv
    rw [hb.cell (p := ⟨b, off + i, none⟩) hlt, hc i hi, he]
  exact ⟨g _ _ h1, g _ _ h2, g _ _ h3⟩
set_option maxRecDepth 100000 in
set_option maxHeartbeats 2000000 in
theorem same_any (A B : Option Addr) (c c' : Nat) (l : List Fr) (w : World) (hA : ValsAt w A (rowFr l)) (hB : ValsAt w B (rowFr l)) (hl : l.length ≤ 9223372036854775807) :
    Calls Tryd.prog 19 #[.slice A l.length c, .slice B l.length c'] w fun e w' => e = .returned (.bool true) ∧ Below w.heap.size w w' := by
  go_enter Tryd.func19, Tryd.ntmps19
  go_wp2
  go_loopw [5] (fun v wr => ∃ k : Nat, k ≤ l.length ∧ v = .int .i64 k ∧ Below w.heap.size w wr) (fun v _ => l.length - (intOf v).toNat)
  case atStart => exact ⟨0, Nat.zero_le _, rfl, Below.refl _ _⟩
  case round =>
    obtain ⟨k, hk, rfl, hb⟩ := hrel
    by_cases hlt : k < l.length
    · obtain ⟨b1, o1, rfl, -, g1⟩ := vals_frame hA k hlt
      obtain ⟨b2, o2, rfl, -, g2⟩ := vals_frame hB k hlt
      obtain ⟨c1, c2, c3⟩ := g1 wr hb
      obtain ⟨d1, d2, d3⟩ := g2 wr hb
      clear g1 g2 hA hB
      generalize l[k] = f at *
      obtain ⟨t, ch, da⟩ := f
      dsimp only at *
      go_wp2
      go_quiet (fail)
      go_wp2
      go_roundw
      case rel => exact ⟨k + 1, by omega, by go_num, below_drewN hb _⟩
      case measure => simp [intOf]; omega
    · obtain rfl : k = l.length := by omega
      go_wp2
      go_ret
      exact ⟨rfl, hb⟩
end Go.Proofs.YtjpijggbkiihhaaDoor
