/-
  A slice of frames that came in reads as a list of frames, and is of no more bulk than its reading. No condition.
-/
import Derived.Deep.Slices
import Derived.Deep.Fields
import Derived.ChangeSame
import Derived.Test.YtjpijggbkiihhaaDoorGLaw
import Derived.Test.YtjpijggbkiihhaaDoorGUpto
import Derived.Test.YtjpijggbkiihhaaDoorRFAll
namespace Go.Proofs.YtjpijggbkiihhaaDoor
open Go.RowKit Go.ChangeShapes Go.WideShapes Go.Deep

theorem frame_of_struct {H : Type} {enc : TypeId × Value → H} {w : World} {base : Nat} {sp : Nat → Bool} {held : Bool} {fuel : Nat} {cs : List Value} {x : DataW H × List MemPlace}
    (h : DataW.trod enc Tryd.prog w base sp held fuel 23 cs = some x) : ∃ f : Fr, cs = [.int .i64 f.t, .int .i64 f.c, .string f.d] ∧ Rows.uptoBulk x.1 = f.d.size + 4 := by
  obtain ⟨xs, n, -, hx, hlen, hxl, hf⟩ := DataW.trod_struct Tryd.underlying23 h
  have hC : Tryd.prog.cellsOf 23 = 3 := by kernel_rfl
  have hi1 : Tryd.prog.cellsOf 3 = 1 := by kernel_rfl
  have hs1 : Tryd.prog.cellsOf 9 = 1 := by kernel_rfl
  rw [hC] at hlen
  match cs, hlen with
  | [a, b, c], _ =>
    have h0 : DataW.trod enc Tryd.prog w base sp held n 3 ([a, b, c].take (Tryd.prog.cellsOf 3)) = xs[0]? := hf 0 _ rfl
    have h1 : DataW.trod enc Tryd.prog w base sp held n 3 ([b, c].take (Tryd.prog.cellsOf 3)) = xs[1]? := hf 1 _ rfl
    have h2 : DataW.trod enc Tryd.prog w base sp held n 9 ([c].take (Tryd.prog.cellsOf 9)) = xs[2]? := hf 2 _ rfl
    rw [hi1] at h0 h1
    rw [hs1] at h2
    simp only [List.take_succ_cons, List.take_zero] at h0 h1 h2
    match xs, hxl with
    | [x0, x1, x2], _ =>
      simp only [List.getElem?_cons_zero, List.getElem?_cons_succ] at h0 h1 h2
      obtain ⟨t, e0, rfl, -⟩ := DataW.trod_int Tryd.underlying3 h0
      obtain ⟨k, e1, rfl, -⟩ := DataW.trod_int Tryd.underlying3 h1
      obtain ⟨d, e2, hd, -⟩ := DataW.trod_string Tryd.underlying9 h2
      cases e0
      cases e1
      cases e2
      refine ⟨⟨t, k, d⟩, rfl, ?_⟩
      rw [hx]
      simp only [List.map_cons, List.map_nil, Rows.uptoBulk, Rows.uptoBulkAll]
      rw [hd]
      simp only [Rows.uptoBulk]
      have := ba_len d
      omega
theorem sum_of_parts {H : Type} (F : Nat → Fr) (D : Nat → DataW H) : ∀ L : List Nat, (∀ i ∈ L, Rows.uptoBulk (D i) = (F i).d.size + 4) → frSum (L.map F) ≤ Rows.uptoBulkAll (L.map D)
  | [], _ => Nat.le_refl _
  | i :: L, h => by
    have h1 := h i (List.mem_cons_self ..)
    have h2 := sum_of_parts F D L (fun j hj => h j (List.mem_cons_of_mem _ hj))
    simp only [List.map_cons, frSum, Rows.uptoBulkAll]
    omega
theorem frames_open {H : Type} {enc : TypeId × Value → H} {W : World} {fuel : Nat} {v : Value} {y : DataW H × List MemPlace}
    (h : DataW.trod enc Tryd.prog W 0 (fun _ => true) true fuel 34 [v] = some y) :
    ∃ (A : Option Addr) (l : List Fr) (cap : Nat), v = .slice A l.length cap ∧ ValsAt W A (rowFr l) ∧ frSum l + 1 ≤ Rows.uptoBulk y.1 := by
  have hC : Tryd.prog.cellsOf 23 = 3 := by kernel_rfl
  rcases open_slice Tryd.underlying34 h with ⟨hv, rfl⟩ | ⟨a, len, cap, m, n, D, Pl, hcs, hb, hl, hm, hmm, hx, hi⟩
  · obtain rfl : v = .slice none 0 0 := by simpa using hv
    exact ⟨none, [], 0, rfl, fun h => absurd h (by simp [rowFr]), by simp [frSum, Rows.uptoBulk]⟩
  · obtain rfl : v = .slice (some a) len cap := by simpa using hcs
    have hlm : len ≤ m := by rw [hmm]; simp; exact hl
    have H1 : ∀ i, ∃ f : Fr, i < len → (W.cell? (a.add (i * 3)) = some (.int .i64 f.t) ∧ W.cell? (a.add (i * 3 + 1)) = some (.int .i64 f.c) ∧ W.cell? (a.add (i * 3 + 2)) = some (.string f.d)) ∧ Rows.uptoBulk (D i) = f.d.size + 4 := by
      intro i
      by_cases h : i < len
      · obtain ⟨cs', hc, ht'⟩ := hi i (by omega)
        rw [hC] at hc
        obtain ⟨f, rfl, hbk⟩ := frame_of_struct ht'
        obtain ⟨-, hcl, hat⟩ := World.cells?_some hc
        refine ⟨f, fun _ => ⟨⟨?_, ?_, ?_⟩, hbk⟩⟩
        · have := hat 0 (by decide); rw [Go.Deep.add_add] at this; simpa using this
        · have := hat 1 (by decide); rw [Go.Deep.add_add] at this; simpa using this
        · have := hat 2 (by decide); rw [Go.Deep.add_add] at this; simpa using this
      · exact ⟨frNone, fun h' => absurd h' h⟩
    obtain ⟨F, hF⟩ : ∃ F : Nat → Fr, ∀ i, i < len → (W.cell? (a.add (i * 3)) = some (.int .i64 (F i).t) ∧ W.cell? (a.add (i * 3 + 1)) = some (.int .i64 (F i).c) ∧ W.cell? (a.add (i * 3 + 2)) = some (.string (F i).d)) ∧ Rows.uptoBulk (D i) = (F i).d.size + 4 :=
      ⟨fun i => Classical.choose (H1 i), fun i => Classical.choose_spec (H1 i)⟩
    refine ⟨some a, (List.range len).map F, cap, by simp, fun h0 => ?_, ?_⟩
    · rw [rowFr_length, List.length_map, List.length_range] at h0
      obtain ⟨b, off, spot⟩ := a
      have h00 := (hF 0 (by omega)).1.1
      have hspot : spot = none := by simpa [Addr.add] using World.cell?_spot h00
      subst hspot
      refine ⟨b, off, rfl, ?_, fun i hi' => ?_⟩
      · rcases Nat.lt_or_ge b W.heap.size with k | k
        · exact k
        · simp [World.cell?, Addr.add, Array.getElem?_eq_none k] at h00
      · have hi2 : i < len * 3 := by rw [rowFr_length, List.length_map, List.length_range] at hi'; exact hi'
        have hk : i / 3 < len := by omega
        obtain ⟨⟨c0, c1, c2⟩, -⟩ := hF (i / 3) hk
        obtain ⟨r0, r1, r2⟩ := row_cells ((List.range len).map F) (i / 3) (by simp; exact hk)
        simp only [List.getElem_map, List.getElem_range] at r0 r1 r2
        have hr : i % 3 = 0 ∨ i % 3 = 1 ∨ i % 3 = 2 := by omega
        have hv := List.getElem?_eq_getElem hi'
        rcases hr with hr | hr | hr
        · have e : i = i / 3 * 3 := by omega
          rw [← e] at c0 r0
          rw [Go.WideShapes.add_plain] at c0
          rw [c0, ← r0, hv]
        · have e : i = i / 3 * 3 + 1 := by omega
          rw [← e] at c1 r1
          rw [Go.WideShapes.add_plain] at c1
          rw [c1, ← r1, hv]
        · have e : i = i / 3 * 3 + 2 := by omega
          rw [← e] at c2 r2
          rw [Go.WideShapes.add_plain] at c2
          rw [c2, ← r2, hv]
    · rw [hx]
      show _ ≤ Rows.uptoBulkAll ((List.range len).map D) + Rows.uptoBulkAll _ + 1
      have := sum_of_parts F D (List.range len) (fun i hi' => (hF i (List.mem_range.1 hi')).2)
      omega
end Go.Proofs.YtjpijggbkiihhaaDoor
