/-
  The document's own Of answers as the program's; nothing that was there is changed. No condition.
-/
import Derived.Test.YtmpfkommeakgbaaDoorRSigAll
import Derived.Test.YtmpfkommeakgbaaDoorWFind
namespace Go.Proofs.YtmpfkommeakgbaaDoor
open Go.RowKit

/-- the four cells of the row k -/
theorem rw_cells (l : List Met) : ∀ (k : Nat) (h : k < l.length), (rowRw l)[k * 4]? = some (.int .i64 l[k].c) ∧ (rowRw l)[k * 4 + 1]? = some (.int .i64 l[k].i) ∧ (rowRw l)[k * 4 + 2]? = some (.int .u8 (sideI l[k].s)) ∧ (rowRw l)[k * 4 + 3]? = some (.string l[k].v) := by
  induction l with
  | nil => intro k h; cases h
  | cons f l ih =>
    intro k h
    have e : rowRw (f :: l) = [.int .i64 f.c, .int .i64 f.i, .int .u8 (sideI f.s), .string f.v] ++ rowRw l := by simp [rowRw, cellsRw]
    cases k with
    | zero => rw [e]; simp
    | succ k =>
      obtain ⟨h1, h2, h3, h4⟩ := ih k (by simpa using h)
      rw [e]
      refine ⟨?_, ?_, ?_, ?_⟩
      · rw [show (k + 1) * 4 = k * 4 + 1 + 1 + 1 + 1 by omega]
        simpa using h1
      · rw [show (k + 1) * 4 + 1 = (k * 4 + 1) + 1 + 1 + 1 + 1 by omega]
        simpa using h2
      · rw [show (k + 1) * 4 + 2 = (k * 4 + 2) + 1 + 1 + 1 + 1 by omega]
        simpa using h3
      · rw [show (k + 1) * 4 + 3 = (k * 4 + 3) + 1 + 1 + 1 + 1 by omega]
        simpa using h4
theorem vals_met {w : World} {A : Option Addr} (h : ValsAt w A (rowRw mets)) (hl : (rowRw mets).length = 58 * 4) : ∃ b off, A = some ⟨b, off, none⟩ ∧ ∀ k (hk : k < mets.length),
    w.cell? ⟨b, off + k * 4, none⟩ = some (.int .i64 mets[k].c) ∧ w.cell? ⟨b, off + k * 4 + 1, none⟩ = some (.int .i64 mets[k].i) ∧ w.cell? ⟨b, off + k * 4 + 2, none⟩ = some (.int .u8 (sideI mets[k].s)) ∧ w.cell? ⟨b, off + k * 4 + 3, none⟩ = some (.string mets[k].v) := by
  obtain ⟨b, off, hA, hlt, hc⟩ := h (by omega)
  refine ⟨b, off, hA, fun k hk => ?_⟩
  obtain ⟨h1, h2, h3, h4⟩ := rw_cells mets k hk
  have g : ∀ i v, (rowRw mets)[i]? = some v → w.cell? ⟨b, off + i, none⟩ = some v := fun i v hv => by
    obtain ⟨hi, he⟩ := List.getElem?_eq_some_iff.1 hv
    rw [hc i hi, he]
  exact ⟨g _ _ h1, g _ _ h2, g _ _ h3, g _ _ h4⟩
/-- what is looked for stands at k, or it isn't among the first k -/
def NotIn (p : Met → Bool) (k : Nat) : Prop := ∀ m ∈ mets.take k, p m = false
theorem notIn_succ {p : Met → Bool} {k : Nat} (h : NotIn p k) (hk : k < mets.length) (hp : p mets[k] = false) : NotIn p (k + 1) := by
  intro m hm
  rw [List.take_add_one, List.getElem?_eq_getElem hk] at hm
  rcases List.mem_append.1 hm with h1 | h1
  · exact h m h1
  · rw [List.mem_singleton.1 h1]; exact hp
theorem first_at {p : Met → Bool} {k : Nat} (h : NotIn p k) (hk : k < mets.length) (hp : p mets[k] = true) : fst p = mets[k] ∧ mets.any p = true :=
  found_list (by rw [← List.drop_eq_getElem_cons hk, List.take_append_drop]) h hp
theorem first_none {p : Met → Bool} (h : NotIn p 58) : fst p = noMet ∧ mets.any p = false := by
  have hm : ∀ m ∈ mets, p m = false := fun m hm => h m (by rw [List.take_of_length_le (by rw [mets_length]; omega)]; exact hm)
  refine ⟨by rw [fst, List.find?_eq_none.2 (fun m hmm => by rw [hm m hmm]; simp)]; rfl, ?_⟩
  rw [List.any_eq_false]
  exact fun m hmm => by rw [hm m hmm]; simp

set_option maxRecDepth 100000 in
set_option maxHeartbeats 2000000 in
theorem rof_any (c i : Int) (w : World) :
    Calls Tryd.prog 19 #[.int .i64 c, .int .i64 i] w fun e w' => e = .returned (.tuple #[.string (sOf c i), .bool (sIs c i)]) ∧ Below w.heap.size w w' := by
  have H1 := Lib.hid (show sOf c i = (fst (isAt c i)).v from rfl)
  have H2 := Lib.hid (show sIs c i = mets.any (isAt c i) from rfl)
  go_enter Tryd.func19, Tryd.ntmps19
  go_wp2_with fail
  refine (rall_any w).mono ?_
  rintro e w1 ⟨v, rfl, hown, hb⟩
  obtain ⟨A, cap, rfl, hv, hl⟩ := vals_row hown
  obtain ⟨b, off, rfl, hc⟩ := vals_met hv hl
  clear hown hv hl
  go_wp2
  go_loop [7] (fun x => ∃ k : Nat, k ≤ 58 ∧ x = .int .i64 k ∧ Hid (NotIn (isAt c i) k)) (fun x => 58 - (intOf x).toNat)
  case atStart => exact ⟨0, Nat.zero_le _, rfl, Lib.hid (fun m hm => by cases hm)⟩
  case round =>
    obtain ⟨k, hk, rfl, HN⟩ := hrel
    by_cases hlt : k < 58
    · have hkl : k < mets.length := by rw [mets_length]; exact hlt
      obtain ⟨x0, x1, x2, x3⟩ := hc k hkl
      have HS : Hid (isAt c i mets[k] = false → NotIn (isAt c i) (k + 1)) := Lib.hid (notIn_succ HN.out hkl)
      have HF : Hid (isAt c i mets[k] = true → fst (isAt c i) = mets[k] ∧ mets.any (isAt c i) = true) := Lib.hid (first_at HN.out hkl)
      have HQ : Hid (isAt c i mets[k] = (mets[k].c == c && mets[k].i == i)) := Lib.hid rfl
      have e1 : IntKind.i64.wrap ((k : Int) + 1) = ((k + 1 : Nat) : Int) := by simp only [IntKind.wrap_i64]; omega
      clear hc HN
      generalize mets[k] = m at x0 x1 x2 x3 HS HF HQ
      obtain ⟨c1, j1, v1, s1, r1⟩ := m
      dsimp only at x0 x1 x2 x3 HQ
      cases t1 : (c1 == c)
      · have HS2 := Lib.hid (HS.out (by rw [HQ.out, t1]; rfl))
        clear HS HF HQ
        go_wp2
        exact ⟨⟨k + 1, hlt, rfl, HS2⟩, by simp only [intOf]; omega⟩
      · cases t2 : (j1 == i)
        · have HS2 := Lib.hid (HS.out (by rw [HQ.out, t1, t2]; rfl))
          clear HS HF HQ
          go_wp2
          exact ⟨⟨k + 1, hlt, rfl, HS2⟩, by simp only [intOf]; omega⟩
        · have HF2 := Lib.hid (HF.out (by rw [HQ.out, t1, t2]; rfl))
          clear HS HF HQ
          go_wp2
          go_ret2
          exact ⟨by rw [H1.out, H2.out, HF2.out.1, HF2.out.2]; rfl, hb⟩
    · obtain rfl : k = 58 := by omega
      have HF2 := Lib.hid (first_none HN.out)
      clear hc HN
      go_wp2
      go_ret2
      exact ⟨by rw [H1.out, H2.out, HF2.out.1, HF2.out.2]; rfl, hb⟩

end Go.Proofs.YtmpfkommeakgbaaDoor
