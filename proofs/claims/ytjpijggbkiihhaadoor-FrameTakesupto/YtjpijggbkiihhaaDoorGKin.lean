/-
  The table of kinds as the listed variables lay it. No condition.
-/
import Derived.Deep.Fields
import Derived.Lib.LaidTab
import Derived.Test.YtjpijggbkiihhaaDoorWKind
namespace Go.Proofs.YtjpijggbkiihhaaDoor
open Go.RowKit Go.Deep

theorem ints_of_struct {H : Type} {enc : TypeId × Value → H} {P : Program} {w : World} {base : Nat} {sp : Nat → Bool} {held : Bool} {fuel : Nat} {t : TypeId} {cs : List Value} {p : List MemPlace} {fs : Array Field} {zs : List Int}
    (ht : P.underlying t = some (.struct fs)) (hone : oneCellFields P fs = true) (hC : P.cellsOf t = fs.size) (hint : ∀ (i : Nat) (f : Field), fs[i]? = some f → P.underlying f.type = some (.int .i64))
    (h : DataW.trod enc P w base sp held fuel t cs = some (.agg (zs.map fun z => .lit (.int .i64 z)), p)) : cs = zs.map (Value.int .i64) := by
  obtain ⟨xs, n, -, hx, hlen, hxl, hf⟩ := DataW.trod_struct ht h
  have hm : xs.map (·.1) = zs.map fun z => (DataW.lit (.int .i64 z) : DataW H) := by
    have := congrArg Prod.fst hx
    simpa using this.symm
  have hzl : zs.length = fs.size := by have := congrArg List.length hm; simp at this; omega
  apply List.ext_getElem
  · rw [hlen, hC, List.length_map, hzl]
  · intro i hi _
    have his : i < fs.size := by omega
    obtain ⟨ho, hk⟩ := hone_of hone i fs[i] (Array.getElem?_eq_getElem his)
    have h1 := hf i fs[i] (Array.getElem?_eq_getElem his)
    rw [ho, hk, List.getElem?_eq_getElem (by omega)] at h1
    obtain ⟨z, hc, hz, -⟩ := DataW.trod_int (hint i fs[i] (Array.getElem?_eq_getElem his)) h1
    have e1 : cs[i] = .int .i64 z := by
      rw [List.drop_eq_getElem_cons hi, List.take_succ_cons, List.take_zero] at hc
      exact (List.cons.inj hc).1
    have e2 : (xs.map (·.1))[i]? = some (DataW.lit (.int .i64 z)) := by
      rw [List.getElem?_map, List.getElem?_eq_getElem (by omega), hz]; rfl
    rw [hm, List.getElem?_map, List.getElem?_eq_getElem (by omega)] at e2
    simp at e2
    rw [e1, List.getElem_map, e2]
theorem rows_of_array {H : Type} {enc : TypeId × Value → H} {P : Program} {w : World} {base : Nat} {sp : Nat → Bool} {held : Bool} {fuel : Nat} {t e : TypeId} {n k : Nat} {cs : List Value} {ds : List (DataW H)} {p : List MemPlace}
    (ht : P.underlying t = some (.array n e)) (hce : P.cellsOf e = k) (hct : P.cellsOf t = n * k) (h : DataW.trod enc P w base sp held fuel t cs = some (.agg ds, p)) :
    ∃ m, ∀ i, i < n → ∃ d q, ds[i]? = some d ∧ DataW.trod enc P w base sp held m e ((cs.drop (i * k)).take k) = some (d, q) := by
  cases fuel with
  | zero => simp [DataW.trod] at h
  | succ fuel =>
    simp only [DataW.trod, ht, hce, hct] at h
    split at h
    · obtain ⟨xs, hm, hx⟩ := Option.map_eq_some_iff.1 h
      have hds : xs.map (·.1) = ds := by
        have := congrArg Prod.fst hx
        simpa using this
      refine ⟨fuel, fun i hi => ?_⟩
      obtain ⟨b, hb, hf⟩ := Lib.mapM_at hm i i (by simp [hi])
      exact ⟨b.1, b.2, by rw [← hds, List.getElem?_map, hb]; rfl, hf⟩
    · cases h
theorem kindInt : ∀ (i : Nat) (f : Field), (match Tryd.prog.underlying 71 with | some (.struct fs) => fs | _ => #[])[i]? = some f → Tryd.prog.underlying f.type = some (.int .i64) := by
  rw [Tryd.underlying71]
  intro i f h
  match i, h with
  | 0, h => simp at h; subst h; exact Tryd.underlying3
  | 1, h => simp at h; subst h; exact Tryd.underlying3
  | 2, h => simp at h; subst h; exact Tryd.underlying3
  | 3, h => simp at h; subst h; exact Tryd.underlying3
theorem cellsKind : Tryd.prog.cellsOf 71 = 4 := by kernel_rfl
theorem cellsKinds : Tryd.prog.cellsOf 76 = 4 * 4 := by kernel_rfl
/-- the variable's name, as the row lists it -/
def kinName : String := ((Rows.frameMostRow.laid.map (·.1)).drop 1).headD default
theorem gKin : Tryd.prog.globalNamed kinName = some 0 := by kernel_rfl
theorem gKinType : (Tryd.prog.globals[0]?).map (·.type) = some 76 := by kernel_rfl
theorem kin_of {W : World} {r : List (String × DataW Unit)} {q : List MemPlace} (h : DataW.LaidVars Tryd.prog W ((kinName, Rows.laid_interchange_frame_kinds) :: r) q) : Kin W := by
  obtain ⟨g, t, cs, fuel, p, q', hg, ht, hvar, hd, -, -⟩ := h
  obtain rfl := Option.some.inj (gKin.symm.trans hg)
  obtain rfl := Option.some.inj (gKinType.symm.trans ht)
  obtain ⟨m, hrow⟩ := rows_of_array Tryd.underlying76 cellsKind cellsKinds hd
  have hint := kindInt
  rw [Tryd.underlying71] at hint
  have row : ∀ (i : Nat) (zs : List Int), i < 4 → (match (Rows.laid_interchange_frame_kinds : DataW Unit) with | .agg ds => ds | _ => [])[i]? = some (.agg (zs.map fun z => .lit (.int .i64 z))) → (cs.toList.drop (i * 4)).take 4 = zs.map (Value.int .i64) := by
    intro i zs hi hz
    obtain ⟨d', q2, h1, h2⟩ := hrow i hi
    have h3 : d' = .agg (zs.map fun z => .lit (.int .i64 z)) := Option.some.inj (h1.symm.trans hz)
    subst h3
    exact ints_of_struct Tryd.underlying71 (by kernel_rfl) cellsKind hint h2
  have r0 := row 0 [1, 65535, 0, 131072] (by decide) rfl
  have r1 := row 1 [2, 65535, 0, 131072] (by decide) rfl
  have r2 := row 2 [3, 65535, 1, 131072] (by decide) rfl
  have r3 := row 3 [8, 0, 0, 0] (by decide) rfl
  have at4 : ∀ (i j : Nat) (v : Value) (l : List Value), (cs.toList.drop (i * 4)).take 4 = l → j < 4 → l[j]? = some v → cs[i * 4 + j]? = some v := by
    intro i j v l hl hj hv
    rw [← hl, List.getElem?_take, if_pos hj, List.getElem?_drop, Array.getElem?_toList] at hv
    exact hv
  intro i hi
  rw [World.var?_cell gKin hvar i]
  match i, hi with
  | 0, _ => exact at4 0 0 _ _ r0 (by decide) rfl
  | 1, _ => exact at4 0 1 _ _ r0 (by decide) rfl
  | 2, _ => exact at4 0 2 _ _ r0 (by decide) rfl
  | 3, _ => exact at4 0 3 _ _ r0 (by decide) rfl
  | 4, _ => exact at4 1 0 _ _ r1 (by decide) rfl
  | 5, _ => exact at4 1 1 _ _ r1 (by decide) rfl
  | 6, _ => exact at4 1 2 _ _ r1 (by decide) rfl
  | 7, _ => exact at4 1 3 _ _ r1 (by decide) rfl
  | 8, _ => exact at4 2 0 _ _ r2 (by decide) rfl
  | 9, _ => exact at4 2 1 _ _ r2 (by decide) rfl
  | 10, _ => exact at4 2 2 _ _ r2 (by decide) rfl
  | 11, _ => exact at4 2 3 _ _ r2 (by decide) rfl
  | 12, _ => exact at4 3 0 _ _ r3 (by decide) rfl
  | 13, _ => exact at4 3 1 _ _ r3 (by decide) rfl
  | 14, _ => exact at4 3 2 _ _ r3 (by decide) rfl
  | 15, _ => exact at4 3 3 _ _ r3 (by decide) rfl
  | n + 16, hi => exact absurd hi (by omega)
theorem kin_behind {W : World} {x : String × DataW Unit} {r : List (String × DataW Unit)} (h : laidMet Tryd.prog (x :: (kinName, Rows.laid_interchange_frame_kinds) :: r) W) : Kin W := by
  obtain ⟨ps, ⟨g, t, cs, fuel, p, q, -, -, -, -, hv, -⟩, -⟩ := h
  exact kin_of hv
end Go.Proofs.YtjpijggbkiihhaaDoor
