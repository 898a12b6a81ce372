/-
  The table of contents as the listed variable lays it, where another one stands ahead of it. No condition.
-/
import Derived.Deep.Fields
import Derived.Lib.LaidTab
import Derived.Test.YtllgkohgcicbhaaGreatDoorZK
namespace Go.Proofs.YtllgkohgcicbhaaGreatDoor
open Go.RowKit Go.Deep

theorem rowsOfArray {H : Type} {enc : TypeId × Value → H} {P : Program} {w : World} {base : Nat} {sp : Nat → Bool} {held : Bool} {fuel : Nat} {t e : TypeId} {n k : Nat} {cs : List Value} {ds : List (DataW H)} {p : List MemPlace}
    (ht : P.underlying t = some (.array n e)) (hce : P.cellsOf e = k) (hct : P.cellsOf t = n * k) (h : DataW.trod enc P w base sp held fuel t cs = some (.agg ds, p)) :
    ∃ m, ∀ i, i < n → ∃ d q, ds[i]? = some d ∧ DataW.trod enc P w base sp held m e ((cs.drop (i * k)).take k) = some (d, q) := by
  cases fuel with
  | zero => simp [DataW.trod] at h
  | succ fuel =>
    simp only [DataW.trod, ht, hce, hct] at h
    split at h
    · obtain ⟨xs, hm, hx⟩ := Option.map_eq_some_iff.1 h
      have hds : xs.map (·.1) = ds := by
        have := congrArg Prod.fst hx
        simpa using this
      refine ⟨fuel, fun i hi => ?_⟩
      obtain ⟨b, hb, hf⟩ := Lib.mapM_at hm i i (by simp [hi])
      exact ⟨b.1, b.2, by rw [← hds, List.getElem?_map, hb]; rfl, hf⟩
    · cases h
theorem cells2 : Tryz.prog.cellsOf 140 = 2 := by kernel_rfl
theorem cells2m : Tryz.prog.cellsOf 140 = 2 * 1 := by kernel_rfl
theorem cells42 : Tryz.prog.cellsOf 141 = 4 * 2 := by kernel_rfl
theorem cells1 : Tryz.prog.cellsOf 3 = 1 := by kernel_rfl
theorem gConType : (Tryz.prog.globals[0]?).map (·.type) = some 141 := by kernel_rfl
theorem pairOf {w : World} {base : Nat} {sp : Nat → Bool} {held : Bool} {fuel : Nat} {cs : List Value} {a b : Int} {p : List MemPlace} (h : DataW.trod (fun _ => ()) Tryz.prog w base sp held fuel 140 cs = some (.agg [.lit (.int .i64 a), .lit (.int .i64 b)], p)) :
    cs[0]? = some (.int .i64 a) ∧ cs[1]? = some (.int .i64 b) := by
  obtain ⟨m, hrow⟩ := rowsOfArray Tryz.underlying140 cells1 cells2m h
  have one : ∀ i (z : Int), i < 2 → [DataW.lit (.int .i64 a), DataW.lit (.int .i64 b)][i]? = some (DataW.lit (H := Unit) (.int .i64 z)) → cs[i]? = some (.int .i64 z) := by
    intro i z hi hz
    obtain ⟨d, q, h1, h2⟩ := hrow i hi
    obtain ⟨y, hc, hy, -⟩ := DataW.trod_int Tryz.underlying3 h2
    have hd : d = .lit (.int .i64 y) := by have := congrArg Prod.fst hy; simpa using this
    have e1 := h1.symm.trans hz
    rw [hd] at e1
    obtain rfl : y = z := by simpa using e1
    have e2 : ((cs.drop (i * 1)).take 1)[0]? = some (.int .i64 y) := by rw [hc]; rfl
    rw [List.getElem?_take, if_pos (by decide), List.getElem?_drop] at e2
    simpa using e2
  exact ⟨one 0 a (by decide) rfl, one 1 b (by decide) rfl⟩
theorem con_of {W : World} {nm : String} {r : List (String × DataW Unit)} {q : List MemPlace} (gCon : Tryz.prog.globalNamed nm = some 0) (h : DataW.LaidVars Tryz.prog W ((nm, Rows.laid_interchange_sig_contents) :: r) q) : Con W := by
  obtain ⟨g, t, cs, fuel, p, q', hg, ht, hvar, hd, -, -⟩ := h
  obtain rfl := Option.some.inj (gCon.symm.trans hg)
  obtain rfl := Option.some.inj (gConType.symm.trans ht)
  obtain ⟨m, hrow⟩ := rowsOfArray Tryz.underlying141 cells2 cells42 hd
  have row : ∀ (i : Nat) (a b : Int), i < 4 → (match (Rows.laid_interchange_sig_contents : DataW Unit) with | .agg ds => ds | _ => [])[i]? = some (.agg [.lit (.int .i64 a), .lit (.int .i64 b)]) → cs[i * 2]? = some (.int .i64 a) ∧ cs[i * 2 + 1]? = some (.int .i64 b) := by
    intro i a b hi hz
    obtain ⟨d', q2, h1, h2⟩ := hrow i hi
    have h3 : d' = .agg [.lit (.int .i64 a), .lit (.int .i64 b)] := Option.some.inj (h1.symm.trans hz)
    subst h3
    obtain ⟨k1, k2⟩ := pairOf h2
    rw [List.getElem?_take, if_pos (by decide), List.getElem?_drop, Array.getElem?_toList] at k1 k2
    exact ⟨k1, k2⟩
  have r0 := row 0 60 40 (by decide) rfl
  have r1 := row 1 60 50 (by decide) rfl
  have r2 := row 2 60 60 (by decide) rfl
  have r3 := row 3 60 71 (by decide) rfl
  intro i hi
  rw [World.var?_cell gCon hvar i]
  match i, hi with
  | 0, _ => exact r0.1
  | 1, _ => exact r0.2
  | 2, _ => exact r1.1
  | 3, _ => exact r1.2
  | 4, _ => exact r2.1
  | 5, _ => exact r2.2
  | 6, _ => exact r3.1
  | 7, _ => exact r3.2
  | n + 8, hi => exact absurd hi (by omega)
theorem con_behind {W : World} {nm : String} {x : String × DataW Unit} {r : List (String × DataW Unit)} (gCon : Tryz.prog.globalNamed nm = some 0) (h : laidMet Tryz.prog (x :: (nm, Rows.laid_interchange_sig_contents) :: r) W) : Con W := by
  obtain ⟨ps, ⟨g, t, cs, fuel, p, q, -, -, -, -, hv, -⟩, -⟩ := h
  exact con_of gCon hv
end Go.Proofs.YtllgkohgcicbhaaGreatDoor
