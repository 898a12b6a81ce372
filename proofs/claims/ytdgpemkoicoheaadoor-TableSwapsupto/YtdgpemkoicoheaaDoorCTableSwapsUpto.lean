/-
  TableSwaps, where what is read is of bulk at most 1048576: the fields of two tables, one behind the other, are a table with the keys of both, if it is not too deep: for every such two rows of keys and every such text the law returns true. No condition but the card's own: the table of widths is as the program's text lays it.
-/
import Derived.Test.YtdgpemkoicoheaaDoorLTableSwaps
import Derived.Test.YtdgpemkoicoheaaDoorGLaw
import Derived.Test.YtdgpemkoicoheaaDoorGStr
import Derived.Test.YtdgpemkoicoheaaDoorGUpto
import Derived.Test.YtdgpemkoicoheaaDoorCards
import Derived.Test.YtdgpemkoicoheaaDoorTie
import Derived.Deep.DeepHandedRow
import Derived.Lib.LaidTab
import Derived.Lib.SmallJoins
namespace Go.Proofs.YtdgpemkoicoheaaDoor.tableSwapsUpto
open Go.ChangeShapes Go.WideShapes Go.ChangeAt Go.RowKit Go.Joins
open Go.ChangeMaps (open_string shut_string)

theorem own : ownKnob Tryd.prog.godebug = none := by kernel_rfl
theorem laidOut : laidOutB Tryd.prog = true := by kernel_rfl
def laidName : String := (Rows.tableSwapsUptoRow.laid.map (·.1)).headD default
theorem gTab : Tryd.prog.globalNamed laidName = some 0 := by kernel_rfl
theorem gTabType : (Tryd.prog.globals[0]?).map (·.type) = some 105 := by kernel_rfl
theorem cellsA : Tryd.prog.cellsOf 105 = 4 := by kernel_rfl
theorem cellsE : Tryd.prog.cellsOf 3 = 1 := by kernel_rfl
theorem cellsT : Tryd.prog.cellsOf 9 = 1 := by kernel_rfl
theorem table {W : World} (h : laidMetH Tryd.prog Rows.tableSwapsUptoRow.laid W) : Lib.TabIs Tryd.prog W laidName .i64 [1, 2, 4, 8] :=
  Lib.tabIs_of_head (rest := []) gTab gTabType Tryd.underlying105 Tryd.underlying3 cellsE cellsA h
theorem wid {W : World} (h : laidMetH Tryd.prog Rows.tableSwapsUptoRow.laid W) : Wid W :=
  ⟨(table h).cell gTab 0 (by decide), (table h).cell gTab 1 (by decide), (table h).cell gTab 2 (by decide), (table h).cell gTab 3 (by decide)⟩
theorem params : ∀ t ∈ Tryd.f9.params.toList, Tryd.prog.readableRec t = true ∧ t < Tryd.prog.types.size := by
  rw [Tryd.params9]
  intro t ht
  simp at ht
  rcases ht with rfl | rfl
  · exact ⟨by kernel_rfl, of_decide_eq_true (by kernel_rfl)⟩
  · exact ⟨by kernel_rfl, of_decide_eq_true (by kernel_rfl)⟩

set_option maxRecDepth 100000 in
theorem contract (H : Type) (enc : TypeId × Value → H) (W : World) (base : Nat) (args : Array Value) (ds gs : List (DataW H)) (before : List MemPlace)
    (hval : ∀ (j : Nat) t v, Tryd.f9.params[j]? = some t → args[j]? = some v → Value.okWide Tryd.prog W .any base t v)
    (hW : DataW.Whole enc Tryd.prog Tryd.f9.params.toList Rows.tableSwapsSpec.vars false W args.toList ds gs before)
    (hk : Rows.uptoSmall H (ds ++ gs) = true)
    (hz : (DataW.weightsEach Tryd.prog (Tryd.f9.params.toList ++ (Rows.OpenSpec.upto Rows.tableSwapsSpec).bare.plain.varTypes Tryd.prog) (ds ++ gs)).all (· ≤ reachBytes) = true)
    (hL : laidMetH Tryd.prog Rows.tableSwapsUptoRow.laid W) :
    Calls Tryd.prog 9 args W fun e W' => ∃ v, e = .returned v ∧ Rows.tableSwapsSpec.post enc Tryd.prog Tryd.f9 false true false false W args v W' := by
  have hW' := hW
  obtain ⟨p, q, hA0, hV, rfl, hfz, hnd⟩ := hW
  have hA : DataW.TrodAll enc Tryd.prog W 0 (fun _ => true) true Tryd.f9.params.toList args.toList ds p := hA0
  rw [Tryd.params9] at hA hval hz
  obtain ⟨v0, vs0, d0, ds0, p0, q0, hargs, rfl, rfl, h0, r0⟩ := trodAll_cons hA
  obtain ⟨v1, vs1, d1, ds1, p1, q1, rfl, rfl, rfl, h1, r1⟩ := trodAll_cons r0
  obtain ⟨v2, vs2, d2, ds2, p2, q2, rfl, rfl, rfl, h2, r2⟩ := trodAll_cons r1
  obtain ⟨rfl, rfl, rfl⟩ := trodAll_nil r2
  obtain rfl : args = #[v0, v1, v2] := by cases args; simp_all
  obtain ⟨rfl, rfl⟩ := trodVars_none hV
  have hz' : (d0.weights Tryd.prog 28).all (· ≤ reachBytes) = true ∧ (d1.weights Tryd.prog 28).all (· ≤ reachBytes) = true ∧ (d2.weights Tryd.prog 9).all (· ≤ reachBytes) = true := by
    have h := hz
    simp only [List.append_nil, List.nil_append, List.cons_append, DataW.weightsEach, List.all_append, Bool.and_eq_true] at h
    exact ⟨h.1, h.2.1, h.2.2.1⟩
  obtain ⟨z_0, z_1, z_2⟩ := hz'
  clear hz
  obtain ⟨fuel0, hf0⟩ := h0
  obtain ⟨a0, l0, k0, rfl⟩ := okWide_slice Tryd.underlying28 (hval 0 28 v0 rfl rfl)
  obtain ⟨A0, x0, c0, e0, B0, m0, o0, q0⟩ := strings_open (P := Tryd.prog) Tryd.underlying28 Tryd.underlying9 cellsT (by simpa [Value.cells] using hf0)
  obtain ⟨rfl, rfl, rfl⟩ : A0 = a0 ∧ x0.length = l0 ∧ c0 = k0 := by simp only [Value.slice.injEq] at e0; exact ⟨e0.1.symm, e0.2.1.symm, e0.2.2.symm⟩
  have u0 : strBulk x0 ≤ 1048576 := by have h := bulk_of hk (d := d0) (by simp); have h3 : strBulk x0 + 1 ≤ Rows.uptoBulk d0 := q0; omega
  obtain ⟨fuel1, hf1⟩ := h1
  obtain ⟨a1, l1, k1, rfl⟩ := okWide_slice Tryd.underlying28 (hval 1 28 v1 rfl rfl)
  obtain ⟨A1, x1, c1, e1, B1, m1, o1, q1⟩ := strings_open (P := Tryd.prog) Tryd.underlying28 Tryd.underlying9 cellsT (by simpa [Value.cells] using hf1)
  obtain ⟨rfl, rfl, rfl⟩ : A1 = a1 ∧ x1.length = l1 ∧ c1 = k1 := by simp only [Value.slice.injEq] at e1; exact ⟨e1.1.symm, e1.2.1.symm, e1.2.2.symm⟩
  have u1 : strBulk x1 ≤ 1048576 := by have h := bulk_of hk (d := d1) (by simp); have h3 : strBulk x1 + 1 ≤ Rows.uptoBulk d1 := q1; omega
  obtain ⟨x2, rfl, hd2, -, s2⟩ := open_string Tryd.underlying9 (hval 2 9 v2 rfl rfl) h2
  rw [hd2] at z_2
  have z2 : x2.size ≤ reachBytes := by
    have h := z_2
    simpa [DataW.weights] using h
  have u2 : x2.size ≤ 1048576 := by have h := bulk_of hk (d := d2) (by simp); rw [hd2, Rows.uptoBulk] at h; simp at h; omega
  refine (tableSwaps_walk A0 A1 c0 c1 x0.length x1.length x0 x1 x2 W (wid hL) rfl rfl B0 B1 o0 o1 u0 u1 u2).mono fun e W' ⟨he, hb⟩ => ?_
  subst he
  exact ⟨_, rfl, law_post laidOut params (by kernel_rfl) Tryd.underlying4 rfl hW' hb rfl rfl rfl⟩

noncomputable def laidWorld (os : Os) : World :=
  { World.holding Tryd.prog os ⟨#[], #[], []⟩ with heap := (World.holding Tryd.prog os ⟨#[], #[], []⟩).heap.modify 0 fun
      | .cells _ t frozen => .cells #[.int .i64 1, .int .i64 2, .int .i64 4, .int .i64 8] t frozen
      | o => o }
theorem laid_met (os : Os) : laidMet Tryd.prog Rows.tableSwapsUptoRow.laid ((laidWorld os).forCall (fun _ _ => 0) ⟨#[], #[.slice none 0 0, .slice none 0 0, .string .empty], []⟩).memory :=
  laidMet_of_run' 8 (by kernel_rfl) (by kernel_rfl)
theorem reads (os : Os) {H : Type} (enc : TypeId × Value → H) : ∃ places, DataW.whole enc Tryd.prog ((laidWorld os).forCall (fun _ _ => 0) ⟨#[], #[.slice none 0 0, .slice none 0 0, .string .empty], []⟩).memory Tryd.f9.params.toList Rows.tableSwapsSpec.vars false #[Value.slice none 0 0, Value.slice none 0 0, Value.string .empty].toList 8 = some ([.nil, .nil, .lit (.string [])], [], places) :=
  ⟨[], by kernel_rfl⟩

set_option maxRecDepth 100000 in
theorem lifted (os : Os) (started : os.Started) (H : Type) (enc : TypeId × Value → H) (F : Stop.Interp) :
    ReturnsInHanded {} Tryd.checked os 9 .any ((Rows.OpenSpec.upto Rows.tableSwapsSpec).preRow enc Tryd.prog Tryd.f9 Rows.tableSwapsUptoRow.domain false Rows.tableSwapsUptoRow.laid) (((Rows.OpenSpec.upto Rows.tableSwapsSpec).at F).post enc Tryd.prog Tryd.f9 false true false false) := by
  obtain ⟨places, hx⟩ := reads os enc
  refine returnsInHanded_of_row (C := Tryd.checked) (s := Rows.OpenSpec.upto Rows.tableSwapsSpec) own started (by kernel_rfl) Tryd.func9
    (witness_row_at (enc := enc) (C := Tryd.checked) false (laidWorld os) #[.slice none 0 0, .slice none 0 0, .string .empty] rfl (by kernel_rfl) (by kernel_rfl) (by kernel_rfl)
      (OpenSpec.preRow_of_cond 8 hx (by kernel_rfl) (fun k hk => by cases hk; kernel_rfl) (by kernel_rfl) (laid_met os))) ?_
  intro W base args ds gs before hval hW _ hc hz hL _ _
  exact contract H enc W base args ds gs before hval hW (hc _ rfl) hz hL

theorem said : Rows.TableSwapsUptoSaid :=
  OpenClaim.holds_of_cond 9 Tryd.f9 rfl rfl rfl rfl rfl rfl rfl ⟨rfl, rfl, rfl, rfl, rfl⟩ rfl rfl rfl rfl rfl (by kernel_rfl) Tryd.func9 (by kernel_rfl)
    (of_decide_eq_true (by kernel_rfl)) (by unfold Func.isWrapper; first | (rw [if_pos (by decide +kernel)]; kernel_rfl) | (rw [if_neg (by decide +kernel)]; exact ⟨rfl, rfl⟩))
    (fun os started H enc _ F => by rw [OpenClaim.pre_eq_preRow]; exact lifted os started H enc F)

theorem plain (f : FuncId) (fn : Func) (hf : Tryd.pinned.checked.prog.funcNamed Rows.tableSwapsUptoRow.func = some f) (hfn : Tryd.pinned.checked.prog.funcs[f]? = some fn) :
    false = Tryd.pinned.checked.prog.looks [] ∧ ∀ (j : Nat) t, fn.params[j]? = some t → Tryd.pinned.checked.prog.wantsStandIn t = false := by
  obtain rfl : f = 9 := Option.some.inj ((show Tryd.prog.funcNamed Rows.tableSwapsUptoRow.func = some 9 by kernel_rfl).symm.trans hf) |>.symm
  obtain rfl : fn = Tryd.f9 := (Option.some.inj (Tryd.func9.symm.trans hfn)).symm
  refine ⟨by kernel_rfl, fun j t ht => ?_⟩
  rw [Tryd.params9] at ht
  have ht := Array.mem_of_getElem? ht
  simp at ht
  rcases ht with rfl | rfl
  · exact (show Tryd.prog.wantsStandIn 28 = false by kernel_rfl)
  · exact (show Tryd.prog.wantsStandIn 9 = false by kernel_rfl)

theorem card : Rows.TableSwapsUptoCardSaid :=
  Claim7.holds_tied_plain_at .later [] _ _ _ _ said (fun _ h => by cases h) (by kernel_rfl) (fun _ h => by cases h) tableSwapsUpto_row_tie rfl ⟨rfl, rfl⟩ (by kernel_rfl) rfl plain (by kernel_rfl)
end Go.Proofs.YtdgpemkoicoheaaDoor.tableSwapsUpto
