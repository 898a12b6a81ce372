/-
  MethodOne: with another value that may be there a method stays right; that value alone is another one: for every two methods and every number the law returns true. No condition but the card's own: the table of widths is as the program's text lays it.
-/
import Derived.Test.YtmpfkommeakgbaaDoorLMethodOne
import Derived.Test.YtmpfkommeakgbaaDoorGLaw
import Derived.Test.YtmpfkommeakgbaaDoorGMeth
import Derived.Test.YtmpfkommeakgbaaDoorCards
import Derived.Test.YtmpfkommeakgbaaDoorTie
import Derived.Deep.DeepHandedRow
import Derived.Lib.LaidTab
import Derived.Lib.SmallJoins
namespace Go.Proofs.YtmpfkommeakgbaaDoor.methodOne
open Go.ChangeShapes Go.WideShapes Go.ChangeAt Go.RowKit Go.Joins
open Go.ChangeMaps (open_string shut_string)

theorem own : ownKnob Tryd.prog.godebug = none := by kernel_rfl
theorem laidOut : laidOutB Tryd.prog = true := by kernel_rfl
def laidName : String := (Rows.methodOneRow.laid.map (·.1)).headD default
theorem gTab : Tryd.prog.globalNamed laidName = some 0 := by kernel_rfl
theorem gTabType : (Tryd.prog.globals[0]?).map (·.type) = some 95 := by kernel_rfl
theorem cellsA : Tryd.prog.cellsOf 95 = 4 := by kernel_rfl
theorem cellsE : Tryd.prog.cellsOf 3 = 1 := by kernel_rfl
theorem cellsS0 : Tryd.prog.cellsOf 24 = 3 := by kernel_rfl
theorem cellsS1 : Tryd.prog.cellsOf 24 = 3 := by kernel_rfl
theorem table {W : World} (h : laidMetH Tryd.prog Rows.methodOneRow.laid W) : Lib.TabIs Tryd.prog W laidName .i64 [1, 2, 4, 8] :=
  Lib.tabIs_of_head (rest := []) gTab gTabType Tryd.underlying95 Tryd.underlying3 cellsE cellsA h
theorem wid {W : World} (h : laidMetH Tryd.prog Rows.methodOneRow.laid W) : Wid W :=
  ⟨(table h).cell gTab 0 (by decide), (table h).cell gTab 1 (by decide), (table h).cell gTab 2 (by decide), (table h).cell gTab 3 (by decide)⟩
theorem params : ∀ t ∈ Tryd.f6.params.toList, Tryd.prog.readableRec t = true ∧ t < Tryd.prog.types.size := by
  rw [Tryd.params6]
  intro t ht
  simp at ht
  rcases ht with rfl | rfl
  · exact ⟨by kernel_rfl, of_decide_eq_true (by kernel_rfl)⟩
  · exact ⟨by kernel_rfl, of_decide_eq_true (by kernel_rfl)⟩

set_option maxRecDepth 100000 in
theorem contract (H : Type) (enc : TypeId × Value → H) (W : World) (base : Nat) (args : Array Value) (ds gs : List (DataW H)) (before : List MemPlace)
    (hval : ∀ (j : Nat) t v, Tryd.f6.params[j]? = some t → args[j]? = some v → Value.okWide Tryd.prog W .any base t v)
    (hW : DataW.Whole enc Tryd.prog Tryd.f6.params.toList Rows.methodOneSpec.vars false W args.toList ds gs before)
    (hz : (DataW.weightsEach Tryd.prog (Tryd.f6.params.toList ++ (OpenSpec.ofChange Rows.methodOneSpec).bare.plain.varTypes Tryd.prog) (ds ++ gs)).all (· ≤ reachBytes) = true)
    (hL : laidMetH Tryd.prog Rows.methodOneRow.laid W) :
    Calls Tryd.prog 6 args W fun e W' => ∃ v, e = .returned v ∧ Rows.methodOneSpec.post enc Tryd.prog Tryd.f6 false true false false W args v W' := by
  have hW' := hW
  obtain ⟨p, q, hA0, hV, rfl, hfz, hnd⟩ := hW
  have hA : DataW.TrodAll enc Tryd.prog W 0 (fun _ => true) true Tryd.f6.params.toList args.toList ds p := hA0
  rw [Tryd.params6] at hA hval hz
  obtain ⟨v0, vs0, d0, ds0, p0, q0, hargs, rfl, rfl, h0, r0⟩ := trodAll_cons hA
  obtain ⟨v1, vs1, d1, ds1, p1, q1, rfl, rfl, rfl, h1, r1⟩ := trodAll_cons r0
  obtain ⟨v2, vs2, d2, ds2, p2, q2, rfl, rfl, rfl, h2, r2⟩ := trodAll_cons r1
  obtain ⟨rfl, rfl, rfl⟩ := trodAll_nil r2
  obtain rfl : args = #[v0, v1, v2] := by cases args; simp_all
  obtain ⟨rfl, rfl⟩ := trodVars_none hV
  have hz' : (d0.weights Tryd.prog 24).all (· ≤ reachBytes) = true ∧ (d1.weights Tryd.prog 24).all (· ≤ reachBytes) = true ∧ (d2.weights Tryd.prog 3).all (· ≤ reachBytes) = true := by
    have h := hz
    simp only [List.append_nil, List.nil_append, List.cons_append, DataW.weightsEach, List.all_append, Bool.and_eq_true] at h
    exact ⟨h.1, h.2.1, h.2.2.1⟩
  obtain ⟨z_0, z_1, z_2⟩ := hz'
  clear hz
  obtain ⟨u0, u1, u2, y0, y1, y2, fuel, rfl, hd, -, t0, t1, t2⟩ := open_agg3 Tryd.underlying24 (by kernel_rfl) cellsS0 (hval 0 24 v0 rfl rfl) h0
  rw [hd] at z_0
  have zz : (y0.1.weights Tryd.prog 3).all (· ≤ reachBytes) = true ∧ (y1.1.weights Tryd.prog 3).all (· ≤ reachBytes) = true ∧ (y2.1.weights Tryd.prog 22).all (· ≤ reachBytes) = true := by
    have h := z_0
    simp only [DataW.weights, Tryd.underlying24, List.map_cons, List.map_nil, DataW.weightsEach, List.all_append, Bool.and_eq_true] at h
    exact ⟨h.1, h.2.1, h.2.2.1⟩
  obtain ⟨zz0, zz1, zz2⟩ := zz
  obtain ⟨x0, e0, -, w0⟩ := DataW.trod_int Tryd.underlying3 t0
  obtain rfl : u0 = .int .i64 x0 := by simpa using e0
  have b0 := bounds_i64 w0
  obtain ⟨x1, e1, -, w1⟩ := DataW.trod_int Tryd.underlying3 t1
  obtain rfl : u1 = .int .i64 x1 := by simpa using e1
  have b1 := bounds_i64 w1
  obtain ⟨A2, x2, c2, e2, B2, n2, q2⟩ := vals_open t2
  subst e2
  obtain ⟨z2, zs2⟩ := q2 _ zz2
  obtain ⟨u0, u1, u2, y0, y1, y2, fuel, rfl, hd, -, t0, t1, t2⟩ := open_agg3 Tryd.underlying24 (by kernel_rfl) cellsS1 (hval 1 24 v1 rfl rfl) h1
  rw [hd] at z_1
  have zz : (y0.1.weights Tryd.prog 3).all (· ≤ reachBytes) = true ∧ (y1.1.weights Tryd.prog 3).all (· ≤ reachBytes) = true ∧ (y2.1.weights Tryd.prog 22).all (· ≤ reachBytes) = true := by
    have h := z_1
    simp only [DataW.weights, Tryd.underlying24, List.map_cons, List.map_nil, DataW.weightsEach, List.all_append, Bool.and_eq_true] at h
    exact ⟨h.1, h.2.1, h.2.2.1⟩
  obtain ⟨zz0, zz1, zz2⟩ := zz
  obtain ⟨x3, e3, -, w3⟩ := DataW.trod_int Tryd.underlying3 t0
  obtain rfl : u0 = .int .i64 x3 := by simpa using e3
  have b3 := bounds_i64 w3
  obtain ⟨x4, e4, -, w4⟩ := DataW.trod_int Tryd.underlying3 t1
  obtain rfl : u1 = .int .i64 x4 := by simpa using e4
  have b4 := bounds_i64 w4
  obtain ⟨A5, x5, c5, e5, B5, n5, q5⟩ := vals_open t2
  subst e5
  obtain ⟨z5, zs5⟩ := q5 _ zz2
  obtain ⟨x6, rfl, -, -, w6⟩ := open_int Tryd.underlying3 (hval 2 3 v2 rfl rfl) h2
  have b6 := bounds_i64 w6
  refine (methodOne_walk ⟨x0, x1, x2⟩ ⟨x3, x4, x5⟩ A2 A5 c2 c5 x6 W (wid hL) B2 B5 n2 (fun u hu => by obtain ⟨h1, h2⟩ := zs2 u hu; unfold reachBytes at h2; exact ⟨h1.1, h1.2, by omega⟩) (fun u hu => by obtain ⟨h1, h2⟩ := zs5 u hu; unfold reachBytes at h2; exact ⟨h1.1, h1.2, by omega⟩) (by unfold reachBytes at z2; dsimp only; omega)).mono fun e W' ⟨he, hb⟩ => ?_
  subst he
  exact ⟨_, rfl, law_post laidOut params (by kernel_rfl) Tryd.underlying4 rfl hW' hb rfl rfl rfl⟩

noncomputable def laidWorld (os : Os) : World :=
  { World.holding Tryd.prog os ⟨#[], #[], []⟩ with heap := (World.holding Tryd.prog os ⟨#[], #[], []⟩).heap.modify 0 fun
      | .cells _ t frozen => .cells #[.int .i64 1, .int .i64 2, .int .i64 4, .int .i64 8] t frozen
      | o => o }
theorem laid_met (os : Os) : laidMet Tryd.prog Rows.methodOneRow.laid ((laidWorld os).forCall (fun _ _ => 0) ⟨#[], #[.agg #[.int .i64 0, .int .i64 0, .slice none 0 0], .agg #[.int .i64 0, .int .i64 0, .slice none 0 0], .int .i64 0], []⟩).memory :=
  laidMet_of_run' 8 (by kernel_rfl) (by kernel_rfl)
theorem reads (os : Os) {H : Type} (enc : TypeId × Value → H) : ∃ places, DataW.whole enc Tryd.prog ((laidWorld os).forCall (fun _ _ => 0) ⟨#[], #[.agg #[.int .i64 0, .int .i64 0, .slice none 0 0], .agg #[.int .i64 0, .int .i64 0, .slice none 0 0], .int .i64 0], []⟩).memory Tryd.f6.params.toList Rows.methodOneSpec.vars false #[Value.agg #[.int .i64 0, .int .i64 0, .slice none 0 0], Value.agg #[.int .i64 0, .int .i64 0, .slice none 0 0], Value.int .i64 0].toList 8 = some ([.agg [.lit (.int .i64 0), .lit (.int .i64 0), .nil], .agg [.lit (.int .i64 0), .lit (.int .i64 0), .nil], .lit (.int .i64 0)], [], places) :=
  ⟨[], by kernel_rfl⟩

set_option maxRecDepth 100000 in
theorem lifted (os : Os) (started : os.Started) (H : Type) (enc : TypeId × Value → H) (F : Stop.Interp) :
    ReturnsInHanded {} Tryd.checked os 6 .any ((OpenSpec.ofChange Rows.methodOneSpec).preRow enc Tryd.prog Tryd.f6 Rows.methodOneRow.domain false Rows.methodOneRow.laid) (((OpenSpec.ofChange Rows.methodOneSpec).at F).post enc Tryd.prog Tryd.f6 false true false false) := by
  obtain ⟨places, hx⟩ := reads os enc
  refine returnsInHanded_of_row (C := Tryd.checked) (s := OpenSpec.ofChange Rows.methodOneSpec) own started (by kernel_rfl) Tryd.func6
    (witness_row_at (enc := enc) (C := Tryd.checked) false (laidWorld os) #[.agg #[.int .i64 0, .int .i64 0, .slice none 0 0], .agg #[.int .i64 0, .int .i64 0, .slice none 0 0], .int .i64 0] rfl (by kernel_rfl) (by kernel_rfl) (by kernel_rfl)
      (OpenSpec.preRow_of_cond 8 hx (by kernel_rfl) (fun k hk => by cases hk) (by kernel_rfl) (laid_met os))) ?_
  intro W base args ds gs before hval hW _ _ hz hL _ _
  exact contract H enc W base args ds gs before hval hW hz hL

theorem said : Rows.MethodOneSaid :=
  OpenClaim.holds_of_cond 6 Tryd.f6 rfl rfl rfl rfl rfl rfl rfl ⟨rfl, rfl, rfl, rfl, rfl⟩ rfl rfl rfl rfl rfl (by kernel_rfl) Tryd.func6 (by kernel_rfl)
    (of_decide_eq_true (by kernel_rfl)) (by unfold Func.isWrapper; first | (rw [if_pos (by decide +kernel)]; kernel_rfl) | (rw [if_neg (by decide +kernel)]; exact ⟨rfl, rfl⟩))
    (fun os started H enc _ F => by rw [OpenClaim.pre_eq_preRow]; exact lifted os started H enc F)

theorem plain (f : FuncId) (fn : Func) (hf : Tryd.pinned.checked.prog.funcNamed Rows.methodOneRow.func = some f) (hfn : Tryd.pinned.checked.prog.funcs[f]? = some fn) :
    false = Tryd.pinned.checked.prog.looks [] ∧ ∀ (j : Nat) t, fn.params[j]? = some t → Tryd.pinned.checked.prog.wantsStandIn t = false := by
  obtain rfl : f = 6 := Option.some.inj ((show Tryd.prog.funcNamed Rows.methodOneRow.func = some 6 by kernel_rfl).symm.trans hf) |>.symm
  obtain rfl : fn = Tryd.f6 := (Option.some.inj (Tryd.func6.symm.trans hfn)).symm
  refine ⟨by kernel_rfl, fun j t ht => ?_⟩
  rw [Tryd.params6] at ht
  have ht := Array.mem_of_getElem? ht
  simp at ht
  rcases ht with rfl | rfl
  · exact (show Tryd.prog.wantsStandIn 24 = false by kernel_rfl)
  · exact (show Tryd.prog.wantsStandIn 3 = false by kernel_rfl)

theorem card : Rows.MethodOneCardSaid :=
  Claim7.holds_tied_plain_at .later [] _ _ _ _ said (fun _ h => by cases h) (by kernel_rfl) (fun _ h => by cases h) methodOne_row_tie rfl ⟨rfl, rfl⟩ (by kernel_rfl) rfl plain (by kernel_rfl)
end Go.Proofs.YtmpfkommeakgbaaDoor.methodOne
