/-
  FrameTakes, where what is read is of bulk at most 1048576: frames' bytes, which are right, the frames of bytes, and how a side begins, are as the document says: for every such frame and text and every number the law returns true. No condition but the card's own: the tables of widths and kinds are as the program's text lays them.
-/
import Derived.Test.YtjpijggbkiihhaaDoorLFrameTakes
import Derived.Test.YtjpijggbkiihhaaDoorGLaw
import Derived.Test.YtjpijggbkiihhaaDoorGKin
import Derived.Test.YtjpijggbkiihhaaDoorGUpto
import Derived.Test.YtjpijggbkiihhaaDoorCards
import Derived.Test.YtjpijggbkiihhaaDoorTie
import Derived.Deep.DeepHandedRow
import Derived.Lib.LaidTab
import Derived.Lib.SmallJoins
namespace Go.Proofs.YtjpijggbkiihhaaDoor.frameTakesUpto
open Go.ChangeShapes Go.WideShapes Go.ChangeAt Go.RowKit Go.Joins
open Go.ChangeMaps (open_string shut_string)

theorem own : ownKnob Tryd.prog.godebug = none := by kernel_rfl
theorem laidOut : laidOutB Tryd.prog = true := by kernel_rfl
def laidName : String := (Rows.frameTakesUptoRow.laid.map (·.1)).headD default
theorem gTab : Tryd.prog.globalNamed laidName = some 1 := by kernel_rfl
theorem gTabType : (Tryd.prog.globals[1]?).map (·.type) = some 77 := by kernel_rfl
theorem cellsA : Tryd.prog.cellsOf 77 = 4 := by kernel_rfl
theorem cellsE : Tryd.prog.cellsOf 3 = 1 := by kernel_rfl
theorem cellsS0 : Tryd.prog.cellsOf 23 = 3 := by kernel_rfl
theorem table {W : World} (h : laidMetH Tryd.prog Rows.frameTakesUptoRow.laid W) : Lib.TabIs Tryd.prog W laidName .i64 [1, 2, 4, 8] :=
  Lib.tabIs_of_head (rest := _) gTab gTabType Tryd.underlying77 Tryd.underlying3 cellsE cellsA h
theorem wid {W : World} (h : laidMetH Tryd.prog Rows.frameTakesUptoRow.laid W) : Wid W :=
  ⟨(table h).cell gTab 0 (by decide), (table h).cell gTab 1 (by decide), (table h).cell gTab 2 (by decide), (table h).cell gTab 3 (by decide)⟩
theorem kin {W : World} (h : laidMetH Tryd.prog Rows.frameTakesUptoRow.laid W) : Kin W := kin_behind (x := _) (r := []) h
theorem params : ∀ t ∈ Tryd.f3.params.toList, Tryd.prog.readableRec t = true ∧ t < Tryd.prog.types.size := by
  rw [Tryd.params3]
  intro t ht
  simp at ht
  rcases ht with rfl | rfl | rfl
  · exact ⟨by kernel_rfl, of_decide_eq_true (by kernel_rfl)⟩
  · exact ⟨by kernel_rfl, of_decide_eq_true (by kernel_rfl)⟩
  · exact ⟨by kernel_rfl, of_decide_eq_true (by kernel_rfl)⟩

set_option maxRecDepth 100000 in
theorem contract (H : Type) (enc : TypeId × Value → H) (W : World) (base : Nat) (args : Array Value) (ds gs : List (DataW H)) (before : List MemPlace)
    (hval : ∀ (j : Nat) t v, Tryd.f3.params[j]? = some t → args[j]? = some v → Value.okWide Tryd.prog W .any base t v)
    (hW : DataW.Whole enc Tryd.prog Tryd.f3.params.toList Rows.frameTakesSpec.vars false W args.toList ds gs before)
    (hk : Rows.uptoSmall H (ds ++ gs) = true)
    (hz : (DataW.weightsEach Tryd.prog (Tryd.f3.params.toList ++ (Rows.OpenSpec.upto Rows.frameTakesSpec).bare.plain.varTypes Tryd.prog) (ds ++ gs)).all (· ≤ reachBytes) = true)
    (hL : laidMetH Tryd.prog Rows.frameTakesUptoRow.laid W) :
    Calls Tryd.prog 3 args W fun e W' => ∃ v, e = .returned v ∧ Rows.frameTakesSpec.post enc Tryd.prog Tryd.f3 false true false false W args v W' := by
  have hW' := hW
  obtain ⟨p, q, hA0, hV, rfl, hfz, hnd⟩ := hW
  have hA : DataW.TrodAll enc Tryd.prog W 0 (fun _ => true) true Tryd.f3.params.toList args.toList ds p := hA0
  rw [Tryd.params3] at hA hval hz
  obtain ⟨v0, vs0, d0, ds0, p0, q0, hargs, rfl, rfl, h0, r0⟩ := trodAll_cons hA
  obtain ⟨v1, vs1, d1, ds1, p1, q1, rfl, rfl, rfl, h1, r1⟩ := trodAll_cons r0
  obtain ⟨v2, vs2, d2, ds2, p2, q2, rfl, rfl, rfl, h2, r2⟩ := trodAll_cons r1
  obtain ⟨rfl, rfl, rfl⟩ := trodAll_nil r2
  obtain rfl : args = #[v0, v1, v2] := by cases args; simp_all
  obtain ⟨rfl, rfl⟩ := trodVars_none hV
  have hz' : (d0.weights Tryd.prog 23).all (· ≤ reachBytes) = true ∧ (d1.weights Tryd.prog 9).all (· ≤ reachBytes) = true ∧ (d2.weights Tryd.prog 3).all (· ≤ reachBytes) = true := by
    have h := hz
    simp only [List.append_nil, List.nil_append, List.cons_append, DataW.weightsEach, List.all_append, Bool.and_eq_true] at h
    exact ⟨h.1, h.2.1, h.2.2.1⟩
  obtain ⟨z_0, z_1, z_2⟩ := hz'
  clear hz
  obtain ⟨u0, u1, u2, y0, y1, y2, fuel, rfl, hd, -, t0, t1, t2⟩ := open_agg3 Tryd.underlying23 (by kernel_rfl) cellsS0 (hval 0 23 v0 rfl rfl) h0
  rw [hd] at z_0
  have zz : (y0.1.weights Tryd.prog 3).all (· ≤ reachBytes) = true ∧ (y1.1.weights Tryd.prog 3).all (· ≤ reachBytes) = true ∧ (y2.1.weights Tryd.prog 9).all (· ≤ reachBytes) = true := by
    have h := z_0
    simp only [DataW.weights, Tryd.underlying23, List.map_cons, List.map_nil, DataW.weightsEach, List.all_append, Bool.and_eq_true] at h
    exact ⟨h.1, h.2.1, h.2.2.1⟩
  obtain ⟨zz0, zz1, zz2⟩ := zz
  have hbk : Rows.uptoBulk d0 ≤ 1048576 := bulk_of hk (by simp)
  rw [hd] at hbk
  simp only [Rows.uptoBulk, Rows.uptoBulkAll] at hbk
  obtain ⟨x0, e0, -, w0⟩ := DataW.trod_int Tryd.underlying3 t0
  obtain rfl : u0 = .int .i64 x0 := by simpa using e0
  have b0 := bounds_i64 w0
  obtain ⟨x1, e1, -, w1⟩ := DataW.trod_int Tryd.underlying3 t1
  obtain rfl : u1 = .int .i64 x1 := by simpa using e1
  have b1 := bounds_i64 w1
  obtain ⟨x2, e2, hy2, s2⟩ := DataW.trod_string Tryd.underlying9 t2
  obtain rfl : u2 = .string x2 := by simpa using e2
  rw [hy2] at zz2
  have z2 : x2.size ≤ reachBytes := by
    have h := zz2
    simpa [DataW.weights] using h
  have u2 : x2.size ≤ 1048576 := by
    have e : x2.data.toList.length = x2.size := by simp
    have h := hbk
    rw [hy2] at h
    simp only [Rows.uptoBulk] at h
    omega
  obtain ⟨x3, rfl, hd3, -, s3⟩ := open_string Tryd.underlying9 (hval 1 9 v1 rfl rfl) h1
  rw [hd3] at z_1
  have z3 : x3.size ≤ reachBytes := by
    have h := z_1
    simpa [DataW.weights] using h
  have u3 : x3.size ≤ 1048576 := by have h := bulk_of hk (d := d1) (by simp); rw [hd3, Rows.uptoBulk] at h; simp at h; omega
  obtain ⟨x4, rfl, -, -, w4⟩ := open_int Tryd.underlying3 (hval 2 3 v2 rfl rfl) h2
  have b4 := bounds_i64 w4
  refine (frameTakes_walk x0 x1 x2 x3 x4 W (wid hL) (kin hL) u3).mono fun e W' ⟨he, hb⟩ => ?_
  subst he
  exact ⟨_, rfl, law_post laidOut params (by kernel_rfl) Tryd.underlying4 rfl hW' hb rfl rfl rfl⟩

noncomputable def laidWorld0 (os : Os) : World :=
  { World.holding Tryd.prog os ⟨#[], #[], []⟩ with heap := (World.holding Tryd.prog os ⟨#[], #[], []⟩).heap.modify 1 fun
      | .cells _ t frozen => .cells #[.int .i64 1, .int .i64 2, .int .i64 4, .int .i64 8] t frozen
      | o => o }
noncomputable def laidWorld (os : Os) : World :=
  { laidWorld0 os with heap := (laidWorld0 os).heap.modify 0 fun
      | .cells _ t frozen => .cells #[.int .i64 1, .int .i64 65535, .int .i64 0, .int .i64 131072, .int .i64 2, .int .i64 65535, .int .i64 0, .int .i64 131072, .int .i64 3, .int .i64 65535, .int .i64 1, .int .i64 131072, .int .i64 8, .int .i64 0, .int .i64 0, .int .i64 0] t frozen
      | o => o }
theorem laid_met (os : Os) : laidMet Tryd.prog Rows.frameTakesUptoRow.laid ((laidWorld os).forCall (fun _ _ => 0) ⟨#[], #[.agg #[.int .i64 0, .int .i64 0, .string .empty], .string .empty, .int .i64 0], []⟩).memory :=
  laidMet_of_run' 8 (by kernel_rfl) (by kernel_rfl)
theorem reads (os : Os) {H : Type} (enc : TypeId × Value → H) : ∃ places, DataW.whole enc Tryd.prog ((laidWorld os).forCall (fun _ _ => 0) ⟨#[], #[.agg #[.int .i64 0, .int .i64 0, .string .empty], .string .empty, .int .i64 0], []⟩).memory Tryd.f3.params.toList Rows.frameTakesSpec.vars false #[Value.agg #[.int .i64 0, .int .i64 0, .string .empty], Value.string .empty, Value.int .i64 0].toList 8 = some ([.agg [.lit (.int .i64 0), .lit (.int .i64 0), .lit (.string [])], .lit (.string []), .lit (.int .i64 0)], [], places) :=
  ⟨[], by kernel_rfl⟩

set_option maxRecDepth 100000 in
theorem lifted (os : Os) (started : os.Started) (H : Type) (enc : TypeId × Value → H) (F : Stop.Interp) :
    ReturnsInHanded {} Tryd.checked os 3 .any ((Rows.OpenSpec.upto Rows.frameTakesSpec).preRow enc Tryd.prog Tryd.f3 Rows.frameTakesUptoRow.domain false Rows.frameTakesUptoRow.laid) (((Rows.OpenSpec.upto Rows.frameTakesSpec).at F).post enc Tryd.prog Tryd.f3 false true false false) := by
  obtain ⟨places, hx⟩ := reads os enc
  refine returnsInHanded_of_row (C := Tryd.checked) (s := Rows.OpenSpec.upto Rows.frameTakesSpec) own started (by kernel_rfl) Tryd.func3
    (witness_row_at (enc := enc) (C := Tryd.checked) false (laidWorld os) #[.agg #[.int .i64 0, .int .i64 0, .string .empty], .string .empty, .int .i64 0] rfl (by kernel_rfl) (by kernel_rfl) (by kernel_rfl)
      (OpenSpec.preRow_of_cond 8 hx (by kernel_rfl) (fun k hk => by cases hk; kernel_rfl) (by kernel_rfl) (laid_met os))) ?_
  intro W base args ds gs before hval hW _ hc hz hL _ _
  exact contract H enc W base args ds gs before hval hW (hc _ rfl) hz hL

theorem said : Rows.FrameTakesUptoSaid :=
  OpenClaim.holds_of_cond 3 Tryd.f3 rfl rfl rfl rfl rfl rfl rfl ⟨rfl, rfl, rfl, rfl, rfl⟩ rfl rfl rfl rfl rfl (by kernel_rfl) Tryd.func3 (by kernel_rfl)
    (of_decide_eq_true (by kernel_rfl)) (by unfold Func.isWrapper; first | (rw [if_pos (by decide +kernel)]; kernel_rfl) | (rw [if_neg (by decide +kernel)]; exact ⟨rfl, rfl⟩))
    (fun os started H enc _ F => by rw [OpenClaim.pre_eq_preRow]; exact lifted os started H enc F)

theorem plain (f : FuncId) (fn : Func) (hf : Tryd.pinned.checked.prog.funcNamed Rows.frameTakesUptoRow.func = some f) (hfn : Tryd.pinned.checked.prog.funcs[f]? = some fn) :
    false = Tryd.pinned.checked.prog.looks [] ∧ ∀ (j : Nat) t, fn.params[j]? = some t → Tryd.pinned.checked.prog.wantsStandIn t = false := by
  obtain rfl : f = 3 := Option.some.inj ((show Tryd.prog.funcNamed Rows.frameTakesUptoRow.func = some 3 by kernel_rfl).symm.trans hf) |>.symm
  obtain rfl : fn = Tryd.f3 := (Option.some.inj (Tryd.func3.symm.trans hfn)).symm
  refine ⟨by kernel_rfl, fun j t ht => ?_⟩
  rw [Tryd.params3] at ht
  have ht := Array.mem_of_getElem? ht
  simp at ht
  rcases ht with rfl | rfl | rfl
  · exact (show Tryd.prog.wantsStandIn 23 = false by kernel_rfl)
  · exact (show Tryd.prog.wantsStandIn 9 = false by kernel_rfl)
  · exact (show Tryd.prog.wantsStandIn 3 = false by kernel_rfl)

theorem card : Rows.FrameTakesUptoCardSaid :=
  Claim7.holds_tied_plain_at .later [] _ _ _ _ said (fun _ h => by cases h) (by kernel_rfl) (fun _ h => by cases h) frameTakesUpto_row_tie rfl ⟨rfl, rfl⟩ (by kernel_rfl) rfl plain (by kernel_rfl)
end Go.Proofs.YtjpijggbkiihhaaDoor.frameTakesUpto
