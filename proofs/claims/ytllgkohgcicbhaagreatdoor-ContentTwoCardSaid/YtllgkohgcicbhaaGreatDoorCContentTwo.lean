/-
  ContentTwo: two commands' frames, one behind the other, give the two commands, one behind the other: for every two commands the law returns true. No condition but the card's own: the tables of widths, of contents, and of utf8's bytes, are as their texts lay them.
-/
import Derived.Test.YtllgkohgcicbhaaGreatDoorLContentTwo
import Derived.Test.YtllgkohgcicbhaaGreatDoorZQ
import Derived.Test.YtllgkohgcicbhaaGreatDoorGLaw
import Derived.Test.YtllgkohgcicbhaaGreatDoorGConB
import Derived.Test.YtllgkohgcicbhaaGreatDoorCards
import Derived.Test.YtllgkohgcicbhaaGreatDoorTie
import Derived.Deep.DeepHandedRow
import Derived.Lib.LaidTab
import Derived.Lib.SmallJoins
namespace Go.Proofs.YtllgkohgcicbhaaGreatDoor.contentTwo
open Go.ChangeShapes Go.WideShapes Go.ChangeAt Go.RowKit Go.Joins
open Go.ChangeMaps (open_string shut_string)

theorem own : ownKnob Tryz.prog.godebug = none := by kernel_rfl
theorem laidOut : laidOutB Tryz.prog = true := by kernel_rfl
def laidName : String := (Rows.contentTwoRow.laid.map (·.1)).headD default
theorem gTab : Tryz.prog.globalNamed laidName = some 1 := by kernel_rfl
theorem gTabType : (Tryz.prog.globals[1]?).map (·.type) = some 192 := by kernel_rfl
theorem cellsA : Tryz.prog.cellsOf 192 = 4 := by kernel_rfl
theorem cellsE : Tryz.prog.cellsOf 3 = 1 := by kernel_rfl
theorem table {W : World} (h : laidMetH Tryz.prog Rows.contentTwoRow.laid W) : Lib.TabIs Tryz.prog W laidName .i64 [1, 2, 4, 8] :=
  Lib.tabIs_of_head (rest := _) gTab gTabType Tryz.underlying192 Tryz.underlying3 cellsE cellsA h
theorem wid {W : World} (h : laidMetH Tryz.prog Rows.contentTwoRow.laid W) : Wid W :=
  ⟨(table h).cell gTab 0 (by decide), (table h).cell gTab 1 (by decide), (table h).cell gTab 2 (by decide), (table h).cell gTab 3 (by decide)⟩
def conName : String := ((Rows.contentTwoRow.laid.map (·.1)).drop 1).headD default
theorem con {W : World} (h : laidMetH Tryz.prog Rows.contentTwoRow.laid W) : Con W := con_behind (nm := conName) (x := _) (r := _) (by kernel_rfl) h
theorem params : ∀ t ∈ Tryz.f6.params.toList, Tryz.prog.readableRec t = true ∧ t < Tryz.prog.types.size := by
  rw [Tryz.params6]
  intro t ht
  simp at ht
  rcases ht with rfl
  · exact ⟨by kernel_rfl, of_decide_eq_true (by kernel_rfl)⟩

set_option maxRecDepth 100000 in
theorem contract (H : Type) (enc : TypeId × Value → H) (W : World) (base : Nat) (args : Array Value) (ds gs : List (DataW H)) (before : List MemPlace)
    (hval : ∀ (j : Nat) t v, Tryz.f6.params[j]? = some t → args[j]? = some v → Value.okWide Tryz.prog W .any base t v)
    (hW : DataW.Whole enc Tryz.prog Tryz.f6.params.toList Rows.contentTwoSpec.vars false W args.toList ds gs before)
    (hz : (DataW.weightsEach Tryz.prog (Tryz.f6.params.toList ++ (OpenSpec.ofChange Rows.contentTwoSpec).bare.plain.varTypes Tryz.prog) (ds ++ gs)).all (· ≤ reachBytes) = true)
    (hL : laidMetH Tryz.prog Rows.contentTwoRow.laid W) :
    Calls Tryz.prog 6 args W fun e W' => ∃ v, e = .returned v ∧ Rows.contentTwoSpec.post enc Tryz.prog Tryz.f6 false true false false W args v W' := by
  have hW' := hW
  obtain ⟨p, q, hA0, hV, rfl, hfz, hnd⟩ := hW
  have hA : DataW.TrodAll enc Tryz.prog W 0 (fun _ => true) true Tryz.f6.params.toList args.toList ds p := hA0
  rw [Tryz.params6] at hA hval hz
  obtain ⟨v0, vs0, d0, ds0, p0, q0, hargs, rfl, rfl, h0, r0⟩ := trodAll_cons hA
  obtain ⟨v1, vs1, d1, ds1, p1, q1, rfl, rfl, rfl, h1, r1⟩ := trodAll_cons r0
  obtain ⟨rfl, rfl, rfl⟩ := trodAll_nil r1
  obtain rfl : args = #[v0, v1] := by cases args; simp_all
  obtain ⟨rfl, rfl⟩ := trodVars_none hV
  have hz' : (d0.weights Tryz.prog 29).all (· ≤ reachBytes) = true ∧ (d1.weights Tryz.prog 29).all (· ≤ reachBytes) = true := by
    have h := hz
    simp only [List.append_nil, List.nil_append, List.cons_append, DataW.weightsEach, List.all_append, Bool.and_eq_true] at h
    exact ⟨h.1, h.2.1⟩
  obtain ⟨z_0, z_1⟩ := hz'
  clear hz
  obtain ⟨mx0, mx1, mA2, mx2, mc2, mx3, mx4, mx5, mA6, mx6, mc6, mx7, rfl, mb0, mb1, mB2, mn2, mb3, mb4, mb5, mB6, mn6, mq⟩ := cmd_open (hval 0 29 v0 rfl rfl) h0
  obtain ⟨mz2, mz6, mz7⟩ := mq _ z_0
  obtain ⟨nx0, nx1, nA2, nx2, nc2, nx3, nx4, nx5, nA6, nx6, nc6, nx7, rfl, nb0, nb1, nB2, nn2, nb3, nb4, nb5, nB6, nn6, nq⟩ := cmd_open (hval 1 29 v1 rfl rfl) h1
  obtain ⟨nz2, nz6, nz7⟩ := nq _ z_1
  refine (contentTwo_walk ⟨⟨mx0, mx1, mx2⟩, ⟨mx3, mx4, mx5, mx6⟩, mx7⟩ ⟨⟨nx0, nx1, nx2⟩, ⟨nx3, nx4, nx5, nx6⟩, nx7⟩ mA2 mA6 nA2 nA6 mc2 mc6 nc2 nc6 W (wid hL) (con hL) ⟨fun u hu => (by obtain ⟨h1, h2⟩ := mz2.2 u hu; unfold reachBytes at h2; exact ⟨h1.1, h1.2, by omega⟩), ⟨mb4, mb5, fun u hu => (by obtain ⟨h1, h2⟩ := mz6.2 u hu; unfold reachBytes at h2; exact ⟨h1.1, h1.2, by omega⟩)⟩⟩ ⟨fun u hu => (by obtain ⟨h1, h2⟩ := nz2.2 u hu; unfold reachBytes at h2; exact ⟨h1.1, h1.2, by omega⟩), ⟨nb4, nb5, fun u hu => (by obtain ⟨h1, h2⟩ := nz6.2 u hu; unfold reachBytes at h2; exact ⟨h1.1, h1.2, by omega⟩)⟩⟩ ⟨mB2, mB6, mn2, mn6⟩ ⟨nB2, nB6, nn2, nn6⟩ ⟨by have h := mz2.1; unfold reachBytes at h; dsimp only; omega, by have h := mz6.1; unfold reachBytes at h; dsimp only; omega⟩ ⟨by have h := nz2.1; unfold reachBytes at h; dsimp only; omega, by have h := nz6.1; unfold reachBytes at h; dsimp only; omega⟩ (by have h := mz7; unfold reachBytes at h; dsimp only; omega) (by have h := nz7; unfold reachBytes at h; dsimp only; omega) (by have h := mz2.1; unfold reachBytes at h; dsimp only; omega) (by have h := mz6.1; unfold reachBytes at h; dsimp only; omega) (by have h := nz2.1; unfold reachBytes at h; dsimp only; omega) (by have h := nz6.1; unfold reachBytes at h; dsimp only; omega)).mono fun e W' ⟨he, hb⟩ => ?_
  subst he
  exact ⟨_, rfl, law_post laidOut params (by kernel_rfl) Tryz.underlying4 rfl hW' hb rfl rfl rfl⟩

def pinnedCells : Array Value := (match (Go.Pinned.utf8First : DataW Unit) with
  | .agg l => l.map (fun (d : DataW Unit) => match d with | .lit (.int k n) => Value.int k n | _ => .bool false)
  | _ => []).toArray
noncomputable def laidWorld0 (os : Os) : World :=
  { World.holding Tryz.prog os ⟨#[], #[], []⟩ with heap := (World.holding Tryz.prog os ⟨#[], #[], []⟩).heap.modify 1 fun
      | .cells _ t frozen => .cells #[.int .i64 1, .int .i64 2, .int .i64 4, .int .i64 8] t frozen
      | o => o }
noncomputable def laidWorld1 (os : Os) : World :=
  { laidWorld0 os with heap := (laidWorld0 os).heap.modify 0 fun
      | .cells _ t frozen => .cells #[.int .i64 60, .int .i64 40, .int .i64 60, .int .i64 50, .int .i64 60, .int .i64 60, .int .i64 60, .int .i64 71] t frozen
      | o => o }
noncomputable def laidWorld2 (os : Os) : World :=
  { laidWorld1 os with heap := (laidWorld1 os).heap.modify 3 fun
      | .cells _ t frozen => .cells #[.int .u8 128, .int .u8 191, .int .u8 160, .int .u8 191, .int .u8 128, .int .u8 159, .int .u8 144, .int .u8 191, .int .u8 128, .int .u8 143, .int .u8 0, .int .u8 0, .int .u8 0, .int .u8 0, .int .u8 0, .int .u8 0, .int .u8 0, .int .u8 0, .int .u8 0, .int .u8 0, .int .u8 0, .int .u8 0, .int .u8 0, .int .u8 0, .int .u8 0, .int .u8 0, .int .u8 0, .int .u8 0, .int .u8 0, .int .u8 0, .int .u8 0, .int .u8 0] t frozen
      | o => o }
noncomputable def laidWorld (os : Os) : World :=
  { laidWorld2 os with heap := (laidWorld2 os).heap.modify 2 fun
      | .cells _ t frozen => .cells pinnedCells t frozen
      | o => o }
theorem laid_met (os : Os) : laidMet Tryz.prog Rows.contentTwoRow.laid ((laidWorld os).forCall (fun _ _ => 0) ⟨#[], #[.agg #[.int .i64 0, .int .i64 0, .slice none 0 0, .int .i64 0, .int .u64 0, .int .u64 0, .slice none 0 0, .string .empty], .agg #[.int .i64 0, .int .i64 0, .slice none 0 0, .int .i64 0, .int .u64 0, .int .u64 0, .slice none 0 0, .string .empty]], []⟩).memory :=
  laidMet_of_run' 8 (by kernel_rfl) (by kernel_rfl)
theorem reads (os : Os) {H : Type} (enc : TypeId × Value → H) : ∃ places, DataW.whole enc Tryz.prog ((laidWorld os).forCall (fun _ _ => 0) ⟨#[], #[.agg #[.int .i64 0, .int .i64 0, .slice none 0 0, .int .i64 0, .int .u64 0, .int .u64 0, .slice none 0 0, .string .empty], .agg #[.int .i64 0, .int .i64 0, .slice none 0 0, .int .i64 0, .int .u64 0, .int .u64 0, .slice none 0 0, .string .empty]], []⟩).memory Tryz.f6.params.toList Rows.contentTwoSpec.vars false #[Value.agg #[.int .i64 0, .int .i64 0, .slice none 0 0, .int .i64 0, .int .u64 0, .int .u64 0, .slice none 0 0, .string .empty], Value.agg #[.int .i64 0, .int .i64 0, .slice none 0 0, .int .i64 0, .int .u64 0, .int .u64 0, .slice none 0 0, .string .empty]].toList 8 = some ([.agg [.agg [.lit (.int .i64 0), .lit (.int .i64 0), .nil], .agg [.lit (.int .i64 0), .lit (.int .u64 0), .lit (.int .u64 0), .nil], .lit (.string [])], .agg [.agg [.lit (.int .i64 0), .lit (.int .i64 0), .nil], .agg [.lit (.int .i64 0), .lit (.int .u64 0), .lit (.int .u64 0), .nil], .lit (.string [])]], [], places) :=
  ⟨[], by kernel_rfl⟩

set_option maxRecDepth 100000 in
theorem lifted (os : Os) (started : os.Started) (H : Type) (enc : TypeId × Value → H) (F : Stop.Interp) :
    ReturnsInHanded {} Tryz.checked os 6 .any ((OpenSpec.ofChange Rows.contentTwoSpec).preRow enc Tryz.prog Tryz.f6 Rows.contentTwoRow.domain false Rows.contentTwoRow.laid) (((OpenSpec.ofChange Rows.contentTwoSpec).at F).post enc Tryz.prog Tryz.f6 false true false false) := by
  obtain ⟨places, hx⟩ := reads os enc
  refine returnsInHanded_of_row (C := Tryz.checked) (s := OpenSpec.ofChange Rows.contentTwoSpec) own started (by kernel_rfl) Tryz.func6
    (witness_row_at (enc := enc) (C := Tryz.checked) false (laidWorld os) #[.agg #[.int .i64 0, .int .i64 0, .slice none 0 0, .int .i64 0, .int .u64 0, .int .u64 0, .slice none 0 0, .string .empty], .agg #[.int .i64 0, .int .i64 0, .slice none 0 0, .int .i64 0, .int .u64 0, .int .u64 0, .slice none 0 0, .string .empty]] rfl (by kernel_rfl) (by kernel_rfl) (by kernel_rfl)
      (OpenSpec.preRow_of_cond 8 hx (by kernel_rfl) (fun k hk => by cases hk) (by kernel_rfl) (laid_met os))) ?_
  intro W base args ds gs before hval hW _ _ hz hL _ _
  exact contract H enc W base args ds gs before hval hW hz hL

theorem said : Rows.ContentTwoSaid :=
  OpenClaim.holds_of_cond 6 Tryz.f6 rfl rfl rfl rfl rfl rfl rfl ⟨rfl, rfl, rfl, rfl, rfl⟩ rfl rfl rfl rfl rfl (by kernel_rfl) Tryz.func6 (by kernel_rfl)
    (of_decide_eq_true (by kernel_rfl)) (by unfold Func.isWrapper; first | (rw [if_pos (by decide +kernel)]; kernel_rfl) | (rw [if_neg (by decide +kernel)]; exact ⟨rfl, rfl⟩))
    (fun os started H enc _ F => by rw [OpenClaim.pre_eq_preRow]; exact lifted os started H enc F)

theorem plain (f : FuncId) (fn : Func) (hf : Tryz.pinned.checked.prog.funcNamed Rows.contentTwoRow.func = some f) (hfn : Tryz.pinned.checked.prog.funcs[f]? = some fn) :
    false = Tryz.pinned.checked.prog.looks [] ∧ ∀ (j : Nat) t, fn.params[j]? = some t → Tryz.pinned.checked.prog.wantsStandIn t = false := by
  obtain rfl : f = 6 := Option.some.inj ((show Tryz.prog.funcNamed Rows.contentTwoRow.func = some 6 by kernel_rfl).symm.trans hf) |>.symm
  obtain rfl : fn = Tryz.f6 := (Option.some.inj (Tryz.func6.symm.trans hfn)).symm
  refine ⟨by kernel_rfl, fun j t ht => ?_⟩
  rw [Tryz.params6] at ht
  have ht := Array.mem_of_getElem? ht
  simp at ht
  rcases ht with rfl
  · exact (show Tryz.prog.wantsStandIn 29 = false by kernel_rfl)

theorem card : Rows.ContentTwoCardSaid :=
  Claim7.holds_tied_plain_at .later [] _ _ _ _ said (fun _ h => by cases h) (by kernel_rfl) (fun _ h => by cases h) contentTwo_row_tie rfl ⟨rfl, rfl⟩ (by kernel_rfl) rfl plain (by kernel_rfl)
end Go.Proofs.YtllgkohgcicbhaaGreatDoor.contentTwo
