/-
  ContentFeeds: a frame that is fed, and a command's frames, are as the document says: for every command as far as it has come, every frame, every two commands and every two numbers the law returns true. No condition but the card's own: the tables of widths, of contents, and of utf8's bytes, are as their texts lay them.
-/
import Derived.Test.YtllgkohgcicbhaaGreatDoorZP
import Derived.Test.YtllgkohgcicbhaaGreatDoorZQ
import Derived.Test.YtllgkohgcicbhaaGreatDoorGLaw
import Derived.Test.YtllgkohgcicbhaaGreatDoorGConB
import Derived.Test.YtllgkohgcicbhaaGreatDoorCards
import Derived.Test.YtllgkohgcicbhaaGreatDoorTie
import Derived.Deep.DeepHandedRow
import Derived.Lib.LaidTab
import Derived.Lib.SmallJoins
namespace Go.Proofs.YtllgkohgcicbhaaGreatDoor.contentFeeds
open Go.ChangeShapes Go.WideShapes Go.ChangeAt Go.RowKit Go.Joins
open Go.ChangeMaps (open_string shut_string)

theorem own : ownKnob Tryz.prog.godebug = none := by kernel_rfl
theorem laidOut : laidOutB Tryz.prog = true := by kernel_rfl
def laidName : String := (Rows.contentFeedsRow.laid.map (·.1)).headD default
theorem gTab : Tryz.prog.globalNamed laidName = some 1 := by kernel_rfl
theorem gTabType : (Tryz.prog.globals[1]?).map (·.type) = some 192 := by kernel_rfl
theorem cellsA : Tryz.prog.cellsOf 192 = 4 := by kernel_rfl
theorem cellsE : Tryz.prog.cellsOf 3 = 1 := by kernel_rfl
theorem table {W : World} (h : laidMetH Tryz.prog Rows.contentFeedsRow.laid W) : Lib.TabIs Tryz.prog W laidName .i64 [1, 2, 4, 8] :=
 Lib.tabIs_of_head (rest := _) gTab gTabType Tryz.underlying192 Tryz.underlying3 cellsE cellsA h
theorem wid {W : World} (h : laidMetH Tryz.prog Rows.contentFeedsRow.laid W) : Wid W :=
 ⟨(table h).cell gTab 0 (by decide), (table h).cell gTab 1 (by decide), (table h).cell gTab 2 (by decide), (table h).cell gTab 3 (by decide)⟩
def conName : String := ((Rows.contentFeedsRow.laid.map (·.1)).drop 1).headD default
theorem con {W : World} (h : laidMetH Tryz.prog Rows.contentFeedsRow.laid W) : Con W := con_behind (nm := conName) (x := _) (r := _) (by kernel_rfl) h
theorem params : ∀ t ∈ Tryz.f3.params.toList, Tryz.prog.readableRec t = true ∧ t < Tryz.prog.types.size := by
 rw [Tryz.params3]
 intro t ht
 simp at ht
 rcases ht with rfl
 · exact ⟨by kernel_rfl, of_decide_eq_true (by kernel_rfl)⟩

set_option maxRecDepth 100000 in
theorem contract (H : Type) (enc : TypeId × Value → H) (W : World) (base : Nat) (args : Array Value) (ds gs : List (DataW H)) (before : List MemPlace)
 (hval : ∀ (j : Nat) t v, Tryz.f3.params[j]? = some t → args[j]? = some v → Value.okWide Tryz.prog W .any base t v)
 (hW : DataW.Whole enc Tryz.prog Tryz.f3.params.toList Rows.contentFeedsSpec.vars false W args.toList ds gs before)
 (hz : (DataW.weightsEach Tryz.prog (Tryz.f3.params.toList ++ (OpenSpec.ofChange Rows.contentFeedsSpec).bare.plain.varTypes Tryz.prog) (ds ++ gs)).all (· ≤ reachBytes) = true)
 (hL : laidMetH Tryz.prog Rows.contentFeedsRow.laid W) :
 Calls Tryz.prog 3 args W fun e W' => ∃ v, e = .returned v ∧ Rows.contentFeedsSpec.post enc Tryz.prog Tryz.f3 false true false false W args v W' := by
 have hW' := hW
 obtain ⟨p, q, hA0, hV, rfl, hfz, hnd⟩ := hW
 have hA : DataW.TrodAll enc Tryz.prog W 0 (fun _ => true) true Tryz.f3.params.toList args.toList ds p := hA0
 rw [Tryz.params3] at hA hval hz
 obtain ⟨v0, vs0, d0, ds0, p0, q0, hargs, rfl, rfl, h0, r0⟩ := trodAll_cons hA
 obtain ⟨rfl, rfl, rfl⟩ := trodAll_nil r0
 obtain rfl : args = #[v0] := by cases args; simp_all
 obtain ⟨rfl, rfl⟩ := trodVars_none hV
 have hz' : (d0.weights Tryz.prog 35).all (· ≤ reachBytes) = true := by
  have h := hz
  simp only [List.append_nil, List.nil_append, List.cons_append, DataW.weightsEach, List.all_append, Bool.and_eq_true] at h
  exact h.1
 have z_0 := hz'
 clear hz
 obtain ⟨sst, sx0, sx1, sA2, sx2, sc2, sx3, sx4, sx5, sA6, sx6, sc6, sx7, fx0, fx1, fx2, mx0, mx1, mA2, mx2, mc2, mx3, mx4, mx5, mA6, mx6, mc6, mx7, ych, ymost, ox0, ox1, oA2, ox2, oc2, ox3, ox4, ox5, oA6, ox6, oc6, ox7, rfl, sbst, sb0, sb1, sB2, sn2, sb3, sb4, sb5, sB6, sn6, fb0, fb1, mb0, mb1, mB2, mn2, mb3, mb4, mb5, mB6, mn6, ybc, ybm, ob0, ob1, oB2, on2, ob3, ob4, ob5, oB6, on6, yq⟩ := contentFeedsIn_open (hval 0 35 v0 rfl rfl) h0
 obtain ⟨sz2, sz6, sz7, fz2, mz2, mz6, mz7, oz2, oz6, oz7⟩ := yq _ z_0
 refine (contentFeeds_walk ⟨sst, ⟨⟨sx0, sx1, sx2⟩, ⟨sx3, sx4, sx5, sx6⟩, sx7⟩⟩ sA2 sA6 sc2 sc6 fx0 fx1 fx2 ⟨⟨mx0, mx1, mx2⟩, ⟨mx3, mx4, mx5, mx6⟩, mx7⟩ mA2 mA6 mc2 mc6 ych ymost ⟨⟨ox0, ox1, ox2⟩, ⟨ox3, ox4, ox5, ox6⟩, ox7⟩ oA2 oA6 oc2 oc6 W (wid hL) (con hL) sbst ⟨sB2, sB6, sn2, sn6⟩ (by have h := sz2.1; unfold reachBytes at h; (try dsimp only); omega) (by have h := sz6.1; unfold reachBytes at h; (try dsimp only); omega) (by have h := sz7; unfold reachBytes at h; (try dsimp only); omega) (by have h := fz2; unfold reachBytes at h; (try dsimp only); omega) ⟨fun u hu => (by obtain ⟨h1, h2⟩ := mz2.2 u hu; unfold reachBytes at h2; exact ⟨h1.1, h1.2, by omega⟩), ⟨mb4, mb5, fun u hu => (by obtain ⟨h1, h2⟩ := mz6.2 u hu; unfold reachBytes at h2; exact ⟨h1.1, h1.2, by omega⟩)⟩⟩ ⟨mB2, mB6, mn2, mn6⟩ ⟨by have h := mz2.1; unfold reachBytes at h; (try dsimp only); omega, by have h := mz6.1; unfold reachBytes at h; (try dsimp only); omega⟩ (by have h := mz7; unfold reachBytes at h; (try dsimp only); omega) ⟨oB2, oB6, on2, on6⟩).mono fun e W' ⟨he, hb⟩ => ?_
 subst he
 exact ⟨_, rfl, law_post laidOut params (by kernel_rfl) Tryz.underlying4 rfl hW' hb rfl rfl rfl⟩

def pinnedCells : Array Value := (match (Go.Pinned.utf8First : DataW Unit) with
 | .agg l => l.map (fun (d : DataW Unit) => match d with | .lit (.int k n) => Value.int k n | _ => .bool false)
 | _ => []).toArray
noncomputable def laidWorld0 (os : Os) : World :=
 { World.holding Tryz.prog os ⟨#[], #[], []⟩ with heap := (World.holding Tryz.prog os ⟨#[], #[], []⟩).heap.modify 1 fun
  | .cells _ t frozen => .cells #[.int .i64 1, .int .i64 2, .int .i64 4, .int .i64 8] t frozen
  | o => o }
noncomputable def laidWorld1 (os : Os) : World :=
 { laidWorld0 os with heap := (laidWorld0 os).heap.modify 0 fun
  | .cells _ t frozen => .cells #[.int .i64 60, .int .i64 40, .int .i64 60, .int .i64 50, .int .i64 60, .int .i64 60, .int .i64 60, .int .i64 71] t frozen
  | o => o }
noncomputable def laidWorld2 (os : Os) : World :=
 { laidWorld1 os with heap := (laidWorld1 os).heap.modify 3 fun
  | .cells _ t frozen => .cells #[.int .u8 128, .int .u8 191, .int .u8 160, .int .u8 191, .int .u8 128, .int .u8 159, .int .u8 144, .int .u8 191, .int .u8 128, .int .u8 143, .int .u8 0, .int .u8 0, .int .u8 0, .int .u8 0, .int .u8 0, .int .u8 0, .int .u8 0, .int .u8 0, .int .u8 0, .int .u8 0, .int .u8 0, .int .u8 0, .int .u8 0, .int .u8 0, .int .u8 0, .int .u8 0, .int .u8 0, .int .u8 0, .int .u8 0, .int .u8 0, .int .u8 0, .int .u8 0] t frozen
  | o => o }
noncomputable def laidWorld (os : Os) : World :=
 { laidWorld2 os with heap := (laidWorld2 os).heap.modify 2 fun
  | .cells _ t frozen => .cells pinnedCells t frozen
  | o => o }
theorem laid_met (os : Os) : laidMet Tryz.prog Rows.contentFeedsRow.laid ((laidWorld os).forCall (fun _ _ => 0) ⟨#[], #[.agg #[.int .i64 0, .int .i64 0, .int .i64 0, .slice none 0 0, .int .i64 0, .int .u64 0, .int .u64 0, .slice none 0 0, .string .empty, .int .i64 0, .int .i64 0, .string .empty, .int .i64 0, .int .i64 0, .slice none 0 0, .int .i64 0, .int .u64 0, .int .u64 0, .slice none 0 0, .string .empty, .int .i64 0, .int .i64 0, .int .i64 0, .int .i64 0, .slice none 0 0, .int .i64 0, .int .u64 0, .int .u64 0, .slice none 0 0, .string .empty]], []⟩).memory :=
 laidMet_of_run' 8 (by kernel_rfl) (by kernel_rfl)
theorem reads (os : Os) {H : Type} (enc : TypeId × Value → H) : ∃ places, DataW.whole enc Tryz.prog ((laidWorld os).forCall (fun _ _ => 0) ⟨#[], #[.agg #[.int .i64 0, .int .i64 0, .int .i64 0, .slice none 0 0, .int .i64 0, .int .u64 0, .int .u64 0, .slice none 0 0, .string .empty, .int .i64 0, .int .i64 0, .string .empty, .int .i64 0, .int .i64 0, .slice none 0 0, .int .i64 0, .int .u64 0, .int .u64 0, .slice none 0 0, .string .empty, .int .i64 0, .int .i64 0, .int .i64 0, .int .i64 0, .slice none 0 0, .int .i64 0, .int .u64 0, .int .u64 0, .slice none 0 0, .string .empty]], []⟩).memory Tryz.f3.params.toList Rows.contentFeedsSpec.vars false #[Value.agg #[.int .i64 0, .int .i64 0, .int .i64 0, .slice none 0 0, .int .i64 0, .int .u64 0, .int .u64 0, .slice none 0 0, .string .empty, .int .i64 0, .int .i64 0, .string .empty, .int .i64 0, .int .i64 0, .slice none 0 0, .int .i64 0, .int .u64 0, .int .u64 0, .slice none 0 0, .string .empty, .int .i64 0, .int .i64 0, .int .i64 0, .int .i64 0, .slice none 0 0, .int .i64 0, .int .u64 0, .int .u64 0, .slice none 0 0, .string .empty]].toList 8 = some ([.agg [.agg [.lit (.int .i64 0), .agg [.agg [.lit (.int .i64 0), .lit (.int .i64 0), .nil], .agg [.lit (.int .i64 0), .lit (.int .u64 0), .lit (.int .u64 0), .nil], .lit (.string [])]], .agg [.lit (.int .i64 0), .lit (.int .i64 0), .lit (.string [])], .agg [.agg [.lit (.int .i64 0), .lit (.int .i64 0), .nil], .agg [.lit (.int .i64 0), .lit (.int .u64 0), .lit (.int .u64 0), .nil], .lit (.string [])], .lit (.int .i64 0), .lit (.int .i64 0), .agg [.agg [.lit (.int .i64 0), .lit (.int .i64 0), .nil], .agg [.lit (.int .i64 0), .lit (.int .u64 0), .lit (.int .u64 0), .nil], .lit (.string [])]]], [], places) :=
 ⟨[], by kernel_rfl⟩

set_option maxRecDepth 100000 in
theorem lifted (os : Os) (started : os.Started) (H : Type) (enc : TypeId × Value → H) (F : Stop.Interp) :
 ReturnsInHanded {} Tryz.checked os 3 .any ((OpenSpec.ofChange Rows.contentFeedsSpec).preRow enc Tryz.prog Tryz.f3 Rows.contentFeedsRow.domain false Rows.contentFeedsRow.laid) (((OpenSpec.ofChange Rows.contentFeedsSpec).at F).post enc Tryz.prog Tryz.f3 false true false false) := by
 obtain ⟨places, hx⟩ := reads os enc
 refine returnsInHanded_of_row (C := Tryz.checked) (s := OpenSpec.ofChange Rows.contentFeedsSpec) own started (by kernel_rfl) Tryz.func3
  (witness_row_at (enc := enc) (C := Tryz.checked) false (laidWorld os) #[.agg #[.int .i64 0, .int .i64 0, .int .i64 0, .slice none 0 0, .int .i64 0, .int .u64 0, .int .u64 0, .slice none 0 0, .string .empty, .int .i64 0, .int .i64 0, .string .empty, .int .i64 0, .int .i64 0, .slice none 0 0, .int .i64 0, .int .u64 0, .int .u64 0, .slice none 0 0, .string .empty, .int .i64 0, .int .i64 0, .int .i64 0, .int .i64 0, .slice none 0 0, .int .i64 0, .int .u64 0, .int .u64 0, .slice none 0 0, .string .empty]] rfl (by kernel_rfl) (by kernel_rfl) (by kernel_rfl)
   (OpenSpec.preRow_of_cond 8 hx (by kernel_rfl) (fun k hk => by cases hk) (by kernel_rfl) (laid_met os))) ?_
 intro W base args ds gs before hval hW _ _ hz hL _ _
 exact contract H enc W base args ds gs before hval hW hz hL

theorem said : Rows.ContentFeedsSaid :=
 OpenClaim.holds_of_cond 3 Tryz.f3 rfl rfl rfl rfl rfl rfl rfl ⟨rfl, rfl, rfl, rfl, rfl⟩ rfl rfl rfl rfl rfl (by kernel_rfl) Tryz.func3 (by kernel_rfl)
  (of_decide_eq_true (by kernel_rfl)) (by unfold Func.isWrapper; first | (rw [if_pos (by decide +kernel)]; kernel_rfl) | (rw [if_neg (by decide +kernel)]; exact ⟨rfl, rfl⟩))
  (fun os started H enc _ F => by rw [OpenClaim.pre_eq_preRow]; exact lifted os started H enc F)

theorem plain (f : FuncId) (fn : Func) (hf : Tryz.pinned.checked.prog.funcNamed Rows.contentFeedsRow.func = some f) (hfn : Tryz.pinned.checked.prog.funcs[f]? = some fn) :
 false = Tryz.pinned.checked.prog.looks [] ∧ ∀ (j : Nat) t, fn.params[j]? = some t → Tryz.pinned.checked.prog.wantsStandIn t = false := by
 obtain rfl : f = 3 := Option.some.inj ((show Tryz.prog.funcNamed Rows.contentFeedsRow.func = some 3 by kernel_rfl).symm.trans hf) |>.symm
 obtain rfl : fn = Tryz.f3 := (Option.some.inj (Tryz.func3.symm.trans hfn)).symm
 refine ⟨by kernel_rfl, fun j t ht => ?_⟩
 rw [Tryz.params3] at ht
 have ht := Array.mem_of_getElem? ht
 simp at ht
 rcases ht with rfl
 · exact (show Tryz.prog.wantsStandIn 35 = false by kernel_rfl)

theorem card : Rows.ContentFeedsCardSaid :=
 Claim7.holds_tied_plain_at .later [] _ _ _ _ said (fun _ h => by cases h) (by kernel_rfl) (fun _ h => by cases h) contentFeeds_row_tie rfl ⟨rfl, rfl⟩ (by kernel_rfl) rfl plain (by kernel_rfl)
end Go.Proofs.YtllgkohgcicbhaaGreatDoor.contentFeeds
