/-
  text.Cut answers a row of its own with a text's pieces; nothing that was there is changed. Conditions: a text of at most 1048576 bytes.
-/
import Derived.Test.YtllgkohgcicbhaaGreatDoorZB
import Derived.RangeFuncNested
import Derived.RangeFuncBound
import Derived.RangeFuncCalls
import Derived.RangeFuncLeaves
import Derived.Shelf.Abstract
import Derived.Shelf.RegionOpen
import Derived.WalkKit
import Derived.OwnWalkIn
import Derived.TacticsInMore
import Derived.LoopNIn
import Derived.LoopIn
import Derived.Maps.AppendAt
namespace Go.Proofs.YtllgkohgcicbhaaGreatDoor
open Go.RowKit Go.Shelf
attribute [local go_sem] Oper.semAt_some

/-- what a round keeps: the box of the pieces' size -/
def KeepN (Bn : Nat) (W W' : World) : Prop := ∀ v, Boxed W Bn 3 v → Boxed W' Bn 3 v
def strSize : Value → Nat
  | .string s => s.size
  | _ => 0

set_option maxRecDepth 100000 in
set_option maxHeartbeats 1000000 in
theorem pieces1_in (F : Fence) (n : Nat) (hf : F.fn 101) (hro : F.round = none) (hn : 1 ≤ n) (l Bs Bn : Nat) (s : ByteArray) (m : Nat) (hm : 0 < m) (hs : s.size < 4611686018427387904) (J Jx : List ByteArray → World → Prop)
    (hY : ∀ pre x W, J pre W → pre.length < (cutL m s).length → YieldAt F (n - 1) Tryz.prog l #[.string x] W fun e W' =>
      (e = .returned (.bool true) ∧ J (pre ++ [x]) W' ∧ KeepN Bn W W') ∨ (e = .returned (.bool false) ∧ Jx (pre ++ [x]) W'))
    (W : World) (hbs : Boxed W Bs 9 (.string s)) (hbn : Boxed W Bn 3 (.int .i64 m)) (h0 : J [] W) :
    CallsIn F n Tryz.prog 101 #[.func (.yield l) #[] #[], .pointer (some ⟨Bs, 0, none⟩), .pointer (some ⟨Bn, 0, none⟩)] W fun e W' => (∃ v, e = .returned v) ∧
      ((∃ ys, ys = cutL m s ∧ J ys W') ∨ (∃ pre, pre <+: cutL m s ∧ Jx pre W')) := by
  have hcs := hbs.cell
  refine callsIn_of_wp Tryz.func101 rfl hf ?_ hro
  simp only [Tryz.ntmps101, List.size_toArray, List.length_cons, List.length_nil, Nat.reduceAdd, Nat.reduceSub, Array.replicate_succ, Array.replicate_zero, List.push_toArray, List.append_toArray, List.nil_append, List.cons_append]
  gi_wp2
  clear hcs
  gi_loopw [4] (fun p wr => ∃ (pre : List ByteArray) (r : ByteArray), p = .string r ∧ r.size ≤ s.size ∧ cutL m s = pre ++ cutL m r ∧ Boxed wr Bn 3 (.int .i64 m) ∧ J pre wr)
    (fun p _ => strSize p)
  case atStart =>
    exact ⟨[], s, rfl, Nat.le_refl _, rfl, hbn, h0⟩
  case round =>
    obtain ⟨pre, r, rfl, hle, hx, hb, hJs⟩ := hrel
    rcases Nat.eq_zero_or_pos r.size with h | h
    · obtain rfl : r = ⟨#[]⟩ := by apply ba_ext; apply List.eq_nil_of_length_eq_zero; rw [ba_len]; exact h
      gi_wp2
      go_end0
      exact ⟨⟨_, rfl⟩, .inl ⟨pre, by rw [hx, cutL_nil m h, List.append_nil], hJs⟩⟩
    · have hc := hb.cell
      have hne : (r.toList == []) = false := by
        rw [Lib.toList_data, beq_eq_false_iff_ne]
        intro e
        have e := congrArg List.length e
        rw [ba_len] at e
        rw [e] at h
        exact absurd h (by simp)
      have hx2 := cutL_cons h hm
      rcases Nat.lt_or_ge r.size m with hrm | hrm
      · have ek : min m r.size = r.size := by omega
        have e0 : r.extract 0 r.size = r := by apply ba_ext; rw [Lib.extract_data, List.drop_zero, List.take_of_length_le (by rw [ba_len]; omega)]
        rw [ek, e0, cutL_nil m (s := r.extract r.size r.size) (by rw [ByteArray.size_extract]; omega)] at hx2
        obtain ⟨fn, tmps, assign, body, hy, hR⟩ := hY pre r wr hJs (by rw [hx, hx2]; simp)
        clear ek e0
        gi_wp2
        refine hR.mono ?_
        rintro e W3 (⟨rfl, hJ3, hk3⟩ | ⟨rfl, hJx3⟩)
        · gi_wp2
          go_roundw
          case rel => exact ⟨pre ++ [r], ByteArray.empty, rfl, Nat.zero_le _, by rw [hx, hx2, cutL_nil m (s := ByteArray.empty) rfl]; simp, hk3 _ hb, hJ3⟩
          case measure => exact h
        · gi_wp2
          refine bodyPost_ret (results_none rfl _ _ _) rfl ?_
          exact ⟨⟨_, rfl⟩, .inr ⟨pre ++ [r], ⟨[], by rw [hx, hx2]; simp⟩, hJx3⟩⟩
      · have ek : min m r.size = m := by omega
        rw [ek] at hx2
        obtain ⟨fn, tmps, assign, body, hy, hR⟩ := hY pre (r.extract 0 m) wr hJs (by rw [hx, hx2]; simp)
        clear ek
        gi_wp2
        refine hR.mono ?_
        rintro e W3 (⟨rfl, hJ3, hk3⟩ | ⟨rfl, hJx3⟩)
        · gi_wp2
          go_roundw
          case rel => exact ⟨pre ++ [r.extract 0 m], r.extract m r.size, rfl, by rw [ByteArray.size_extract]; omega, by rw [hx, hx2]; simp, hk3 _ hb, hJ3⟩
          case measure => simp only [strSize, ByteArray.size_extract]; omega
        · gi_wp2
          refine bodyPost_ret (results_none rfl _ _ _) rfl ?_
          exact ⟨⟨_, rfl⟩, .inr ⟨pre ++ [r.extract 0 m], ⟨cutL m (r.extract m r.size), by rw [hx, hx2]; simp⟩, hJx3⟩⟩

/-- text.pieces: both arguments are boxed; the function that it answers holds the boxes -/
theorem pieces_in (F : Fence) (n : Nat) (hf : F.fn 81) (hro : F.round = none) (s : ByteArray) (m : Int) (w : World) :
    CallsIn F n Tryz.prog 81 #[.string s, .int .i64 m] w fun e w' => e = .returned (.func (.func 101) #[] #[.pointer (some ⟨w.heap.size, 0, none⟩), .pointer (some ⟨w.heap.size + 1, 0, none⟩)]) ∧ w' = (w.alloc (.cells #[.string s] 9)).alloc (.cells #[.int .i64 m] 3) := by
  have hmf : ∀ (p q : Value) (w : World), (Instr.makeFunc (.func 101) #[] #[p, q]).run Tryz.prog w = .ok (.func (.func 101) #[] #[p, q]) w := fun _ _ _ => by kernel_rfl
  refine callsIn_of_wp Tryz.func81 rfl hf ?_ hro
  simp only [Tryz.ntmps81, List.size_toArray, List.length_cons, List.length_nil, Nat.reduceAdd, Nat.reduceSub, Array.replicate_succ, Array.replicate_zero, List.push_toArray, List.append_toArray, List.nil_append, List.cons_append]
  gi_wp2
  go_ret
  exact ⟨rfl, rfl⟩

theorem boxed_under {w W : World} {B : Nat} {t : TypeId} {v : Value} (h : Boxed w B t v) (hb : Below w.heap.size w W) : Boxed W B t v := (hb.block B h.lt).trans h
theorem pieces_stops (F : Fence) (n : Nat) (hf : F.fn 101) (hro : F.round = none) (hn : 1 ≤ n) (Bs Bn : Nat) (s : ByteArray) (m : Nat) (hm : 0 < m) (hs : s.size < 4611686018427387904) (w : World)
    (hbs : Boxed w Bs 9 (.string s)) (hbn : Boxed w Bn 3 (.int .i64 m)) :
    SeqStopsK F n Tryz.prog 101 #[.pointer (some ⟨Bs, 0, none⟩), .pointer (some ⟨Bn, 0, none⟩)] (fun x : ByteArray => #[Value.string x]) (KeepN Bn) (fun ys => ys = cutL m s) (fun pre => pre <+: cutL m s) (cutL m s).length w := fun l J Jx W hW _ _ hY h0 =>
  pieces1_in F n hf hro hn l Bs Bn s m hm hs J Jx hY W (boxed_under hbs hW) (boxed_under hbn hW) h0

theorem keepN_t {Bn : Nat} {A B C : World} (h : KeepN Bn A B) (k : KeepN Bn B C) : KeepN Bn A C := fun v hv => k v (h v hv)
theorem keepN_b {Bn : Nat} (W : World) (l : Nat) (o o' : Obj) (h : W.heap[l]? = some o) (hc : o.isCells = false) : KeepN Bn W (W.putObj l o') := fun v hv =>
  hv.kept (grownBy_putObj' W l o') (fun e => by
    obtain rfl : Bn = l := by simpa using e
    rw [show W.heap[Bn]? = _ from hv] at h
    cases h
    cases hc)
theorem infoStr : (Tryz.prog.info? 9).map (fun i => (i.zero, i.size, i.bytes)) = some (some (.string ⟨#[]⟩), 1, 16) := by kernel_rfl

set_option maxRecDepth 100000 in
set_option maxHeartbeats 2000000 in
theorem cut_in (F : Fence) (n : Nat) (h1 : F.fn 53) (h2 : F.fn 81) (h3 : F.fn 101) (hro : F.round = none) (hn : 3 ≤ n) (s : ByteArray) (m : Nat) (hm : 0 < m) (hs : s.size ≤ 1048576) (w : World) :
    CallsIn F n Tryz.prog 53 #[.string s, .int .i64 m] w fun e W' => ∃ v, e = .returned v ∧ W'.ownsRow w.heap.size 9 1 v (cutL m s).length ((cutL m s).map Value.string) ∧ Below w.heap.size w W' := by
  have hn1 : 1 ≤ n := by omega
  have hcl := cutL_le hm s
  obtain ⟨i0, hi, hz0, hz1, hz2⟩ := info_parts infoStr
  refine callsIn_of_wp_marks Tryz.func53 rfl h1 ?_ hro
  simp only [Tryz.ntmps53, List.size_toArray, List.length_cons, List.length_nil, Nat.reduceAdd, Nat.reduceSub, Array.replicate_succ, Array.replicate_zero, List.push_toArray, List.append_toArray, List.nil_append, List.cons_append]
  gi_wp2_with (gi_at_call 81; refine (pieces_in F (n - 1) h2 hro _ _ _).mono ?_; rintro e w' ⟨rfl, rfl⟩)
  obtain ⟨w0, hw0⟩ : ∃ w0, ((w.alloc (.cells #[.slice none 0 0] 76)).alloc (.cells #[.string s] 9)).alloc (.cells #[.int .i64 m] 3) = w0 := ⟨_, rfl⟩
  have bL : Boxed w0 w.heap.size 76 (.slice none 0 0) := by rw [← hw0]; exact ((Boxed.new w _ _).alloc _).alloc _
  have bS : Boxed w0 (w.heap.size + 1) 9 (.string s) := by
    have h := (Boxed.new (w.alloc (.cells #[.slice none 0 0] 76)) 9 (.string s)).alloc (.cells #[.int .i64 m] 3)
    rw [World.size_alloc] at h
    rw [← hw0]; exact h
  have bN : Boxed w0 (w.heap.size + 1 + 1) 3 (.int .i64 (m : Nat)) := by
    have h := Boxed.new ((w.alloc (.cells #[.slice none 0 0] 76)).alloc (.cells #[.string s] 9)) 3 (.int .i64 (m : Nat))
    rw [World.size_alloc, World.size_alloc] at h
    rw [← hw0]; exact h
  have hB0 : Below w.heap.size w w0 := by rw [← hw0]; exact (((Below.refl _ w).alloc (Nat.le_refl _) _).alloc (by simp) _).alloc (by simp; omega) _
  have hsz : w0.heap.size = w.heap.size + 3 := by rw [← hw0]; simp
  rw [hw0]
  clear hw0
  refine wpIn_rangeFunc_ownG hro hn1 (gf := 101) (lb := #[.pointer (some ⟨w.heap.size + 1, 0, none⟩), .pointer (some ⟨w.heap.size + 1 + 1, 0, none⟩)]) rfl h3 (enters_of Tryz.func101 (by kernel_rfl) rfl)
    (pieces_stops F (n - 1) h3 hro (by omega) (w.heap.size + 1) (w.heap.size + 1 + 1) s m hm (by omega) _ bS bN) keepN_t (fun W l o o' _ h hc _ => keepN_b W l o o' h hc) (Below.refl _ _) (fun _ => rfl)
    (fun pre W => (∃ v, Boxed W w.heap.size 76 v ∧ W.ownsRow w.heap.size 9 1 v pre.length (pre.map Value.string) ∧ True) ∧ Below w.heap.size w W)
    (fun _ _ _ => False)
    (OwnFrom.and (Own.from (holdsRow_own w.heap.size w.heap.size 76 9 1 (fun pre : List ByteArray => pre.length) (fun pre => pre.map Value.string) (fun _ _ => True)) _) (ownFrom_below (Nat.le_refl _) (by omega)))
    (fun _ _ _ _ _ hs _ _ => hs)
    ⟨⟨_, bL, World.ownsRow_nil _ _ _ _, trivial⟩, hB0⟩
    (fun x => { tmps := #[.string s, .int .i64 m, undef, undef, .slice none 0 0, .pointer (some ⟨w.heap.size, 0, none⟩), .string x, .string s, .int .i64 m, .int .i64 m, .func (.func 101) #[] #[.pointer (some ⟨w.heap.size + 1, 0, none⟩), .pointer (some ⟨w.heap.size + 1 + 1, 0, none⟩)], .string x, undef, undef, undef, undef, undef], defers := [] }) ?assign ?body ?done ?stop
  case assign =>
    intro l x W K hK
    gi_wp2
    exact hK
  case body =>
    rintro l pre x W ⟨⟨v, hv, hrow, -⟩, hB⟩ hlt
    have hc := hv.cell
    have hpl : pre.length + 1 ≤ 1048576 := by omega
    gi_wp2_with (gi_at_builtin; refine wpListIn_append_own _ rfl _ _ 76 rfl w.heap.size 9 i0 (.string ⟨#[]⟩) 1 16 Tryz.underlying76 hi hz0 hz1 hz2 rfl (by decide) _ _ _ rfl (hrow.alloc _) ⟨W.heap.size, 0, none⟩ 1 1 [.string x] rfl rfl (cell_one_new _ _ _) (by simp [Value.oneCell']) (by unfold maxLen; omega) (by omega) (by have := hB.size; simp; omega) ?_; intro v' w1 hown' hgrow _; obtain ⟨g', cap', rfl⟩ := ownsRow_succ hown'; obtain ⟨hv1, hv2, hr2, hk2, hb2⟩ := hv.appended (by decide) hrow hB.size (Nat.le_refl _) hown' hgrow; have hc1 := hv1.cell; have hf1 := hv1.frozen)
    refine ⟨hk2.from _, ?_, ⟨_, hv2, by simpa using hr2, trivial⟩, hB.trans hb2⟩
    intro u hu
    exact ((hu.alloc _).kept hgrow (hu.not_row (by decide) hrow)).other (by omega) _
  case done =>
    rintro D ys W hD rfl ⟨⟨v, hv, hrow, -⟩, hB⟩ hK
    have hc := hv.cell
    gi_wp2
    refine ⟨by simp, .inl ⟨_, _, rfl, run_takeDeferred hK, ?_⟩⟩
    exact ⟨_, results_tmp rfl _ _ _, v, rfl, ownsRow_putObj hrow _ hK rfl, hB.trans (belowK_b (w := w) (Nat.le_refl _) W D _ _ (by omega) hK rfl rfl)⟩
  case stop =>
    rintro D c pre W _ _ h _
    exact h.elim

set_option maxRecDepth 100000 in
set_option maxHeartbeats 2000000 in
theorem cut_in_one (F : Fence) (n : Nat) (h1 : F.fn 53) (h2 : F.fn 81) (h3 : F.fn 101) (hro : F.round = none) (hn : 3 ≤ n) (s : ByteArray) (k : Int) (hk : k < 1) (hs : s.size ≤ 1048576) (w : World) :
    CallsIn F n Tryz.prog 53 #[.string s, .int .i64 k] w fun e W' => ∃ v, e = .returned v ∧ W'.ownsRow w.heap.size 9 1 v (cutL 1 s).length ((cutL 1 s).map Value.string) ∧ Below w.heap.size w W' := by
  have hn1 : 1 ≤ n := by omega
  have hcl := cutL_le (Nat.one_pos) s
  obtain ⟨i0, hi, hz0, hz1, hz2⟩ := info_parts infoStr
  refine callsIn_of_wp_marks Tryz.func53 rfl h1 ?_ hro
  simp only [Tryz.ntmps53, List.size_toArray, List.length_cons, List.length_nil, Nat.reduceAdd, Nat.reduceSub, Array.replicate_succ, Array.replicate_zero, List.push_toArray, List.append_toArray, List.nil_append, List.cons_append]
  gi_wp2_with (gi_at_call 81; refine (pieces_in F (n - 1) h2 hro _ _ _).mono ?_; rintro e w' ⟨rfl, rfl⟩)
  obtain ⟨w0, hw0⟩ : ∃ w0, ((w.alloc (.cells #[.slice none 0 0] 76)).alloc (.cells #[.string s] 9)).alloc (.cells #[.int .i64 1] 3) = w0 := ⟨_, rfl⟩
  have bL : Boxed w0 w.heap.size 76 (.slice none 0 0) := by rw [← hw0]; exact ((Boxed.new w _ _).alloc _).alloc _
  have bS : Boxed w0 (w.heap.size + 1) 9 (.string s) := by
    have h := (Boxed.new (w.alloc (.cells #[.slice none 0 0] 76)) 9 (.string s)).alloc (.cells #[.int .i64 1] 3)
    rw [World.size_alloc] at h
    rw [← hw0]; exact h
  have bN : Boxed w0 (w.heap.size + 1 + 1) 3 (.int .i64 (1 : Nat)) := by
    have h := Boxed.new ((w.alloc (.cells #[.slice none 0 0] 76)).alloc (.cells #[.string s] 9)) 3 (.int .i64 (1 : Nat))
    rw [World.size_alloc, World.size_alloc] at h
    rw [← hw0]; exact h
  have hB0 : Below w.heap.size w w0 := by rw [← hw0]; exact (((Below.refl _ w).alloc (Nat.le_refl _) _).alloc (by simp) _).alloc (by simp; omega) _
  have hsz : w0.heap.size = w.heap.size + 3 := by rw [← hw0]; simp
  rw [hw0]
  clear hw0
  refine wpIn_rangeFunc_ownG hro hn1 (gf := 101) (lb := #[.pointer (some ⟨w.heap.size + 1, 0, none⟩), .pointer (some ⟨w.heap.size + 1 + 1, 0, none⟩)]) rfl h3 (enters_of Tryz.func101 (by kernel_rfl) rfl)
    (pieces_stops F (n - 1) h3 hro (by omega) (w.heap.size + 1) (w.heap.size + 1 + 1) s 1 (Nat.one_pos) (by omega) _ bS bN) keepN_t (fun W l o o' _ h hc _ => keepN_b W l o o' h hc) (Below.refl _ _) (fun _ => rfl)
    (fun pre W => (∃ v, Boxed W w.heap.size 76 v ∧ W.ownsRow w.heap.size 9 1 v pre.length (pre.map Value.string) ∧ True) ∧ Below w.heap.size w W)
    (fun _ _ _ => False)
    (OwnFrom.and (Own.from (holdsRow_own w.heap.size w.heap.size 76 9 1 (fun pre : List ByteArray => pre.length) (fun pre => pre.map Value.string) (fun _ _ => True)) _) (ownFrom_below (Nat.le_refl _) (by omega)))
    (fun _ _ _ _ _ hs _ _ => hs)
    ⟨⟨_, bL, World.ownsRow_nil _ _ _ _, trivial⟩, hB0⟩
    (fun x => { tmps := #[.string s, .int .i64 k, undef, undef, .slice none 0 0, .pointer (some ⟨w.heap.size, 0, none⟩), .string x, .string s, .int .i64 k, .int .i64 1, .func (.func 101) #[] #[.pointer (some ⟨w.heap.size + 1, 0, none⟩), .pointer (some ⟨w.heap.size + 1 + 1, 0, none⟩)], .string x, undef, undef, undef, undef, undef], defers := [] }) ?assign ?body ?done ?stop
  case assign =>
    intro l x W K hK
    gi_wp2
    exact hK
  case body =>
    rintro l pre x W ⟨⟨v, hv, hrow, -⟩, hB⟩ hlt
    have hc := hv.cell
    have hpl : pre.length + 1 ≤ 1048576 := by omega
    gi_wp2_with (gi_at_builtin; refine wpListIn_append_own _ rfl _ _ 76 rfl w.heap.size 9 i0 (.string ⟨#[]⟩) 1 16 Tryz.underlying76 hi hz0 hz1 hz2 rfl (by decide) _ _ _ rfl (hrow.alloc _) ⟨W.heap.size, 0, none⟩ 1 1 [.string x] rfl rfl (cell_one_new _ _ _) (by simp [Value.oneCell']) (by unfold maxLen; omega) (by omega) (by have := hB.size; simp; omega) ?_; intro v' w1 hown' hgrow _; obtain ⟨g', cap', rfl⟩ := ownsRow_succ hown'; obtain ⟨hv1, hv2, hr2, hk2, hb2⟩ := hv.appended (by decide) hrow hB.size (Nat.le_refl _) hown' hgrow; have hc1 := hv1.cell; have hf1 := hv1.frozen)
    refine ⟨hk2.from _, ?_, ⟨_, hv2, by simpa using hr2, trivial⟩, hB.trans hb2⟩
    intro u hu
    exact ((hu.alloc _).kept hgrow (hu.not_row (by decide) hrow)).other (by omega) _
  case done =>
    rintro D ys W hD rfl ⟨⟨v, hv, hrow, -⟩, hB⟩ hK
    have hc := hv.cell
    gi_wp2
    refine ⟨by simp, .inl ⟨_, _, rfl, run_takeDeferred hK, ?_⟩⟩
    exact ⟨_, results_tmp rfl _ _ _, v, rfl, ownsRow_putObj hrow _ hK rfl, hB.trans (belowK_b (w := w) (Nat.le_refl _) W D _ _ (by omega) hK rfl rfl)⟩
  case stop =>
    rintro D c pre W _ _ h _
    exact h.elim

/-- how many bytes a piece has: a number below 1 counts as 1 -/
def pieceLen (k : Int) : Nat := (max k 1).toNat
theorem tcut_any (s : ByteArray) (k : Int) (hs : s.size ≤ 1048576) (w : World) :
    Calls Tryz.prog 53 #[.string s, .int .i64 k] w fun e W' => ∃ v, e = .returned v ∧ W'.ownsRow w.heap.size 9 1 v (cutL (pieceLen k) s).length ((cutL (pieceLen k) s).map Value.string) ∧ Below w.heap.size w W' := by
  refine (callsIn_wide (n := 3)).1 ?_
  rcases Int.lt_or_le k 1 with h | h
  · have e : pieceLen k = 1 := by unfold pieceLen; omega
    rw [e]
    exact cut_in_one Fence.wide 3 trivial trivial trivial rfl (Nat.le_refl _) s k h hs w
  · have e : ((pieceLen k : Nat) : Int) = k := by unfold pieceLen; omega
    have h2 := cut_in Fence.wide 3 trivial trivial trivial rfl (Nat.le_refl _) s (pieceLen k) (by omega) hs w
    rw [e] at h2
    exact h2
end Go.Proofs.YtllgkohgcicbhaaGreatDoor
