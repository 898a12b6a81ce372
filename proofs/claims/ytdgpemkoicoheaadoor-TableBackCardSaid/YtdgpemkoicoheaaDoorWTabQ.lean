/-
  table.Keys: the keys of a table with nothing behind it, in a row of its own; nothing that was there is changed. Conditions: the package num's table of widths holds 1, 2, 4, 8; texts of fewer than 2^62 bytes.
-/
import Derived.Deep.Onto
import Derived.Test.YtdgpemkoicoheaaDoorWTabW
namespace Go.Proofs.YtdgpemkoicoheaaDoor
open Go.RowKit Go.Maps Go.Shelf
attribute [local go_sem] Oper.semAt_some

theorem infoText : (Tryd.prog.info? 9).map (fun i => (i.zero, i.size, i.bytes)) = some (some (.string ⟨#[]⟩), 1, 16) := by kernel_rfl
/-- a table's fields -/
def tabItems (t : ByteArray) : List Item := (items true (ttA 4 t) 31).1

set_option maxRecDepth 100000 in
set_option maxHeartbeats 2000000 in
theorem keys_ok (t : ByteArray) (w : World) (hw : Wid w) (hs : t.size < 4611686018427387904) (hx : aloneE (nest true t 32) = 0) :
    Calls Tryd.prog 15 #[.string t] w fun e w' => ∃ v, e = .returned (.tuple #[v, .int .i64 0]) ∧ w'.ownsRow w.heap.size 9 1 v (tabItems t).length ((tabItems t).map (fun i => Value.string i.key)) ∧ Below w.heap.size w w' := by
  obtain ⟨-, g1, -, -⟩ := alone_enter hx
  have g2 := seqOf_items g1
  have g3 := items_length 31 _ (ttA 4 t) (Nat.le_refl _)
  have g4 := ttA_four_lt t
  have HI := Lib.hid (show tabItems t = (items true (ttA 4 t) 31).1 from rfl)
  obtain ⟨i0, hi, hz0, hz1, hz2⟩ := info_parts infoText
  refine (callsIn_wide (n := 4)).1 ?_
  refine callsIn_of_wp_marks Tryd.func15 rfl trivial ?_ rfl
  simp only [Tryd.ntmps15, List.size_toArray, List.length_cons, List.length_nil, Nat.reduceAdd, Nat.reduceSub, Array.replicate_succ, Array.replicate_zero, List.push_toArray, List.append_toArray, List.nil_append, List.cons_append]
  gi_wp2_with fail
  refine ⟨trivial, (callsIn_wide.2 (whole_ok t w hw hs hx)).mono ?_⟩
  rintro e w1 ⟨M, B, S, rfl, fs, hb⟩
  clear hx
  generalize aloneD (nest true t 32) = d
  generalize ttA 4 t = body at g1 g2 g3 g4 HI fs
  gi_wp2
  have hbs := hb.size
  have bL := Boxed.new w1 28 (.slice none 0 0)
  have hB0 : Below w1.heap.size w1 (w1.alloc (.cells #[.slice none 0 0] 28)) := (Below.refl _ _).alloc (Nat.le_refl _) _
  have l1 := fs.br.lt
  have l2 := fs.bf.lt
  have hlen : (seqOf body 31).length ≤ body.size := by rw [g2]; simpa using g3
  obtain ⟨W0, hW0⟩ : ∃ W0, w1.alloc (.cells #[.slice none 0 0] 28) = W0 := ⟨_, rfl⟩
  have hsz : W0.heap.size = w1.heap.size + 1 := by rw [← hW0]; simp
  rw [hW0] at bL hB0 ⊢
  clear hW0
  refine wpIn_rangeFunc_ownH (α := FE) rfl (by decide) (gf := 52) (lb := #[.pointer (some ⟨S, 0, none⟩), .pointer (some ⟨S + 1, 0, none⟩), .pointer (some ⟨S + 1 + 1, 0, none⟩)]) rfl trivial (enters_of Tryd.func52 (by kernel_rfl) rfl)
    (encs := encFE) (Kp := KeepI w1.heap.size (S + 1) (S + 1 + 1)) (S := fun ys => ys = seqOf body 31) (Sp := fun pre => pre <+: seqOf body 31) (N := (seqOf body 31).length) (w0 := W0)
    (fun l J Jx W hW hJa _ hY h0' => fields1_in body.size (valC_all _) w1 M B fs.tk l S (S + 1) (S + 1 + 1) body 31 (Nat.le_refl _) (by omega) (by omega) (by omega) J Jx (fun pre A A' h hb => hJa pre A A' none h (grown_of_below hb none) (fun r e => by cases e)) hY W (boxed_below fs.bs (hB0.trans (hW.mono (by omega))) fs.bs.lt) (boxed_below fs.br (hB0.trans (hW.mono (by omega))) fs.br.lt) (boxed_below fs.bf (hB0.trans (hW.mono (by omega))) fs.bf.lt) (hB0.trans (hW.mono (by omega))) h0')
    keepI_t (keepI_b (by omega)) (Below.refl _ _) (fun _ => rfl)
    (fun pre W => (∃ v, Boxed W w1.heap.size 28 v ∧ W.ownsRow w1.heap.size 9 1 v pre.length (pre.map (fun x => Value.string x.1.key)) ∧ True) ∧ Below w1.heap.size w1 W)
    (fun _ _ _ => False)
    (OwnFrom.and (Own.from (holdsRow_own w1.heap.size w1.heap.size 28 9 1 (fun pre : List FE => pre.length) (fun pre => pre.map (fun x => Value.string x.1.key)) (fun _ _ => True)) _) (ownFrom_below (Nat.le_refl _) (by omega)))
    (fun _ _ _ _ _ hs _ _ => hs)
    ⟨⟨_, bL, World.ownsRow_nil _ _ _ _, trivial⟩, hB0⟩
    (fun x a' W => ∃ Bx, Box3 W Bx (.string x.1.key) (.string x.1.value) (.int .i64 x.1.deep) ∧ a' = { tmps := #[.string t, undef, .slice none 0 0, .int .i64 0, .func (.func 52) #[] #[.pointer (some ⟨S, 0, none⟩), .pointer (some ⟨S + 1, 0, none⟩), .pointer (some ⟨S + 1 + 1, 0, none⟩)], .int .i64 d, .int .i64 0, .pointer (some ⟨w1.heap.size, 0, none⟩), .pointer (some ⟨Bx, 0, none⟩), .tuple #[.func (.func 52) #[] #[.pointer (some ⟨S, 0, none⟩), .pointer (some ⟨S + 1, 0, none⟩), .pointer (some ⟨S + 1 + 1, 0, none⟩)], .int .i64 d, .int .i64 0], .string t, .tuple #[.func (.func 52) #[] #[.pointer (some ⟨S, 0, none⟩), .pointer (some ⟨S + 1, 0, none⟩), .pointer (some ⟨S + 1 + 1, 0, none⟩)], .int .i64 d, .int .i64 0], .func (.func 52) #[] #[.pointer (some ⟨S, 0, none⟩), .pointer (some ⟨S + 1, 0, none⟩), .pointer (some ⟨S + 1 + 1, 0, none⟩)], .int .i64 d, .int .i64 0, .int .i64 0, .bool false, undef, .func (.func 52) #[] #[.pointer (some ⟨S, 0, none⟩), .pointer (some ⟨S + 1, 0, none⟩), .pointer (some ⟨S + 1 + 1, 0, none⟩)], .agg #[.string x.1.key, .string x.1.value, .int .i64 x.1.deep], .int .i64 x.2, undef, undef, undef, undef, undef, undef], defers := [] })
    (fun x a' _ A A' row hs hg hr => by obtain ⟨Bx, h2, h3⟩ := hs; exact ⟨Bx, box3_grown h2 hg hr, h3⟩)
    ?assign ?body ?done ?stop
  case assign =>
    rintro l pre x W K ⟨⟨v, hv, hrow, -⟩, iB⟩ hK
    unfold encFE
    gi_wp2
    exact hK _ _ ((KeepsOthers.alloc _ _).from _) ⟨(Below.refl _ W).alloc iB.size _, fun v h => h.alloc _, fun v h => h.alloc _⟩ ⟨⟨v, hv.alloc _, hrow.alloc _, trivial⟩, iB.alloc iB.size _⟩ ⟨W.heap.size, Box3.new W _ _ _, rfl⟩
  case body =>
    rintro l pre ⟨⟨k, v, dd⟩, z⟩ a' W hl ⟨r, hr'⟩ ⟨⟨u, hu, hrow, -⟩, hB⟩ ⟨Bx, bX, rfl⟩ hlt
    dsimp only at bX ⊢
    obtain ⟨x0, x1, x2⟩ := bX.cells
    have hc := hu.cell
    have hpl : pre.length + 1 ≤ 4294967296 := by omega
    gi_wp2_with (gi_at_builtin; refine wpListIn_append_own _ rfl _ _ 28 rfl w1.heap.size 9 i0 (.string ⟨#[]⟩) 1 16 Tryd.underlying28 hi hz0 hz1 hz2 rfl (by decide) _ _ _ rfl (hrow.alloc _) ⟨W.heap.size, 0, none⟩ 1 1 [.string k] rfl rfl (cell_one_new _ _ _) (by simp [Value.oneCell']) (by unfold maxLen; omega) (by omega) (by have := hB.size; simp; omega) ?_; intro v' w2 hown' hgrow _; obtain ⟨g', cap', rfl⟩ := ownsRow_succ hown'; obtain ⟨hv1, hv2, hr2, hk2, hb2⟩ := hu.appended (by decide) hrow hB.size (Nat.le_refl _) hown' hgrow; have hc1 := hv1.cell; have hf1 := hv1.frozen)
    exact ⟨hk2.from _, ⟨hb2, fun v h => boxed_below h hb2 l1, fun v h => boxed_below h hb2 l2⟩, ⟨_, hv2, by simpa using hr2, trivial⟩, hB.trans hb2⟩
  case done =>
    rintro D ys W hD rfl ⟨⟨v, hv, hrow, -⟩, hB⟩ hK
    have hc := hv.cell
    rw [g2, List.length_map, List.map_map] at hrow
    gi_wp2
    refine ⟨by simp, .inl ⟨_, _, rfl, run_takeDeferred hK, ?_⟩⟩
    refine ⟨_, results_tmp2 rfl _ _ _, v, rfl, ?_, hb.trans ((hB.mono hbs).trans (belowK_b (w := w) (Nat.le_refl _) W D _ _ (by omega) hK rfl rfl))⟩
    rw [HI.out]
    exact (ownsRow_putObj hrow _ hK rfl).mono hbs
  case stop =>
    rintro D c pre W _ _ h _
    exact h.elim
theorem keys_bad (t : ByteArray) (w : World) (hw : Wid w) (hs : t.size < 4611686018427387904) (hx : aloneE (nest true t 32) ≠ 0) :
    Calls Tryd.prog 15 #[.string t] w fun e w' => e = .returned (.tuple #[.slice none 0 0, .int .i64 (aloneE (nest true t 32))]) ∧ Below w.heap.size w w' := by
  refine (callsIn_wide (n := 4)).1 ?_
  refine callsIn_of_wp_marks Tryd.func15 rfl trivial ?_ rfl
  simp only [Tryd.ntmps15, List.size_toArray, List.length_cons, List.length_nil, Nat.reduceAdd, Nat.reduceSub, Array.replicate_succ, Array.replicate_zero, List.push_toArray, List.append_toArray, List.nil_append, List.cons_append]
  gi_wp2_with fail
  refine ⟨trivial, (callsIn_wide.2 (whole_bad t w hw hs hx)).mono ?_⟩
  rintro e w1 ⟨rfl, hb⟩
  generalize h1 : aloneE (nest true t 32) = x at hx ⊢
  have H1 := Lib.hid h1
  have t1 : (x != 0) = true := by simpa using hx
  clear h1 hx
  gi_wp2
  refine ⟨_, results_tmp2 rfl _ _ _, ?_, hb⟩
  rw [H1.out]
  rfl
/-- the keys of a table, and the error -/
theorem tabKeys_any (t : ByteArray) (w : World) (hw : Wid w) (hs : t.size < 4611686018427387904) :
    Calls Tryd.prog 15 #[.string t] w fun e w' => ∃ v, e = .returned (.tuple #[v, .int .i64 (aloneE (nest true t 32))]) ∧ w'.ownsRow w.heap.size 9 1 v (if aloneE (nest true t 32) = 0 then tabItems t else []).length ((if aloneE (nest true t 32) = 0 then tabItems t else []).map (fun i => Value.string i.key)) ∧ Below w.heap.size w w' := by
  by_cases hx : aloneE (nest true t 32) = 0
  · rw [if_pos hx, hx]
    exact keys_ok t w hw hs hx
  · rw [if_neg hx]
    refine (keys_bad t w hw hs hx).mono ?_
    rintro e w1 ⟨rfl, hb⟩
    exact ⟨_, rfl, World.ownsRow_nil _ _ _ _, hb⟩
end Go.Proofs.YtdgpemkoicoheaaDoor
