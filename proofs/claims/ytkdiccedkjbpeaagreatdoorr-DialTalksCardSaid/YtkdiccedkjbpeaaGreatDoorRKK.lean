/-
  Several texts joined in one file: each says at its own head, below, what it proves, and its conditions.
-/
import Derived.Deep.Onto
import Derived.Sort.QuietIn
import Derived.Shelf.Abstract
import Derived.Shelf.RegionOpen
import Derived.WalkKit
import Derived.OwnWalkIn
import Derived.TacticsInMore
import Derived.LoopNIn
import Derived.LoopIn
import Derived.Maps.AppendAt
import Derived.Laws.EntriesVeiled
import Derived.Test.YtkdiccedkjbpeaaGreatDoorRJMem
import Derived.Test.YtkdiccedkjbpeaaGreatDoorRKB
import Derived.Deep.RegionHeld3
import Derived.Deep.DeepCutAuto
import Derived.Lib.MinMax
import Derived.Test.YtkdiccedkjbpeaaGreatDoorRKD
/-
  dial.words goes through the words of a list, one after the other, the empty ones left out; dial.Offers tells whether a word is one of them; nothing that was there is changed. Condition: a list has fewer than 2^62 bytes.
-/
namespace Go.Proofs.YtkdiccedkjbpeaaGreatDoorR
open Go.RowKit Go.Maps Go.Shelf
attribute [local go_sem] Oper.semAt_some

theorem results_cellw {fn : Func} {p : Tmp} {ty : TypeId} (h : fn.results = #[.cell p ty]) (tmps : Array Value) (P : Program) (w : World) :
    (results fn tmps).run P w = ((asAddr (tmps.getD p undef)).run P w).andThen fun a w₁ => (loadVar ty a).run P w₁ := by
  simp only [results, h]
  simp [Sem.run_bind]
def wdSize : Value → Value → Nat
  | .string s, .bool true => s.size + 1
  | _, _ => 0
set_option maxRecDepth 100000 in
set_option maxHeartbeats 2000000 in
theorem words1_in (l : Nat) (Kp : World → World → Prop) (Bs : Nat) (s : ByteArray) (hs : s.size < 4611686018427387904) (J Jx : List ByteArray → World → Prop)
    (hJ : ∀ pre W W', J pre W → Below W.heap.size W W' → J pre W')
    (hY : ∀ pre x W, J pre W → pre.length < (wordsL s).length → YieldAt Fence.wide 2 Tryz.prog l #[.string x] W fun e W' =>
      (e = .returned (.bool true) ∧ J (pre ++ [x]) W' ∧ Kp W W') ∨ (e = .returned (.bool false) ∧ Jx (pre ++ [x]) W'))
    (W : World) (hbs : Boxed W Bs 9 (.string s)) (hJ0 : J [] W) :
    CallsIn Fence.wide 3 Tryz.prog 44 #[.func (.yield l) #[] #[], .pointer (some ⟨Bs, 0, none⟩)] W fun e W' => (∃ v, e = .returned v) ∧
      ((∃ ys, ys = wordsL s ∧ J ys W') ∨ (∃ pre, pre <+: wordsL s ∧ Jx pre W')) := by
  have hcs := hbs.cell
  refine callsIn_of_wp Tryz.func44 rfl trivial ?_ rfl
  simp only [Tryz.ntmps44, List.size_toArray, List.length_cons, List.length_nil, Nat.reduceAdd, Nat.reduceSub, Array.replicate_succ, Array.replicate_zero, List.push_toArray, List.append_toArray, List.nil_append, List.cons_append]
  gi_wp2
  clear hcs hbs
  gi_loopw [3, 4] (fun p q wr => ∃ (pre : List ByteArray) (r : ByteArray) (b : Bool), p = .string r ∧ q = .bool b ∧ r.size ≤ s.size ∧ wordsL s = pre ++ (if b = true then wordsL r else []) ∧ J pre wr) (fun p q _ => wdSize p q)
  case atStart => exact ⟨[], s, true, rfl, rfl, Nat.le_refl _, by simp, hJ0⟩
  case round =>
    obtain ⟨pre, r, b, rfl, rfl, hle, hx, hJs⟩ := hrel
    cases b
    · gi_wp2
      go_end0
      exact ⟨⟨_, rfl⟩, .inl ⟨pre, by rw [hx]; simp, hJs⟩⟩
    · have hC := cut_any r 32 wr (by omega)
      rw [if_pos rfl] at hx
      obtain ⟨HX, HS, HB⟩ : Hid (wordsL s = pre ++ ((if (cutA r 32).size = 0 then [] else [cutA r 32]) ++ (if decide (0 ≤ cutAt r 32) = true then wordsL (cutB r 32) else []))) ∧ Hid (decide (0 ≤ cutAt r 32) = true → (cutB r 32).size < r.size) ∧ Hid ((cutB r 32).size ≤ s.size) := by
        by_cases h : 0 ≤ cutAt r 32
        · have h2 := cutB_small h
          refine ⟨Lib.hid ?_, Lib.hid (fun _ => h2), Lib.hid (by omega)⟩
          rw [hx, words_more h, if_pos (decide_eq_true h)]
        · refine ⟨Lib.hid ?_, Lib.hid (fun k => absurd (of_decide_eq_true k) h), Lib.hid ?_⟩
          · have e : cutA r 32 = r := by rw [cutA, if_neg h]
            rw [hx, words_last h, if_neg (show ¬ decide (0 ≤ cutAt r 32) = true from fun k => h (of_decide_eq_true k)), e, List.append_nil]
          · rw [cutB, if_neg h]; exact Nat.zero_le _
      generalize cutA r 32 = a at hC HX
      generalize cutB r 32 = b at hC HX HS HB
      generalize decide (0 ≤ cutAt r 32) = q at hC HX HS
      gi_wp2_with fail
      refine ⟨trivial, (callsIn_wide.2 hC).mono ?_⟩
      rintro e w1 ⟨rfl, hb⟩
      have hJ1 := hJ _ _ _ hJs hb
      clear hC hb hJs hx
      by_cases hz : a.size = 0
      · have HX2 : Hid (wordsL s = pre ++ (if q = true then wordsL b else [])) := Lib.hid (by rw [HX.out, if_pos hz, List.nil_append])
        have t : (a.toList == []) = true := by rw [Lib.toList_data, wd_empty hz]; rfl
        clear HX hz
        gi_wp2
        refine ⟨(fun f h => by cases h), ?_⟩
        gi_wp2
        go_roundw
        case rel => exact ⟨pre, b, q, rfl, rfl, HB.out, HX2.out, hJ1⟩
        case measure =>
          cases q
          · simp only [wdSize]; omega
          · have := HS.out rfl; simp only [wdSize]; omega
      · have HX2 : Hid (wordsL s = (pre ++ [a]) ++ (if q = true then wordsL b else [])) := Lib.hid (by rw [HX.out, if_neg hz, List.append_assoc])
        have t : (a.toList == []) = false := by
          rw [Lib.toList_data]
          exact beq_eq_false_iff_ne.2 (fun e => hz (by rw [← wd_len, e]; rfl))
        obtain ⟨fn, tmps, assign, body, hy, hR⟩ := hY pre a w1 hJ1 (by rw [HX2.out]; simp)
        clear HX hz
        gi_wp2
        refine hR.mono ?_
        rintro e W3 (⟨rfl, hJ3, hk3⟩ | ⟨rfl, hJx3⟩)
        · gi_wp2
          go_roundw
          case rel => exact ⟨pre ++ [a], b, q, rfl, rfl, HB.out, HX2.out, hJ3⟩
          case measure =>
            cases q
            · simp only [wdSize]; omega
            · have := HS.out rfl; simp only [wdSize]; omega
        · gi_wp2
          refine bodyPost_ret (results_none rfl _ _ _) rfl ?_
          exact ⟨⟨_, rfl⟩, .inr ⟨pre ++ [a], ⟨_, HX2.out.symm⟩, hJx3⟩⟩

theorem words_fn (s : ByteArray) (w : World) : Calls Tryz.prog 26 #[.string s] w fun e w' => e = .returned (.func (.func 44) #[] #[.pointer (some ⟨w.heap.size, 0, none⟩)]) ∧ w' = w.alloc (.cells #[.string s] 9) := by
  have hmf : ∀ (p : Value) (w : World), (Instr.makeFunc (.func 44) #[] #[p]).run Tryz.prog w = .ok (.func (.func 44) #[] #[p]) w := fun _ _ => by kernel_rfl
  go_enter Tryz.func26, Tryz.ntmps26
  go_wp2
  go_ret
  exact ⟨rfl, rfl⟩

def NoneIs (word : ByteArray) (pre : List ByteArray) : Prop := ∀ x ∈ pre, (x.toList == word.toList) = false
theorem none_any {word : ByteArray} {l : List ByteArray} (h : NoneIs word l) : l.any (fun x => x.toList == word.toList) = false := by
  rw [List.any_eq_false]
  exact fun x hx => by rw [h x hx]; decide
set_option maxRecDepth 100000 in
set_option maxHeartbeats 2000000 in
theorem offers_any (s word : ByteArray) (w : World) (hs : s.size < 4611686018427387904) :
    Calls Tryz.prog 15 #[.string s, .string word] w fun e w' => e = .returned (.bool (offX s.data.toList word.data.toList)) ∧ Below w.heap.size w w' := by
  rw [← words_off word _ s rfl]
  have hWf := fun W => words_fn s W
  refine (callsIn_wide (n := 4)).1 ?_
  refine callsIn_of_wp_marks Tryz.func15 rfl trivial ?_ rfl
  simp only [Tryz.ntmps15, List.size_toArray, List.length_cons, List.length_nil, Nat.reduceAdd, Nat.reduceSub, Array.replicate_succ, Array.replicate_zero, List.push_toArray, List.append_toArray, List.nil_append, List.cons_append]
  gi_wp2_with fail
  refine ⟨trivial, (callsIn_wide.2 (hWf _)).mono ?_⟩
  rintro e w0 ⟨rfl, hw0⟩
  have q0 : Boxed w0 w.heap.size 9 (.string word) := by
    rw [hw0]
    exact ((Boxed.new w 9 (.string word)).alloc _).alloc _
  have q1 : Boxed w0 (w.heap.size + 1) 4 (.bool false) := by
    have h := (Boxed.new (w.alloc (.cells #[.string word] 9)) 4 (.bool false)).alloc (.cells #[.string s] 9)
    rw [World.size_alloc] at h
    rw [hw0]; exact h
  have q2 : Boxed w0 (w.heap.size + 1 + 1) 9 (.string s) := by
    have h := Boxed.new ((w.alloc (.cells #[.string word] 9)).alloc (.cells #[.bool false] 4)) 9 (.string s)
    rw [World.size_alloc, World.size_alloc] at h
    rw [hw0]; exact h
  have hb1 : Below w.heap.size w w0 := by rw [hw0]; exact (((Below.refl _ w).alloc (Nat.le_refl _) _).alloc (by simp) _).alloc (by simp; omega) _
  have hsz : w0.heap.size = w.heap.size + 3 := by rw [hw0]; simp
  clear hw0 hWf
  have hbs := hb1.size
  gi_wp2_with fail
  refine wpIn_rangeFunc_ownH (α := ByteArray) rfl (by decide) (gf := 44) (lb := #[.pointer (some ⟨w.heap.size + 1 + 1, 0, none⟩)]) rfl trivial (enters_of Tryz.func44 (by kernel_rfl) rfl)
    (encs := fun x => #[Value.string x]) (Kp := fun _ _ => True) (S := fun ys => ys = wordsL s) (Sp := fun pre => pre <+: wordsL s) (N := (wordsL s).length) (w0 := w0)
    (fun l J Jx W hW hJa _ hY h0' => words1_in l (fun _ _ => True) (w.heap.size + 1 + 1) s hs J Jx (fun pre A A' h hb => hJa pre A A' none h (grown_of_below hb none) (fun r e => by cases e)) hY W (boxed_below q2 hW q2.lt) h0')
    (fun _ _ => trivial) (fun _ _ _ _ _ _ _ _ => trivial) (Below.refl _ _) (fun _ => rfl)
    (fun pre W => NoneIs word pre ∧ Below w0.heap.size w0 W)
    (fun c pre W => c = .ret ∧ pre.any (fun x => x.toList == word.toList) = true ∧ Boxed W (w.heap.size + 1) 4 (.bool true) ∧ Below w.heap.size w W)
    (fun s A A' row hs hg hr => ⟨hs.1, below_grown hs.2 (Nat.le_refl _) (Nat.le_refl _) hg hr⟩)
    (fun c s A A' row hs hg hr => ⟨hs.1, hs.2.1, boxed_grown hs.2.2.1 hg hr, below_grown hs.2.2.2 (Nat.le_refl _) hbs hg hr⟩)
    ⟨(fun _ h => by cases h), Below.refl _ _⟩
    (fun x a' W => a' = { tmps := #[.string s, .string word, undef, .pointer (some ⟨w.heap.size, 0, none⟩), .pointer (some ⟨w.heap.size + 1, 0, none⟩), .string x, .string s, .func (.func 44) #[] #[.pointer (some ⟨w.heap.size + 1 + 1, 0, none⟩)], .string x, undef, undef, undef], defers := [] })
    (fun x a' _ A A' row hs hg hr => hs)
    ?assign ?body ?done ?stop
  case assign =>
    rintro l pre x W K ⟨i1', iB⟩ hK
    gi_wp2
    exact hK _ _ ((KeepsOthers.refl _).from _) trivial ⟨i1', iB⟩ rfl
  case body =>
    rintro l pre x a' W hl ⟨r, hr'⟩ ⟨i1, iB⟩ rfl hlt
    have c0 := (boxed_below q0 iB q0.lt).cell
    have p1 := boxed_below q1 iB q1.lt
    have hb2 := hb1.trans (iB.mono hbs)
    cases hq : (x.toList == word.toList)
    · have HN : Hid (NoneIs word (pre ++ [x])) := Lib.hid (fun y hy => by
        rcases List.mem_append.1 hy with h | h
        · exact i1 y h
        · rw [List.mem_singleton.1 h]; exact hq)
      clear p1
      gi_wp2
      exact ⟨(KeepsOthers.refl _).from _, trivial, HN.out, iB⟩
    · have HY : Hid ((pre ++ [x]).any (fun x => x.toList == word.toList) = true) := Lib.hid (by rw [List.any_append]; simp [hq])
      have c1 := p1.cell
      have f1 := p1.frozen
      have s1 := p1.set (.bool true)
      have hb4 := hb2.setCell (p := ⟨w.heap.size + 1, 0, none⟩) (by simp) (.bool true)
      have hk0 := KeepsOthers.setCell W ⟨w.heap.size + 1, 0, none⟩ (.bool true)
      clear p1 hb2
      gi_wp2
      exact ⟨hk0.from _, rfl, HY.out, s1, hb4⟩
  case done =>
    rintro D ys W hD rfl ⟨i1, iB⟩ hK
    have H := Lib.hid (none_any i1)
    have p1 := boxed_below q1 iB q1.lt
    have hb2 := hb1.trans (iB.mono hbs)
    have c1 := p1.cell
    have f1 := p1.frozen
    have s1 := p1.set (.bool false)
    have hb4 := hb2.setCell (p := ⟨w.heap.size + 1, 0, none⟩) (by simp) (.bool false)
    have hk0 := KeepsOthers.setCell W ⟨w.heap.size + 1, 0, none⟩ (.bool false)
    have hK' := hk0.same D _ hK rfl
    clear p1 hb2 i1 iB hk0
    gi_wp2
    refine ⟨by simp, .inl ⟨_, _, rfl, run_takeDeferred hK', ?_⟩⟩
    have e2 := boxed_put (.deferred none) s1 hK' rfl
    refine ⟨.bool false, ?_, by rw [H.out], hb4.trans (belowK_b (w := w) (Nat.le_refl _) _ D _ _ (by omega) hK' rfl rfl)⟩
    rw [results_cellw rfl]
    simp [asAddr, Result.andThen, go_sem, e2]
  case stop =>
    rintro D c pre W hD hpre ⟨rfl, hany, i4, iB⟩ hK
    have H : Hid ((wordsL s).any (fun x => x.toList == word.toList) = true) := Lib.hid (by
      obtain ⟨u, hu⟩ := hpre
      rw [← hu, List.any_append, hany, Bool.true_or])
    clear hany hpre
    gi_wp2
    refine ⟨by simp, .inl ⟨_, _, rfl, run_takeDeferred hK, ?_⟩⟩
    have e2 := boxed_put (.deferred none) i4 hK rfl
    refine ⟨.bool true, ?_, by rw [H.out], iB.trans (belowK_b (w := w) (Nat.le_refl _) _ D _ _ (by omega) hK rfl rfl)⟩
    rw [results_cellw rfl]
    simp [asAddr, Result.andThen, go_sem, e2]
end Go.Proofs.YtkdiccedkjbpeaaGreatDoorR

/-
  dial.Agree answers what two agree on, as a plain function says; nothing that was there is changed. No condition.
-/
namespace Go.Proofs.YtkdiccedkjbpeaaGreatDoorR
open Go.RowKit

theorem results_ctw {fn : Func} {p t : Tmp} {ty : TypeId} (h : fn.results = #[.cell p ty, .tmp t]) (tmps : Array Value) (P : Program) (w : World) :
    (results fn tmps).run P w = ((asAddr (tmps.getD p undef)).run P w).andThen fun a w₁ => ((loadVar ty a).run P w₁).andThen fun v w₂ => .ok (.tuple #[v, tmps.getD t undef]) w₂ := by
  simp only [results, h]
  simp [Sem.run_bind, Result.andThen]
theorem run_min3 {P : Program} (w : World) (ts : Array TypeId) (t : TypeId) (k k' k'' : IntKind) (x y z : Int) :
    (Builtin.min_ ts t #[.int k x, .int k' y, .int k'' z]).run P w = .ok (.int k (min (min x y) z)) w := by
  have e : ∀ a b : Int, (if b < a then b else a) = min a b := fun a b => by
    rw [Int.min_def]
    split <;> split <;> omega
  simp [Builtin.min_, Builtin.min2, e]
attribute [local go_sem high] run_min3
theorem lesser1_any (m t : Int) (w : World) : Calls Tryz.prog 25 #[.int .i64 m, .int .i64 t] w fun e w' => e = .returned (.int .i64 (lessN m t)) ∧ Below w.heap.size w w' := by
  by_cases h : t = 0
  · have H : Hid (lessN m t = m) := Lib.hid (by rw [lessN, if_pos h])
    subst h
    go_enter Tryz.func25, Tryz.ntmps25
    go_wp2
    go_ret
    exact ⟨by rw [H.out]; rfl, Below.refl _ _⟩
  · have H : Hid (lessN m t = min m t) := Lib.hid (by rw [lessN, if_neg h])
    have t1 : (t == 0) = false := by simpa using h
    clear h
    go_enter Tryz.func25, Tryz.ntmps25
    go_wp2
    go_ret
    exact ⟨by rw [H.out]; rfl, Below.refl _ _⟩

set_option maxRecDepth 100000 in
set_option maxHeartbeats 4000000 in
theorem dAgree_any (mc mf mb tc tf tb : Int) (w : World) : Calls Tryz.prog 14 #[.agg #[.int .i64 mc, .int .i64 mf, .int .i64 mb], .agg #[.int .i64 tc, .int .i64 tf, .int .i64 tb]] w fun e w' => e = .returned (.tuple #[.agg #[.int .i64 (dgV (dgE mc mf mb tc tf tb) (lessN mc tc)), .int .i64 (dgV (dgE mc mf mb tc tf tb) (lessN mf tf)), .int .i64 (dgV (dgE mc mf mb tc tf tb) (min mb tb))], .int .i64 (dgE mc mf mb tc tf tb)]) ∧ Below w.heap.size w w' := by
  obtain ⟨W0, hW0⟩ : ∃ W0, W0 = ((w.alloc (.cells #[.int .i64 mc, .int .i64 mf, .int .i64 mb] 23)).alloc (.cells #[.int .i64 tc, .int .i64 tf, .int .i64 tb] 23)).alloc (.cells #[.int .i64 0, .int .i64 0, .int .i64 0] 23) := ⟨_, rfl⟩
  have hb0 : Below w.heap.size w W0 := by rw [hW0]; exact (((Below.refl _ w).alloc (Nat.le_refl _) _).alloc (by simp) _).alloc (by simp; omega) _
  have hm : Bx W0 w.heap.size 23 [.int .i64 mc, .int .i64 mf, .int .i64 mb] := by rw [hW0]; exact ((Bx.new w _ _).alloc _).alloc _
  have ht : Bx W0 (w.heap.size + 1) 23 [.int .i64 tc, .int .i64 tf, .int .i64 tb] := by
    have h := (Bx.new (w.alloc (.cells #[.int .i64 mc, .int .i64 mf, .int .i64 mb] 23)) 23 [.int .i64 tc, .int .i64 tf, .int .i64 tb]).alloc (.cells #[.int .i64 0, .int .i64 0, .int .i64 0] 23)
    rw [World.size_alloc] at h
    rw [hW0]; exact h
  have hr : Bx W0 (w.heap.size + 1 + 1) 23 [.int .i64 0, .int .i64 0, .int .i64 0] := by
    have h := Bx.new ((w.alloc (.cells #[.int .i64 mc, .int .i64 mf, .int .i64 mb] 23)).alloc (.cells #[.int .i64 tc, .int .i64 tf, .int .i64 tb] 23)) 23 [.int .i64 0, .int .i64 0, .int .i64 0]
    rw [World.size_alloc, World.size_alloc] at h
    rw [hW0]; exact h
  have hR := sRight_any mc mf mb W0
  have HE : Hid (dgE mc mf mb tc tf tb = if tRight mc mf mb = true then (if tc < 0 ∨ tf < 0 ∨ tb < 0 then 1 else if 0 < tf ∧ tf < 4096 then 16 else 0) else 1) := Lib.hid rfl
  generalize dgE mc mf mb tc tf tb = E at *
  generalize tRight mc mf mb = q at *
  obtain ⟨v1, hv1⟩ : ∃ v, dgV E (lessN mc tc) = v := ⟨_, rfl⟩
  obtain ⟨v2, hv2⟩ : ∃ v, dgV E (lessN mf tf) = v := ⟨_, rfl⟩
  obtain ⟨v3, hv3⟩ : ∃ v, dgV E (min mb tb) = v := ⟨_, rfl⟩
  rw [hv1, hv2, hv3]
  have HV1 := Lib.hid hv1
  have HV2 := Lib.hid hv2
  have HV3 := Lib.hid hv3
  clear hv1 hv2 hv3
  have hL1 := fun W => lesser1_any mc tc W
  have hL2 := fun W => lesser1_any mf tf W
  generalize lessN mc tc = l1 at *
  generalize lessN mf tf = l2 at *
  go_enter Tryz.func14, Tryz.ntmps14
  go_upto_region 1 with fail
  rw [← hW0]
  clear hW0
  obtain ⟨x0, x1, x2⟩ := hm.three
  go_wp2_with fail
  with_reducible refine hR.mono ?_
  rintro e w1 ⟨rfl, hb1⟩
  have hB1 := hb0.trans (hb1.mono hb0.size)
  replace hm := hm.kept hb1
  replace ht := ht.kept hb1
  replace hr := hr.kept hb1
  clear hR hb0 hb1 x0 x1 x2
  obtain ⟨y0, y1, y2⟩ := ht.three
  cases q
  · have HG : Hid (E = 1) := Lib.hid (by rw [HE.out]; rfl)
    obtain ⟨a0, f0, a1, f1, a2, f2, bR⟩ := hr.store3 (.int .i64 0) (.int .i64 0) (.int .i64 0)
    have hBz := below_store3 hB1 (B := w.heap.size + 1 + 1) (by omega) (.int .i64 0) (.int .i64 0) (.int .i64 0)
    obtain ⟨z0, z1, z2⟩ := bR.three
    clear hm ht hr hB1 bR HE hL1 hL2 y0 y1 y2
    go_wp2
    refine bodyPost_ret (v := .tuple #[.agg #[.int .i64 0, .int .i64 0, .int .i64 0], .int .i64 1]) ?_ rfl ⟨by rw [← HV1.out, ← HV2.out, ← HV3.out, HG.out]; rfl, hBz⟩
    rw [results_ctw rfl]
    simp [asAddr, Result.andThen, go_sem, z0, z1, z2]
  · obtain ⟨mn, hmn⟩ : ∃ mn, min (min tc tf) tb = mn := ⟨_, rfl⟩
    by_cases hn : tc < 0 ∨ tf < 0 ∨ tb < 0
    · have HG : Hid (E = 1) := Lib.hid (by rw [HE.out, if_pos rfl, if_pos hn])
      have tt : mn < 0 := by omega
      obtain ⟨a0, f0, a1, f1, a2, f2, bR⟩ := hr.store3 (.int .i64 0) (.int .i64 0) (.int .i64 0)
      have hBz := below_store3 hB1 (B := w.heap.size + 1 + 1) (by omega) (.int .i64 0) (.int .i64 0) (.int .i64 0)
      obtain ⟨z0, z1, z2⟩ := bR.three
      clear hm ht hr hB1 bR HE hL1 hL2 hn
      go_wp2
      refine bodyPost_ret (v := .tuple #[.agg #[.int .i64 0, .int .i64 0, .int .i64 0], .int .i64 1]) ?_ rfl ⟨by rw [← HV1.out, ← HV2.out, ← HV3.out, HG.out]; rfl, hBz⟩
      rw [results_ctw rfl]
      simp [asAddr, Result.andThen, go_sem, z0, z1, z2]
    · have HE2 : Hid (E = if 0 < tf ∧ tf < 4096 then 16 else 0) := Lib.hid (by rw [HE.out, if_pos rfl, if_neg hn])
      have tt : ¬ mn < 0 := by omega
      clear HE
      by_cases hf : 0 < tf ∧ tf < 4096
      · have HG : Hid (E = 16) := Lib.hid (by rw [HE2.out, if_pos hf])
        have t1 : decide (0 < tf) = true := decide_eq_true hf.1
        have t2 : decide (tf < 4096) = true := decide_eq_true hf.2
        obtain ⟨a0, f0, a1, f1, a2, f2, bR⟩ := hr.store3 (.int .i64 0) (.int .i64 0) (.int .i64 0)
        have hBz := below_store3 hB1 (B := w.heap.size + 1 + 1) (by omega) (.int .i64 0) (.int .i64 0) (.int .i64 0)
        obtain ⟨z0, z1, z2⟩ := bR.three
        clear hm ht hr hB1 bR HE2 hL1 hL2 hn hf
        go_wp2
        refine bodyPost_ret (v := .tuple #[.agg #[.int .i64 0, .int .i64 0, .int .i64 0], .int .i64 16]) ?_ rfl ⟨by rw [← HV1.out, ← HV2.out, ← HV3.out, HG.out]; rfl, hBz⟩
        rw [results_ctw rfl]
        simp [asAddr, Result.andThen, go_sem, z0, z1, z2]
      · have HG : Hid (E = 0) := Lib.hid (by rw [HE2.out, if_neg hf])
        obtain ⟨p, hp⟩ : ∃ p, (decide (0 < tf) && decide (tf < 4096)) = p := ⟨_, rfl⟩
        have hp2 : p = false := by rw [← hp]; simp; omega
        have keep : ∀ w', Below w1.heap.size w1 w' → w'.cell? ⟨w.heap.size, 0, none⟩ = some (.int .i64 mc) ∧ w'.cell? ⟨w.heap.size, 1, none⟩ = some (.int .i64 mf) ∧ w'.cell? ⟨w.heap.size, 2, none⟩ = some (.int .i64 mb) ∧ w'.cell? ⟨w.heap.size + 1, 0, none⟩ = some (.int .i64 tc) ∧ w'.cell? ⟨w.heap.size + 1, 1, none⟩ = some (.int .i64 tf) ∧ w'.cell? ⟨w.heap.size + 1, 2, none⟩ = some (.int .i64 tb) := fun w' h => ⟨(hm.kept h).three.1, (hm.kept h).three.2.1, (hm.kept h).three.2.2, (ht.kept h).three.1, (ht.kept h).three.2.1, (ht.kept h).three.2.2⟩
        have hq0 : Below w1.heap.size w1 w1.drew := (Below.refl _ w1).drew
        have hlt := hr.lt
        clear HE2 hp
        by_cases h0 : 0 < tf
        · have t1 : decide (0 < tf) = true := decide_eq_true h0
          have t2 : decide (tf < 4096) = false := decide_eq_false (by omega)
          clear hn hf h0
          go_upto_region 6 with fail
          clear tt t1 t2 y0 y1 y2 hmn
          go_region_held3 (fun w' => w'.cell? ⟨w.heap.size, 0, none⟩ = some (.int .i64 mc) ∧ w'.cell? ⟨w.heap.size, 1, none⟩ = some (.int .i64 mf) ∧ w'.cell? ⟨w.heap.size, 2, none⟩ = some (.int .i64 mb) ∧ w'.cell? ⟨w.heap.size + 1, 0, none⟩ = some (.int .i64 tc) ∧ w'.cell? ⟨w.heap.size + 1, 1, none⟩ = some (.int .i64 tf) ∧ w'.cell? ⟨w.heap.size + 1, 2, none⟩ = some (.int .i64 tb)) (first | (with_reducible exact hk3) | (with_reducible exact keep _ hk2) | (with_reducible exact keep _ hk1) | (with_reducible exact keep _ hq0)) (first | (go_at_call 25; with_reducible refine (hL1 w1.drew).mono ?_; rintro e w3 ⟨rfl, hr1⟩; have hk1 : Below w1.heap.size w1 w3 := hq0.trans (hr1.mono hq0.size)) | (go_at_call 25; with_reducible refine (hL2 w3).mono ?_; rintro e w4 ⟨rfl, hr2⟩; have hk2 : Below w1.heap.size w1 w4 := hk1.trans (hr2.mono hk1.size); have hr3 := hr.kept hk2; obtain ⟨a0, f0, a1, f1, a2, f2, bR⟩ := hr3.store3 (.int .i64 l1) (.int .i64 l2) (.int .i64 (min mb tb)); have hm3 := (((hm.kept hk2).other (B' := w.heap.size + 1 + 1) (by omega) 0 (.int .i64 l1)).other (B' := w.heap.size + 1 + 1) (by omega) 1 (.int .i64 l2)).other (B' := w.heap.size + 1 + 1) (by omega) 2 (.int .i64 (min mb tb)); have ht3 := (((ht.kept hk2).other (B' := w.heap.size + 1 + 1) (by omega) 0 (.int .i64 l1)).other (B' := w.heap.size + 1 + 1) (by omega) 1 (.int .i64 l2)).other (B' := w.heap.size + 1 + 1) (by omega) 2 (.int .i64 (min mb tb)); have hk3 := And.intro hm3.three.1 (And.intro hm3.three.2.1 (And.intro hm3.three.2.2 (And.intro ht3.three.1 (And.intro ht3.three.2.1 ht3.three.2.2))))))
          all_goals
            have hBz := below_store3 (hB1.trans (hk2.mono hB1.size)) (B := w.heap.size + 1 + 1) (by omega) (.int .i64 l1) (.int .i64 l2) (.int .i64 (min mb tb))
            obtain ⟨z0, z1, z2⟩ := bR.three
            go_wp2
            refine bodyPost_ret (v := .tuple #[.agg #[.int .i64 l1, .int .i64 l2, .int .i64 (min mb tb)], .int .i64 0]) ?_ rfl ⟨by rw [← HV1.out, ← HV2.out, ← HV3.out, HG.out]; rfl, hBz⟩
            rw [results_ctw rfl]
            simp [asAddr, Result.andThen, go_sem, z0, z1, z2]
        · have t1 : decide (0 < tf) = false := decide_eq_false h0
          clear hn hf h0
          go_upto_region 6 with fail
          clear tt t1 y0 y1 y2 hmn
          go_region_held3 (fun w' => w'.cell? ⟨w.heap.size, 0, none⟩ = some (.int .i64 mc) ∧ w'.cell? ⟨w.heap.size, 1, none⟩ = some (.int .i64 mf) ∧ w'.cell? ⟨w.heap.size, 2, none⟩ = some (.int .i64 mb) ∧ w'.cell? ⟨w.heap.size + 1, 0, none⟩ = some (.int .i64 tc) ∧ w'.cell? ⟨w.heap.size + 1, 1, none⟩ = some (.int .i64 tf) ∧ w'.cell? ⟨w.heap.size + 1, 2, none⟩ = some (.int .i64 tb)) (first | (with_reducible exact hk3) | (with_reducible exact keep _ hk2) | (with_reducible exact keep _ hk1) | (with_reducible exact keep _ hq0)) (first | (go_at_call 25; with_reducible refine (hL1 w1.drew).mono ?_; rintro e w3 ⟨rfl, hr1⟩; have hk1 : Below w1.heap.size w1 w3 := hq0.trans (hr1.mono hq0.size)) | (go_at_call 25; with_reducible refine (hL2 w3).mono ?_; rintro e w4 ⟨rfl, hr2⟩; have hk2 : Below w1.heap.size w1 w4 := hk1.trans (hr2.mono hk1.size); have hr3 := hr.kept hk2; obtain ⟨a0, f0, a1, f1, a2, f2, bR⟩ := hr3.store3 (.int .i64 l1) (.int .i64 l2) (.int .i64 (min mb tb)); have hm3 := (((hm.kept hk2).other (B' := w.heap.size + 1 + 1) (by omega) 0 (.int .i64 l1)).other (B' := w.heap.size + 1 + 1) (by omega) 1 (.int .i64 l2)).other (B' := w.heap.size + 1 + 1) (by omega) 2 (.int .i64 (min mb tb)); have ht3 := (((ht.kept hk2).other (B' := w.heap.size + 1 + 1) (by omega) 0 (.int .i64 l1)).other (B' := w.heap.size + 1 + 1) (by omega) 1 (.int .i64 l2)).other (B' := w.heap.size + 1 + 1) (by omega) 2 (.int .i64 (min mb tb)); have hk3 := And.intro hm3.three.1 (And.intro hm3.three.2.1 (And.intro hm3.three.2.2 (And.intro ht3.three.1 (And.intro ht3.three.2.1 ht3.three.2.2))))))
          all_goals
            have hBz := below_store3 (hB1.trans (hk2.mono hB1.size)) (B := w.heap.size + 1 + 1) (by omega) (.int .i64 l1) (.int .i64 l2) (.int .i64 (min mb tb))
            obtain ⟨z0, z1, z2⟩ := bR.three
            go_wp2
            refine bodyPost_ret (v := .tuple #[.agg #[.int .i64 l1, .int .i64 l2, .int .i64 (min mb tb)], .int .i64 0]) ?_ rfl ⟨by rw [← HV1.out, ← HV2.out, ← HV3.out, HG.out]; rfl, hBz⟩
            rw [results_ctw rfl]
            simp [asAddr, Result.andThen, go_sem, z0, z1, z2]
end Go.Proofs.YtkdiccedkjbpeaaGreatDoorR

/-
  The document's example of chapter 11 stands; nothing that was there is changed. No condition.
-/
namespace Go.Proofs.YtkdiccedkjbpeaaGreatDoorR
open Go.RowKit

set_option maxRecDepth 100000 in
set_option maxHeartbeats 2000000 in
theorem dshown_any (w : World) : Calls Tryz.prog 6 #[] w fun e w' => e = .returned (.bool true) ∧ Below w.heap.size w w' := by
  have hA := dAgree_any 10 8192 30 0 0 60 w
  rw [show dgE 10 8192 30 0 0 60 = 0 by decide, show dgV 0 (lessN 10 0) = 10 by decide, show dgV 0 (lessN 8192 0) = 8192 by decide, show dgV 0 (min 30 60) = 30 by decide] at hA
  have hO := fun W => offers_any ⟨#[65, 32, 80, 76, 65, 73, 78]⟩ ⟨#[80, 76, 65, 73, 78]⟩ W (by decide)
  rw [show offX (⟨#[65, 32, 80, 76, 65, 73, 78]⟩ : ByteArray).data.toList (⟨#[80, 76, 65, 73, 78]⟩ : ByteArray).data.toList = true by decide] at hO
  go_enter Tryz.func6, Tryz.ntmps6
  go_wp2_with fail
  with_reducible refine hA.mono ?_
  rintro e w1 ⟨rfl, hb1⟩
  clear hA
  obtain ⟨W2, hW2⟩ : ∃ W2, W2 = w1.alloc (.cells #[.int .i64 10, .int .i64 8192, .int .i64 30] 23) := ⟨_, rfl⟩
  have hb2 : Below w1.heap.size w1 W2 := by rw [hW2]; exact (Below.refl _ w1).alloc (Nat.le_refl _) _
  have hx : Bx W2 w1.heap.size 23 [.int .i64 10, .int .i64 8192, .int .i64 30] := by rw [hW2]; exact Bx.new w1 _ _
  have hB := hb1.trans (hb2.mono hb1.size)
  go_upto_region 2 with fail
  rw [← hW2]
  clear hW2 hb1 hb2
  obtain ⟨x0, x1, x2⟩ := hx.three
  clear hx
  go_wp2_with fail
  with_reducible refine (hO _).mono ?_
  rintro e w3 ⟨rfl, hb3⟩
  have hB3 := hB.trans (hb3.mono hB.size)
  go_wp2
  go_ret
  exact ⟨rfl, hB3⟩
end Go.Proofs.YtkdiccedkjbpeaaGreatDoorR
