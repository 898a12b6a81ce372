/-
  dial.words goes through the words of a list, one after the other, the empty ones left out; dial.Offers tells whether a word is one of them; nothing that was there is changed. Condition: a list has fewer than 2^62 bytes.
-/
import Derived.Deep.Onto
import Derived.Sort.QuietIn
import Derived.Shelf.Abstract
import Derived.Shelf.RegionOpen
import Derived.WalkKit
import Derived.OwnWalkIn
import Derived.TacticsInMore
import Derived.LoopNIn
import Derived.LoopIn
import Derived.Maps.AppendAt
import Derived.Laws.EntriesVeiled
import Derived.Test.YtbdhppigmlfjhaaJMem
import Derived.Test.YtbdhppigmlfjhaaPWords
namespace Go.Proofs.Ytbdhppigmlfjhaa
open Go.RowKit Go.Maps Go.Shelf
attribute [local go_sem] Oper.semAt_some

theorem results_cellw {fn : Func} {p : Tmp} {ty : TypeId} (h : fn.results = #[.cell p ty]) (tmps : Array Value) (P : Program) (w : World) :
    (results fn tmps).run P w = ((asAddr (tmps.getD p undef)).run P w).andThen fun a w₁ => (loadVar ty a).run P w₁ := by
  simp only [results, h]
  simp [Sem.run_bind]
def wdSize : Value → Value → Nat
  | .string s, .bool true => s.size + 1
  | _, _ => 0
set_option maxRecDepth 100000 in
set_option maxHeartbeats 2000000 in
theorem words1_in (l : Nat) (Kp : World → World → Prop) (Bs : Nat) (s : ByteArray) (hs : s.size < 4611686018427387904) (J Jx : List ByteArray → World → Prop)
    (hJ : ∀ pre W W', J pre W → Below W.heap.size W W' → J pre W')
    (hY : ∀ pre x W, J pre W → pre.length < (wordsL s).length → YieldAt Fence.wide 2 Try.prog l #[.string x] W fun e W' =>
      (e = .returned (.bool true) ∧ J (pre ++ [x]) W' ∧ Kp W W') ∨ (e = .returned (.bool false) ∧ Jx (pre ++ [x]) W'))
    (W : World) (hbs : Boxed W Bs 9 (.string s)) (hJ0 : J [] W) :
    CallsIn Fence.wide 3 Try.prog 22 #[.func (.yield l) #[] #[], .pointer (some ⟨Bs, 0, none⟩)] W fun e W' => (∃ v, e = .returned v) ∧
      ((∃ ys, ys = wordsL s ∧ J ys W') ∨ (∃ pre, pre <+: wordsL s ∧ Jx pre W')) := by
  have hcs := hbs.cell
  refine callsIn_of_wp Try.func22 rfl trivial ?_ rfl
  simp only [Try.ntmps22, List.size_toArray, List.length_cons, List.length_nil, Nat.reduceAdd, Nat.reduceSub, Array.replicate_succ, Array.replicate_zero, List.push_toArray, List.append_toArray, List.nil_append, List.cons_append]
  gi_wp2
  clear hcs hbs
  gi_loopw [3, 4] (fun p q wr => ∃ (pre : List ByteArray) (r : ByteArray) (b : Bool), p = .string r ∧ q = .bool b ∧ r.size ≤ s.size ∧ wordsL s = pre ++ (if b = true then wordsL r else []) ∧ J pre wr) (fun p q _ => wdSize p q)
  case atStart => exact ⟨[], s, true, rfl, rfl, Nat.le_refl _, by simp, hJ0⟩
  case round =>
    obtain ⟨pre, r, b, rfl, rfl, hle, hx, hJs⟩ := hrel
    cases b
    · gi_wp2
      go_end0
      exact ⟨⟨_, rfl⟩, .inl ⟨pre, by rw [hx]; simp, hJs⟩⟩
    · have hC := cut_any r 32 wr (by omega)
      rw [if_pos rfl] at hx
      obtain ⟨HX, HS, HB⟩ : Hid (wordsL s = pre ++ ((if (cutA r 32).size = 0 then [] else [cutA r 32]) ++ (if decide (0 ≤ cutAt r 32) = true then wordsL (cutB r 32) else []))) ∧ Hid (decide (0 ≤ cutAt r 32) = true → (cutB r 32).size < r.size) ∧ Hid ((cutB r 32).size ≤ s.size) := by
        by_cases h : 0 ≤ cutAt r 32
        · have h2 := cutB_small h
          refine ⟨Lib.hid ?_, Lib.hid (fun _ => h2), Lib.hid (by omega)⟩
          rw [hx, words_more h, if_pos (decide_eq_true h)]
        · refine ⟨Lib.hid ?_, Lib.hid (fun k => absurd (of_decide_eq_true k) h), Lib.hid ?_⟩
          · have e : cutA r 32 = r := by rw [cutA, if_neg h]
            rw [hx, words_last h, if_neg (show ¬ decide (0 ≤ cutAt r 32) = true from fun k => h (of_decide_eq_true k)), e, List.append_nil]
          · rw [cutB, if_neg h]; exact Nat.zero_le _
      generalize cutA r 32 = a at hC HX
      generalize cutB r 32 = b at hC HX HS HB
      generalize decide (0 ≤ cutAt r 32) = q at hC HX HS
      gi_wp2_with fail
      refine ⟨trivial, (callsIn_wide.2 hC).mono ?_⟩
      rintro e w1 ⟨rfl, hb⟩
      have hJ1 := hJ _ _ _ hJs hb
      clear hC hb hJs hx
      by_cases hz : a.size = 0
      · have HX2 : Hid (wordsL s = pre ++ (if q = true then wordsL b else [])) := Lib.hid (by rw [HX.out, if_pos hz, List.nil_append])
        have t : (a.toList == []) = true := by rw [Lib.toList_data, wd_empty hz]; rfl
        clear HX hz
        gi_wp2
        refine ⟨(fun f h => by cases h), ?_⟩
        gi_wp2
        go_roundw
        case rel => exact ⟨pre, b, q, rfl, rfl, HB.out, HX2.out, hJ1⟩
        case measure =>
          cases q
          · simp only [wdSize]; omega
          · have := HS.out rfl; simp only [wdSize]; omega
      · have HX2 : Hid (wordsL s = (pre ++ [a]) ++ (if q = true then wordsL b else [])) := Lib.hid (by rw [HX.out, if_neg hz, List.append_assoc])
        have t : (a.toList == []) = false := by
          rw [Lib.toList_data]
          exact beq_eq_false_iff_ne.2 (fun e => hz (by rw [← wd_len, e]; rfl))
        obtain ⟨fn, tmps, assign, body, hy, hR⟩ := hY pre a w1 hJ1 (by rw [HX2.out]; simp)
        clear HX hz
        gi_wp2
        refine hR.mono ?_
        rintro e W3 (⟨rfl, hJ3, hk3⟩ | ⟨rfl, hJx3⟩)
        · gi_wp2
          go_roundw
          case rel => exact ⟨pre ++ [a], b, q, rfl, rfl, HB.out, HX2.out, hJ3⟩
          case measure =>
            cases q
            · simp only [wdSize]; omega
            · have := HS.out rfl; simp only [wdSize]; omega
        · gi_wp2
          refine bodyPost_ret (results_none rfl _ _ _) rfl ?_
          exact ⟨⟨_, rfl⟩, .inr ⟨pre ++ [a], ⟨_, HX2.out.symm⟩, hJx3⟩⟩

theorem words_fn (s : ByteArray) (w : World) : Calls Try.prog 19 #[.string s] w fun e w' => e = .returned (.func (.func 22) #[] #[.pointer (some ⟨w.heap.size, 0, none⟩)]) ∧ w' = w.alloc (.cells #[.string s] 9) := by
  have hmf : ∀ (p : Value) (w : World), (Instr.makeFunc (.func 22) #[] #[p]).run Try.prog w = .ok (.func (.func 22) #[] #[p]) w := fun _ _ => by kernel_rfl
  go_enter Try.func19, Try.ntmps19
  go_wp2
  go_ret
  exact ⟨rfl, rfl⟩

def NoneIs (word : ByteArray) (pre : List ByteArray) : Prop := ∀ x ∈ pre, (x.toList == word.toList) = false
theorem none_any {word : ByteArray} {l : List ByteArray} (h : NoneIs word l) : l.any (fun x => x.toList == word.toList) = false := by
  rw [List.any_eq_false]
  exact fun x hx => by rw [h x hx]; decide
set_option maxRecDepth 100000 in
set_option maxHeartbeats 2000000 in
theorem offers_any (s word : ByteArray) (w : World) (hs : s.size < 4611686018427387904) :
    Calls Try.prog 11 #[.string s, .string word] w fun e w' => e = .returned (.bool (offX s.data.toList word.data.toList)) ∧ Below w.heap.size w w' := by
  rw [← words_off word _ s rfl]
  have hWf := fun W => words_fn s W
  refine (callsIn_wide (n := 4)).1 ?_
  refine callsIn_of_wp_marks Try.func11 rfl trivial ?_ rfl
  simp only [Try.ntmps11, List.size_toArray, List.length_cons, List.length_nil, Nat.reduceAdd, Nat.reduceSub, Array.replicate_succ, Array.replicate_zero, List.push_toArray, List.append_toArray, List.nil_append, List.cons_append]
  gi_wp2_with fail
  refine ⟨trivial, (callsIn_wide.2 (hWf _)).mono ?_⟩
  rintro e w0 ⟨rfl, hw0⟩
  have q0 : Boxed w0 w.heap.size 9 (.string word) := by
    rw [hw0]
    exact ((Boxed.new w 9 (.string word)).alloc _).alloc _
  have q1 : Boxed w0 (w.heap.size + 1) 4 (.bool false) := by
    have h := (Boxed.new (w.alloc (.cells #[.string word] 9)) 4 (.bool false)).alloc (.cells #[.string s] 9)
    rw [World.size_alloc] at h
    rw [hw0]; exact h
  have q2 : Boxed w0 (w.heap.size + 1 + 1) 9 (.string s) := by
    have h := Boxed.new ((w.alloc (.cells #[.string word] 9)).alloc (.cells #[.bool false] 4)) 9 (.string s)
    rw [World.size_alloc, World.size_alloc] at h
    rw [hw0]; exact h
  have hb1 : Below w.heap.size w w0 := by rw [hw0]; exact (((Below.refl _ w).alloc (Nat.le_refl _) _).alloc (by simp) _).alloc (by simp; omega) _
  have hsz : w0.heap.size = w.heap.size + 3 := by rw [hw0]; simp
  clear hw0 hWf
  have hbs := hb1.size
  gi_wp2_with fail
  refine wpIn_rangeFunc_ownH (α := ByteArray) rfl (by decide) (gf := 22) (lb := #[.pointer (some ⟨w.heap.size + 1 + 1, 0, none⟩)]) rfl trivial (enters_of Try.func22 (by kernel_rfl) rfl)
    (encs := fun x => #[Value.string x]) (Kp := fun _ _ => True) (S := fun ys => ys = wordsL s) (Sp := fun pre => pre <+: wordsL s) (N := (wordsL s).length) (w0 := w0)
    (fun l J Jx W hW hJa _ hY h0' => words1_in l (fun _ _ => True) (w.heap.size + 1 + 1) s hs J Jx (fun pre A A' h hb => hJa pre A A' none h (grown_of_below hb none) (fun r e => by cases e)) hY W (boxed_below q2 hW q2.lt) h0')
    (fun _ _ => trivial) (fun _ _ _ _ _ _ _ _ => trivial) (Below.refl _ _) (fun _ => rfl)
    (fun pre W => NoneIs word pre ∧ Below w0.heap.size w0 W)
    (fun c pre W => c = .ret ∧ pre.any (fun x => x.toList == word.toList) = true ∧ Boxed W (w.heap.size + 1) 4 (.bool true) ∧ Below w.heap.size w W)
    (fun s A A' row hs hg hr => ⟨hs.1, below_grown hs.2 (Nat.le_refl _) (Nat.le_refl _) hg hr⟩)
    (fun c s A A' row hs hg hr => ⟨hs.1, hs.2.1, boxed_grown hs.2.2.1 hg hr, below_grown hs.2.2.2 (Nat.le_refl _) hbs hg hr⟩)
    ⟨(fun _ h => by cases h), Below.refl _ _⟩
    (fun x a' W => a' = { tmps := #[.string s, .string word, undef, .pointer (some ⟨w.heap.size, 0, none⟩), .pointer (some ⟨w.heap.size + 1, 0, none⟩), .string x, .string s, .func (.func 22) #[] #[.pointer (some ⟨w.heap.size + 1 + 1, 0, none⟩)], .string x, undef, undef, undef], defers := [] })
    (fun x a' _ A A' row hs hg hr => hs)
    ?assign ?body ?done ?stop
  case assign =>
    rintro l pre x W K ⟨i1', iB⟩ hK
    gi_wp2
    exact hK _ _ ((KeepsOthers.refl _).from _) trivial ⟨i1', iB⟩ rfl
  case body =>
    rintro l pre x a' W hl ⟨r, hr'⟩ ⟨i1, iB⟩ rfl hlt
    have c0 := (boxed_below q0 iB q0.lt).cell
    have p1 := boxed_below q1 iB q1.lt
    have hb2 := hb1.trans (iB.mono hbs)
    cases hq : (x.toList == word.toList)
    · have HN : Hid (NoneIs word (pre ++ [x])) := Lib.hid (fun y hy => by
        rcases List.mem_append.1 hy with h | h
        · exact i1 y h
        · rw [List.mem_singleton.1 h]; exact hq)
      clear p1
      gi_wp2
      exact ⟨(KeepsOthers.refl _).from _, trivial, HN.out, iB⟩
    · have HY : Hid ((pre ++ [x]).any (fun x => x.toList == word.toList) = true) := Lib.hid (by rw [List.any_append]; simp [hq])
      have c1 := p1.cell
      have f1 := p1.frozen
      have s1 := p1.set (.bool true)
      have hb4 := hb2.setCell (p := ⟨w.heap.size + 1, 0, none⟩) (by simp) (.bool true)
      have hk0 := KeepsOthers.setCell W ⟨w.heap.size + 1, 0, none⟩ (.bool true)
      clear p1 hb2
      gi_wp2
      exact ⟨hk0.from _, rfl, HY.out, s1, hb4⟩
  case done =>
    rintro D ys W hD rfl ⟨i1, iB⟩ hK
    have H := Lib.hid (none_any i1)
    have p1 := boxed_below q1 iB q1.lt
    have hb2 := hb1.trans (iB.mono hbs)
    have c1 := p1.cell
    have f1 := p1.frozen
    have s1 := p1.set (.bool false)
    have hb4 := hb2.setCell (p := ⟨w.heap.size + 1, 0, none⟩) (by simp) (.bool false)
    have hk0 := KeepsOthers.setCell W ⟨w.heap.size + 1, 0, none⟩ (.bool false)
    have hK' := hk0.same D _ hK rfl
    clear p1 hb2 i1 iB hk0
    gi_wp2
    refine ⟨by simp, .inl ⟨_, _, rfl, run_takeDeferred hK', ?_⟩⟩
    have e2 := boxed_put (.deferred none) s1 hK' rfl
    refine ⟨.bool false, ?_, by rw [H.out], hb4.trans (belowK_b (w := w) (Nat.le_refl _) _ D _ _ (by omega) hK' rfl rfl)⟩
    rw [results_cellw rfl]
    simp [asAddr, Result.andThen, go_sem, e2]
  case stop =>
    rintro D c pre W hD hpre ⟨rfl, hany, i4, iB⟩ hK
    have H : Hid ((wordsL s).any (fun x => x.toList == word.toList) = true) := Lib.hid (by
      obtain ⟨u, hu⟩ := hpre
      rw [← hu, List.any_append, hany, Bool.true_or])
    clear hany hpre
    gi_wp2
    refine ⟨by simp, .inl ⟨_, _, rfl, run_takeDeferred hK, ?_⟩⟩
    have e2 := boxed_put (.deferred none) i4 hK rfl
    refine ⟨.bool true, ?_, by rw [H.out], iB.trans (belowK_b (w := w) (Nat.le_refl _) _ D _ _ (by omega) hK rfl rfl)⟩
    rw [results_cellw rfl]
    simp [asAddr, Result.andThen, go_sem, e2]
end Go.Proofs.Ytbdhppigmlfjhaa
