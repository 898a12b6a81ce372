/-
  table.Find: the value of the first field of a key, in a table with nothing behind it; nothing that was there is changed. Conditions: the package num's table of widths holds 1, 2, 4, 8; texts of fewer than 2^62 bytes.
-/
import Derived.Test.YtdgpemkoicoheaaDoorWTabQ
namespace Go.Proofs.YtdgpemkoicoheaaDoor
open Go.RowKit Go.Maps Go.Shelf
attribute [local go_sem] Oper.semAt_some

/-- is there a field of that key; the first one's value -/
def findB (l : List Item) (key : ByteArray) : Bool := l.any (fun i => i.key.toList == key.toList)
def findV (l : List Item) (key : ByteArray) : ByteArray := match l.find? (fun i => i.key.toList == key.toList) with
  | some i => i.value
  | none => ⟨#[]⟩
def NoKey (key : ByteArray) (pre : List FE) : Prop := ∀ x ∈ pre, (x.1.key.toList == key.toList) = false
def FoundAt (key : ByteArray) (W : World) (R : Nat) (pre : List FE) : Prop := ∃ p x, pre = p ++ [x] ∧ NoKey key p ∧ (x.1.key.toList == key.toList) = true ∧ Boxed W R 9 (.string x.1.value)
theorem find_none {l : List Item} {key : ByteArray} (h : ∀ i ∈ l, (i.key.toList == key.toList) = false) : findB l key = false ∧ findV l key = ⟨#[]⟩ := by
  constructor
  · rw [findB, List.any_eq_false]
    intro i hi
    rw [h i hi]
    simp
  · rw [findV, List.find?_eq_none.2 (fun i hi => by rw [h i hi]; simp)]
theorem find_at {l a b : List Item} {x : Item} {key : ByteArray} (hl : l = a ++ x :: b) (h : ∀ i ∈ a, (i.key.toList == key.toList) = false) (hx : (x.key.toList == key.toList) = true) : findB l key = true ∧ findV l key = x.value := by
  subst hl
  constructor
  · rw [findB, List.any_append, List.any_cons, hx]
    simp
  · rw [findV, List.find?_append, List.find?_eq_none.2 (fun i hi => by rw [h i hi]; simp)]
    simp [hx]

theorem results_cc {fn : Func} {p q : Tmp} {tp tq : TypeId} (h : fn.results = #[.cell p tp, .cell q tq]) (tmps : Array Value) (P : Program) (w : World) :
    (results fn tmps).run P w =
      ((asAddr (tmps.getD p undef)).run P w).andThen fun a w₁ => ((loadVar tp a).run P w₁).andThen fun u w₂ => ((asAddr (tmps.getD q undef)).run P w₂).andThen fun b w₃ => ((loadVar tq b).run P w₃).andThen fun v w₄ => .ok (.tuple #[u, v]) w₄ := by
  simp only [results, h]
  simp [Sem.run_bind, Result.andThen]

set_option maxRecDepth 100000 in
set_option maxHeartbeats 2000000 in
theorem find_ok (t key : ByteArray) (w : World) (hw : Wid w) (hs : t.size < 4611686018427387904) (hx : aloneE (nest true t 32) = 0) :
    Calls Tryd.prog 19 #[.string t, .string key] w fun e w' => e = .returned (.tuple #[.string (findV (tabItems t) key), .bool (findB (tabItems t) key)]) ∧ Below w.heap.size w w' := by
  obtain ⟨-, g1, -, -⟩ := alone_enter hx
  have g2 := seqOf_items g1
  have g4 := ttA_four_lt t
  have HI := Lib.hid (show tabItems t = (items true (ttA 4 t) 31).1 from rfl)
  refine (callsIn_wide (n := 4)).1 ?_
  have bA : Below w.heap.size w (((w.alloc (.cells #[.string key] 9)).alloc (.cells #[.string ⟨#[]⟩] 9)).alloc (.cells #[.bool false] 4)) := (((Below.refl _ w).alloc (Nat.le_refl _) _).alloc (by simp) _).alloc (by simp; omega) _
  refine callsIn_of_wp_marks Tryd.func19 rfl trivial ?_ rfl
  simp only [Tryd.ntmps19, List.size_toArray, List.length_cons, List.length_nil, Nat.reduceAdd, Nat.reduceSub, Array.replicate_succ, Array.replicate_zero, List.push_toArray, List.append_toArray, List.nil_append, List.cons_append]
  gi_wp2_with fail
  refine ⟨trivial, (callsIn_wide.2 (whole_ok t _ (hw.below bA) hs hx)).mono ?_⟩
  rintro e w1 ⟨M, B, S, rfl, fs, hb⟩
  have q0 : Boxed w1 w.heap.size 9 (.string key) := boxed_below (((Boxed.new w _ _).alloc _).alloc _) hb (by simp; omega)
  have q1 : Boxed w1 (w.heap.size + 1) 9 (.string ⟨#[]⟩) := by
    have h := (Boxed.new (w.alloc (.cells #[.string key] 9)) 9 (.string ⟨#[]⟩)).alloc (.cells #[.bool false] 4)
    rw [World.size_alloc] at h
    exact boxed_below h hb h.lt
  have q2 : Boxed w1 (w.heap.size + 1 + 1) 4 (.bool false) := by
    have h := Boxed.new ((w.alloc (.cells #[.string key] 9)).alloc (.cells #[.string ⟨#[]⟩] 9)) 4 (.bool false)
    rw [World.size_alloc, World.size_alloc] at h
    exact boxed_below h hb h.lt
  have hb1 : Below w.heap.size w w1 := bA.trans (hb.mono bA.size)
  clear hx hb bA
  generalize aloneD (nest true t 32) = d
  generalize ttA 4 t = body at g1 g2 g4 HI fs
  gi_wp2
  have hbs := hb1.size
  have l1 := fs.br.lt
  have l2 := fs.bf.lt
  have q2lt := q2.lt
  refine wpIn_rangeFunc_ownH (α := FE) rfl (by decide) (gf := 52) (lb := #[.pointer (some ⟨S, 0, none⟩), .pointer (some ⟨S + 1, 0, none⟩), .pointer (some ⟨S + 1 + 1, 0, none⟩)]) rfl trivial (enters_of Tryd.func52 (by kernel_rfl) rfl)
    (encs := encFE) (Kp := KeepI w1.heap.size (S + 1) (S + 1 + 1)) (S := fun ys => ys = seqOf body 31) (Sp := fun pre => pre <+: seqOf body 31) (N := (seqOf body 31).length) (w0 := w1)
    (fun l J Jx W hW hJa _ hY h0' => fields1_in body.size (valC_all _) w1 M B fs.tk l S (S + 1) (S + 1 + 1) body 31 (Nat.le_refl _) (by omega) (by omega) (by omega) J Jx (fun pre A A' h hb => hJa pre A A' none h (grown_of_below hb none) (fun r e => by cases e)) hY W (boxed_below fs.bs hW fs.bs.lt) (boxed_below fs.br hW fs.br.lt) (boxed_below fs.bf hW fs.bf.lt) hW h0')
    keepI_t (keepI_b (Nat.le_refl _)) (Below.refl _ _) (fun _ => rfl)
    (fun pre W => NoKey key pre ∧ Below w1.heap.size w1 W)
    (fun c pre W => c = .ret ∧ FoundAt key W (w.heap.size + 1) pre ∧ Boxed W (w.heap.size + 1 + 1) 4 (.bool true) ∧ Below w.heap.size w W)
    (fun s A A' row hs hg hr => ⟨hs.1, below_grown hs.2 (Nat.le_refl _) (Nat.le_refl _) hg hr⟩)
    (fun c s A A' row hs hg hr => ⟨hs.1, by obtain ⟨p, x, h1, h2, h3, h4⟩ := hs.2.1; exact ⟨p, x, h1, h2, h3, boxed_grown h4 hg hr⟩, boxed_grown hs.2.2.1 hg hr, below_grown hs.2.2.2 (Nat.le_refl _) hbs hg hr⟩)
    ⟨(fun _ h => by cases h), Below.refl _ _⟩
    (fun x a' W => ∃ Bx, Box3 W Bx (.string x.1.key) (.string x.1.value) (.int .i64 x.1.deep) ∧ w1.heap.size ≤ Bx ∧ a' = { tmps := #[.string t, .string key, undef, .pointer (some ⟨w.heap.size, 0, none⟩), .pointer (some ⟨w.heap.size + 1, 0, none⟩), .pointer (some ⟨w.heap.size + 1 + 1, 0, none⟩), .func (.func 52) #[] #[.pointer (some ⟨S, 0, none⟩), .pointer (some ⟨S + 1, 0, none⟩), .pointer (some ⟨S + 1 + 1, 0, none⟩)], .int .i64 d, .int .i64 0, .pointer (some ⟨Bx, 0, none⟩), .tuple #[.func (.func 52) #[] #[.pointer (some ⟨S, 0, none⟩), .pointer (some ⟨S + 1, 0, none⟩), .pointer (some ⟨S + 1 + 1, 0, none⟩)], .int .i64 d, .int .i64 0], .string t, .tuple #[.func (.func 52) #[] #[.pointer (some ⟨S, 0, none⟩), .pointer (some ⟨S + 1, 0, none⟩), .pointer (some ⟨S + 1 + 1, 0, none⟩)], .int .i64 d, .int .i64 0], .func (.func 52) #[] #[.pointer (some ⟨S, 0, none⟩), .pointer (some ⟨S + 1, 0, none⟩), .pointer (some ⟨S + 1 + 1, 0, none⟩)], .int .i64 d, .int .i64 0, .int .i64 0, .bool false, .func (.func 52) #[] #[.pointer (some ⟨S, 0, none⟩), .pointer (some ⟨S + 1, 0, none⟩), .pointer (some ⟨S + 1 + 1, 0, none⟩)], .agg #[.string x.1.key, .string x.1.value, .int .i64 x.1.deep], .int .i64 x.2, undef, undef, undef, undef, undef, undef], defers := [] })
    (fun x a' _ A A' row hs hg hr => by obtain ⟨Bx, h2, h4, h3⟩ := hs; exact ⟨Bx, box3_grown h2 hg hr, h4, h3⟩)
    ?assign ?body ?done ?stop
  case assign =>
    rintro l pre x W K ⟨i1, iB⟩ hK
    unfold encFE
    gi_wp2
    exact hK _ _ ((KeepsOthers.alloc _ _).from _) ⟨(Below.refl _ W).alloc iB.size _, fun v h => h.alloc _, fun v h => h.alloc _⟩ ⟨i1, iB.alloc iB.size _⟩ ⟨W.heap.size, Box3.new W _ _ _, iB.size, rfl⟩
  case body =>
    rintro l pre ⟨⟨k, v, dd⟩, z⟩ a' W hl ⟨r, hr'⟩ ⟨i1, iB⟩ ⟨Bx, bX, hBx, rfl⟩ hlt
    dsimp only at bX ⊢
    obtain ⟨x0, x1, x2⟩ := bX.cells
    have p0 := boxed_below q0 iB q0.lt
    have p1 := boxed_below q1 iB q1.lt
    have p2 := boxed_below q2 iB q2.lt
    have c0 := p0.cell
    cases hq : (k.toList == key.toList)
    · have HQ := Lib.hid (show NoKey key (pre ++ [((⟨k, v, dd⟩ : Item), z)]) from by
        intro x hx
        rcases List.mem_append.1 hx with h | h
        · exact i1 x h
        · rw [List.mem_singleton.1 h]; exact hq)
      clear p0 p1 p2 i1
      gi_wp2
      exact ⟨KeepsFrom.refl _ _, KeepI.refl _ _ _ _, HQ.out, iB⟩
    · have HQ := Lib.hid (And.intro i1 hq)
      have c1 := p1.cell
      have f1 := p1.frozen
      have s1 := p1.set (.string v)
      have k2 := p2.other (B' := w.heap.size + 1) (by omega) (.string v)
      have c2 := k2.cell
      have f2 := k2.frozen
      have s2 := k2.set (.bool true)
      have d1 := s1.other (B' := w.heap.size + 1 + 1) (by omega) (.bool true)
      have hb2 := ((hb1.trans (iB.mono hbs)).setCell (p := ⟨w.heap.size + 1, 0, none⟩) (by simp) (.string v)).setCell (p := ⟨w.heap.size + 1 + 1, 0, none⟩) (by simp; omega) (.bool true)
      clear p0 p1 p2 k2 s1
      gi_wp2
      exact ⟨((KeepsOthers.setCell _ _ _).trans (KeepsOthers.setCell _ _ _)).from _, rfl, ⟨pre, _, rfl, HQ.out.1, HQ.out.2, d1⟩, s2, hb2⟩
  case done =>
    rintro D ys W hD rfl ⟨i1, iB⟩ hK
    have H : Hid (findB (tabItems t) key = false ∧ findV (tabItems t) key = ⟨#[]⟩) := Lib.hid (by
      rw [HI.out]
      apply find_none
      intro i hi
      exact i1 (i, 0) (by rw [g2]; exact List.mem_map.2 ⟨i, hi, rfl⟩))
    clear i1
    have p1 := boxed_below q1 iB q1.lt
    have p2 := boxed_below q2 iB q2.lt
    have c1 := p1.cell
    have f1 := p1.frozen
    have s1 := p1.set (.string ⟨#[]⟩)
    have k2 := p2.other (B' := w.heap.size + 1) (by omega) (.string ⟨#[]⟩)
    have c2 := k2.cell
    have f2 := k2.frozen
    have s2 := k2.set (.bool false)
    have d1 := s1.other (B' := w.heap.size + 1 + 1) (by omega) (.bool false)
    have hb2 := ((hb1.trans (iB.mono hbs)).setCell (p := ⟨w.heap.size + 1, 0, none⟩) (by simp) (.string ⟨#[]⟩)).setCell (p := ⟨w.heap.size + 1 + 1, 0, none⟩) (by simp; omega) (.bool false)
    have hK' := ((KeepsOthers.setCell W ⟨w.heap.size + 1, 0, none⟩ (.string ⟨#[]⟩)).trans (KeepsOthers.setCell _ ⟨w.heap.size + 1 + 1, 0, none⟩ (.bool false))).same D _ hK rfl
    clear p1 p2 k2 s1
    gi_wp2
    refine ⟨by simp, .inl ⟨_, _, rfl, run_takeDeferred hK', ?_⟩⟩
    have e1 := boxed_put (.deferred none) d1 hK' rfl
    have e2 := boxed_put (.deferred none) s2 hK' rfl
    refine ⟨.tuple #[.string ⟨#[]⟩, .bool false], ?_, by rw [H.out.1, H.out.2], hb2.trans (belowK_b (w := w) (Nat.le_refl _) _ D _ _ (by omega) hK' rfl rfl)⟩
    rw [results_cc rfl]
    simp [asAddr, Result.andThen, go_sem, e1, e2]
  case stop =>
    rintro D c pre W hD hpre ⟨rfl, ⟨p, x, rfl, i1, i2, i3⟩, i4, iB⟩ hK
    have H : Hid (findB (tabItems t) key = true ∧ findV (tabItems t) key = x.1.value) := Lib.hid (by
      obtain ⟨u, hu⟩ := hpre
      have hm := congrArg (List.map Prod.fst) hu
      rw [g2, List.map_map, List.map_append, List.map_append] at hm
      have hm2 : (items true body 31).1 = p.map Prod.fst ++ x.1 :: u.map Prod.fst := by
        have e : List.map (Prod.fst ∘ fun i : Item => (i, (0 : Int))) (items true body 31).1 = (items true body 31).1 := List.map_id _
        rw [e] at hm
        rw [← hm]
        simp
      rw [HI.out]
      refine find_at hm2 ?_ i2
      intro i hi
      obtain ⟨y, hy, rfl⟩ := List.mem_map.1 hi
      exact i1 y hy)
    clear i1 i2
    gi_wp2
    refine ⟨by simp, .inl ⟨_, _, rfl, run_takeDeferred hK, ?_⟩⟩
    have e1 := boxed_put (.deferred none) i3 hK rfl
    have e2 := boxed_put (.deferred none) i4 hK rfl
    refine ⟨.tuple #[.string x.1.value, .bool true], ?_, by rw [H.out.1, H.out.2], iB.trans (belowK_b (w := w) (Nat.le_refl _) _ D _ _ (by omega) hK rfl rfl)⟩
    rw [results_cc rfl]
    simp [asAddr, Result.andThen, go_sem, e1, e2]

theorem find_bad (t key : ByteArray) (w : World) (hw : Wid w) (hs : t.size < 4611686018427387904) (hx : aloneE (nest true t 32) ≠ 0) :
    Calls Tryd.prog 19 #[.string t, .string key] w fun e w' => e = .returned (.tuple #[.string ⟨#[]⟩, .bool false]) ∧ Below w.heap.size w w' := by
  refine (callsIn_wide (n := 4)).1 ?_
  have bA : Below w.heap.size w (((w.alloc (.cells #[.string key] 9)).alloc (.cells #[.string ⟨#[]⟩] 9)).alloc (.cells #[.bool false] 4)) := (((Below.refl _ w).alloc (Nat.le_refl _) _).alloc (by simp) _).alloc (by simp; omega) _
  refine callsIn_of_wp_marks Tryd.func19 rfl trivial ?_ rfl
  simp only [Tryd.ntmps19, List.size_toArray, List.length_cons, List.length_nil, Nat.reduceAdd, Nat.reduceSub, Array.replicate_succ, Array.replicate_zero, List.push_toArray, List.append_toArray, List.nil_append, List.cons_append]
  gi_wp2_with fail
  refine ⟨trivial, (callsIn_wide.2 (whole_bad t _ (hw.below bA) hs hx)).mono ?_⟩
  rintro e w1 ⟨rfl, hb⟩
  have p1 : Boxed w1 (w.heap.size + 1) 9 (.string ⟨#[]⟩) := by
    have h := (Boxed.new (w.alloc (.cells #[.string key] 9)) 9 (.string ⟨#[]⟩)).alloc (.cells #[.bool false] 4)
    rw [World.size_alloc] at h
    exact boxed_below h hb h.lt
  have p2 : Boxed w1 (w.heap.size + 1 + 1) 4 (.bool false) := by
    have h := Boxed.new ((w.alloc (.cells #[.string key] 9)).alloc (.cells #[.string ⟨#[]⟩] 9)) 4 (.bool false)
    rw [World.size_alloc, World.size_alloc] at h
    exact boxed_below h hb h.lt
  have hb1 : Below w.heap.size w w1 := bA.trans (hb.mono bA.size)
  clear hb bA
  generalize aloneE (nest true t 32) = x at hx ⊢
  have t1 : (x != 0) = true := by simpa using hx
  have c1 := p1.cell
  have f1 := p1.frozen
  have s1 := p1.set (.string ⟨#[]⟩)
  have k2 := p2.other (B' := w.heap.size + 1) (by omega) (.string ⟨#[]⟩)
  have c2 := k2.cell
  have f2 := k2.frozen
  have s2 := k2.set (.bool false)
  have d1 := (s1.other (B' := w.heap.size + 1 + 1) (by omega) (.bool false)).cell
  have d2 := s2.cell
  have hb2 := (hb1.setCell (p := ⟨w.heap.size + 1, 0, none⟩) (by simp) (.string ⟨#[]⟩)).setCell (p := ⟨w.heap.size + 1 + 1, 0, none⟩) (by simp; omega) (.bool false)
  clear hx p1 p2 k2 s1 s2
  gi_wp2
  refine ⟨.tuple #[.string ⟨#[]⟩, .bool false], ?_, rfl, hb2⟩
  rw [results_cc rfl]
  simp [asAddr, Result.andThen, go_sem, d1, d2]
/-- the fields of a table, none if it isn't one -/
def tabFs (t : ByteArray) : List Item := if aloneE (nest true t 32) = 0 then tabItems t else []
theorem tabFind_any (t key : ByteArray) (w : World) (hw : Wid w) (hs : t.size < 4611686018427387904) :
    Calls Tryd.prog 19 #[.string t, .string key] w fun e w' => e = .returned (.tuple #[.string (findV (tabFs t) key), .bool (findB (tabFs t) key)]) ∧ Below w.heap.size w w' := by
  unfold tabFs
  by_cases hx : aloneE (nest true t 32) = 0
  · rw [if_pos hx]
    exact find_ok t key w hw hs hx
  · rw [if_neg hx]
    exact find_bad t key w hw hs hx
theorem tabKeys_fs (t : ByteArray) (w : World) (hw : Wid w) (hs : t.size < 4611686018427387904) :
    Calls Tryd.prog 15 #[.string t] w fun e w' => ∃ v, e = .returned (.tuple #[v, .int .i64 (aloneE (nest true t 32))]) ∧ w'.ownsRow w.heap.size 9 1 v (tabFs t).length ((tabFs t).map (fun i => Value.string i.key)) ∧ Below w.heap.size w w' :=
  tabKeys_any t w hw hs
end Go.Proofs.YtdgpemkoicoheaaDoor
