/-
  The closure of a table: if the closure of a value answers as PTab's val for every text that is shorter, that of a table answers as nest true.
-/
import Derived.Test.YtjpldfkhacchdaaDoorJMem
import Derived.Test.YtjpldfkhacchdaaDoorWTabI
namespace Go.Proofs.YtjpldfkhacchdaaDoor
open Go.RowKit Go.Maps Go.Shelf
attribute [local go_sem] Oper.semAt_some

theorem fields_in (s : ByteArray) (room : Int) (f : Fn) (a c : Array Value) (w : World) :
    CallsIn Fence.wide 3 Tryd.prog 84 #[.string s, .int .i64 room, .func f a c] w fun e w' => e = .returned (.func (.func 91) #[] #[.pointer (some ⟨w.heap.size, 0, none⟩), .pointer (some ⟨w.heap.size + 1, 0, none⟩), .pointer (some ⟨w.heap.size + 1 + 1, 0, none⟩)]) ∧ w' = ((w.alloc (.cells #[.string s] 9)).alloc (.cells #[.int .i64 room] 3)).alloc (.cells #[.func f a c] 124) := by
  have hmf : ∀ (p q r : Value) (w : World), (Instr.makeFunc (.func 91) #[] #[p, q, r]).run Tryd.prog w = .ok (.func (.func 91) #[] #[p, q, r]) w := fun _ _ _ _ => by kernel_rfl
  refine callsIn_of_wp Tryd.func84 rfl trivial ?_ rfl
  simp only [Tryd.ntmps84, List.size_toArray, List.length_cons, List.length_nil, Nat.reduceAdd, Nat.reduceSub, Array.replicate_succ, Array.replicate_zero, List.push_toArray, List.append_toArray, List.nil_append, List.cons_append]
  gi_wp2
  go_ret
  exact ⟨rfl, rfl⟩

theorem box3_grown {A A' : World} {row : Option Nat} {n B : Nat} {a b c : Value} (h : Box3 A B a b c) (hg : A.grownBy A' row) (hr : ∀ r, row = some r → n ≤ r ∧ ∃ o : Obj, A.heap[r]? = some o ∧ o.isCells = false) : Box3 A' B a b c :=
  (hg.block B h.lt (fun e => by obtain ⟨-, o, ho, hc⟩ := hr B e.symm; rw [show A.heap[B]? = _ from h] at ho; cases ho; cases hc)).trans h
/-- no error so far; a round that was left with one -/
def AllZero (pre : List FE) : Prop := ∀ x ∈ pre, x.2 = 0
def LeftAt (W : World) (R : Nat) (pre : List FE) : Prop := ∃ p x, pre = p ++ [x] ∧ x.2 ≠ 0 ∧ Boxed W R 27 (.int .i64 (wErr x.2))
theorem seqOf_ok {b : ByteArray} {room : Int} (h : ∀ x ∈ seqOf b room, x.2 = 0) : (items true b room).2 = 0 ∧ (seqOf b room).map Prod.fst = (items true b room).1 := by
  have h1 : (items true b room).2 = 0 := by
    by_cases he : (items true b room).2 = 0
    · exact he
    · have := h (noItem, (items true b room).2) (by rw [seqOf, if_neg he]; simp)
      exact this
  refine ⟨h1, ?_⟩
  rw [seqOf, if_pos h1, List.append_nil, List.map_map]
  exact List.map_id _
theorem seqOf_err {b : ByteArray} {room : Int} {x : FE} (h : x ∈ seqOf b room) (hx : x.2 ≠ 0) : (items true b room).2 = x.2 := by
  rw [seqOf, List.mem_append] at h
  rcases h with h | h
  · obtain ⟨i, -, rfl⟩ := List.mem_map.1 h
    exact absurd rfl hx
  · by_cases he : (items true b room).2 = 0
    · rw [if_pos he] at h; cases h
    · rw [if_neg he] at h
      have := List.mem_singleton.1 h
      rw [this]

set_option maxRecDepth 100000 in
set_option maxHeartbeats 2000000 in
theorem table_of (n : Nat) (hv : ValC n) (t : ByteArray) (room : Int) (w : World) (M B : Nat) (hn : t.size ≤ n) (hs : t.size < 4611686018427387904) (h0 : 0 ≤ room) (h32 : room ≤ 32) (tk : Tk w M B) :
    Calls Tryd.prog 83 #[.string t, .int .i64 room, .pointer (some ⟨B + 1, 0, none⟩)] w fun e w' => e = .returned (.tuple #[.int .i64 (nest true t room).deep, .string (nest true t room).rest, .int .i64 (nest true t room).err]) ∧ Below w.heap.size w w' := by
  refine (callsIn_wide (n := 4)).1 ?_
  have bA : Below w.heap.size w (((w.alloc (.cells #[.int .i64 0] 3)).alloc (.cells #[.string ⟨#[]⟩] 9)).alloc (.cells #[.int .i64 0] 27)) := (((Below.refl _ w).alloc (Nat.le_refl _) _).alloc (by simp) _).alloc (by simp; omega) _
  refine callsIn_of_wp_marks Tryd.func83 rfl trivial ?_ rfl
  simp only [Tryd.ntmps83, List.size_toArray, List.length_cons, List.length_nil, Nat.reduceAdd, Nat.reduceSub, Array.replicate_succ, Array.replicate_zero, List.push_toArray, List.append_toArray, List.nil_append, List.cons_append]
  gi_wp2_with fail
  refine ⟨trivial, (callsIn_wide.2 (enter_any t room _ (tk.wid.below bA) hs)).mono ?_⟩
  rintro e w1 ⟨rfl, hb⟩
  have r1 : Boxed w1 w.heap.size 3 (.int .i64 0) := boxed_below (((Boxed.new w _ _).alloc _).alloc _) hb (by simp; omega)
  have r2 : Boxed w1 (w.heap.size + 1) 9 (.string ⟨#[]⟩) := by
    have h := (Boxed.new (w.alloc (.cells #[.int .i64 0] 3)) 9 (.string ⟨#[]⟩)).alloc (.cells #[.int .i64 0] 27)
    rw [World.size_alloc] at h
    exact boxed_below h hb h.lt
  have r3 : Boxed w1 (w.heap.size + 1 + 1) 27 (.int .i64 0) := by
    have h := Boxed.new ((w.alloc (.cells #[.int .i64 0] 3)).alloc (.cells #[.string ⟨#[]⟩] 9)) 27 (.int .i64 0)
    rw [World.size_alloc, World.size_alloc] at h
    exact boxed_below h hb h.lt
  have hb1 : Below w.heap.size w w1 := bA.trans (hb.mono bA.size)
  have tk1 := tk.below hb1
  clear hb bA
  cases hok : enOk t room
  · obtain ⟨t1, h2⟩ := enOk_not hok
    have H := Lib.hid (h2 true)
    clear hok h2
    generalize enA t room = a
    generalize enB t room = b
    generalize enE t room = x at t1 H ⊢
    have c1 := r1.cell
    have f1 := r1.frozen
    have s1 := r1.set (.int .i64 0)
    have k2 := r2.other (B' := w.heap.size) (by omega) (.int .i64 0)
    have c2 := k2.cell
    have f2 := k2.frozen
    have s2 := k2.set (.string ⟨#[]⟩)
    have k3 := (r3.other (B' := w.heap.size) (by omega) (.int .i64 0)).other (B' := w.heap.size + 1) (by omega) (.string ⟨#[]⟩)
    have c3 := k3.cell
    have f3 := k3.frozen
    have s3 := k3.set (.int .i64 x)
    have d1 := ((s1.other (B' := w.heap.size + 1) (by omega) (.string ⟨#[]⟩)).other (B' := w.heap.size + 1 + 1) (by omega) (.int .i64 x)).cell
    have d2 := (s2.other (B' := w.heap.size + 1 + 1) (by omega) (.int .i64 x)).cell
    have d3 := s3.cell
    have hb2 := ((hb1.setCell (p := ⟨w.heap.size, 0, none⟩) (Nat.le_refl _) (.int .i64 0)).setCell (p := ⟨w.heap.size + 1, 0, none⟩) (by simp) (.string ⟨#[]⟩)).setCell (p := ⟨w.heap.size + 1 + 1, 0, none⟩) (by simp; omega) (.int .i64 x)
    clear r1 r2 r3 k2 k3 s1 s2 s3 tk1 hb1
    gi_wp2
    refine ⟨.tuple #[.int .i64 0, .string ⟨#[]⟩, .int .i64 x], ?_, by rw [H.out], hb2⟩
    rw [results_ccc rfl]
    simp [asAddr, Result.andThen, go_sem, d1, d2, d3]
  · obtain ⟨e1, e2, e3, -, hr⟩ := enOk_of hok
    have HG := Lib.hid (fun h => nest_ok (kf := true) hok h)
    have HB := Lib.hid (fun h => nest_bad (kf := true) hok h)
    have hle := ttA_le 4 t
    rw [e1, e2, e3]
    clear e1 e2 e3 hok
    generalize ttA 4 t = body at HG HB hle ⊢
    generalize ttR 4 t = rest at HG ⊢
    have cv := (tk1.bv.alloc (.cells #[.int .i64 0] 3)).cell
    gi_wp2_with fail
    refine ⟨trivial, (fields_in _ _ _ _ _ _).mono ?_⟩
    rintro e w2 ⟨rfl, rfl⟩
    gi_wp2
    clear cv
    have hb1s := hb1.size
    obtain ⟨W0, hW0⟩ : ∃ W0, (((w1.alloc (.cells #[.int .i64 0] 3)).alloc (.cells #[.string body] 9)).alloc (.cells #[.int .i64 (room - 1)] 3)).alloc (.cells #[.func (.func 85) #[] #[.pointer (some ⟨B, 0, none⟩), .pointer (some ⟨B + 2, 0, none⟩), .pointer (some ⟨B + 3, 0, none⟩)]] 124) = W0 := ⟨_, rfl⟩
    have q1 : Boxed W0 w.heap.size 3 (.int .i64 0) := by rw [← hW0]; exact (((r1.alloc _).alloc _).alloc _).alloc _
    have q2 : Boxed W0 (w.heap.size + 1) 9 (.string ⟨#[]⟩) := by rw [← hW0]; exact (((r2.alloc _).alloc _).alloc _).alloc _
    have q3 : Boxed W0 (w.heap.size + 1 + 1) 27 (.int .i64 0) := by rw [← hW0]; exact (((r3.alloc _).alloc _).alloc _).alloc _
    have r3lt := r3.lt
    have qD : Boxed W0 w1.heap.size 3 (.int .i64 0) := by rw [← hW0]; exact (((Boxed.new w1 _ _).alloc _).alloc _).alloc _
    have bS : Boxed W0 (w1.heap.size + 1) 9 (.string body) := by
      have h := ((Boxed.new (w1.alloc (.cells #[.int .i64 0] 3)) 9 (.string body)).alloc (.cells #[.int .i64 (room - 1)] 3)).alloc (.cells #[.func (.func 85) #[] #[.pointer (some ⟨B, 0, none⟩), .pointer (some ⟨B + 2, 0, none⟩), .pointer (some ⟨B + 3, 0, none⟩)]] 124)
      rw [World.size_alloc] at h
      rw [← hW0]; exact h
    have bR : Boxed W0 (w1.heap.size + 1 + 1) 3 (.int .i64 (room - 1)) := by
      have h := (Boxed.new ((w1.alloc (.cells #[.int .i64 0] 3)).alloc (.cells #[.string body] 9)) 3 (.int .i64 (room - 1))).alloc (.cells #[.func (.func 85) #[] #[.pointer (some ⟨B, 0, none⟩), .pointer (some ⟨B + 2, 0, none⟩), .pointer (some ⟨B + 3, 0, none⟩)]] 124)
      rw [World.size_alloc, World.size_alloc] at h
      rw [← hW0]; exact h
    have bF : Boxed W0 (w1.heap.size + 1 + 1 + 1) 124 (.func (.func 85) #[] #[.pointer (some ⟨B, 0, none⟩), .pointer (some ⟨B + 2, 0, none⟩), .pointer (some ⟨B + 3, 0, none⟩)]) := by
      have h := Boxed.new (((w1.alloc (.cells #[.int .i64 0] 3)).alloc (.cells #[.string body] 9)).alloc (.cells #[.int .i64 (room - 1)] 3)) 124 (.func (.func 85) #[] #[.pointer (some ⟨B, 0, none⟩), .pointer (some ⟨B + 2, 0, none⟩), .pointer (some ⟨B + 3, 0, none⟩)])
      rw [World.size_alloc, World.size_alloc, World.size_alloc] at h
      rw [← hW0]; exact h
    have hB0 : Below w.heap.size w W0 := by rw [← hW0]; exact (((hb1.alloc hb1s _).alloc (by simp; omega) _).alloc (by simp; omega) _).alloc (by simp; omega) _
    have hsz : W0.heap.size = w1.heap.size + 4 := by rw [← hW0]; simp
    rw [hW0]
    clear hW0 r1 r2 r3 hb1 tk1
    refine wpIn_rangeFunc_ownH (α := FE) rfl (by decide) (gf := 91) (lb := #[.pointer (some ⟨w1.heap.size + 1, 0, none⟩), .pointer (some ⟨w1.heap.size + 1 + 1, 0, none⟩), .pointer (some ⟨w1.heap.size + 1 + 1 + 1, 0, none⟩)]) rfl trivial (enters_of Tryd.func91 (by kernel_rfl) rfl)
      (encs := encFE) (Kp := KeepI w.heap.size (w1.heap.size + 1 + 1) (w1.heap.size + 1 + 1 + 1)) (S := fun ys => ys = seqOf body (room - 1)) (Sp := fun pre => pre <+: seqOf body (room - 1)) (N := (seqOf body (room - 1)).length) (w0 := W0)
      (fun l J Jx W hW hJa _ hY h0' => fields1_in n hv w M B tk l (w1.heap.size + 1) (w1.heap.size + 1 + 1) (w1.heap.size + 1 + 1 + 1) body (room - 1) (by omega) (by omega) (by omega) (by omega) J Jx (fun pre A A' h hb => hJa pre A A' none h (grown_of_below hb none) (fun r e => by cases e)) hY W (boxed_below bS hW bS.lt) (boxed_below bR hW bR.lt) (boxed_below bF hW bF.lt) (hB0.trans (hW.mono hB0.size)) h0')
      keepI_t (keepI_b (by omega)) (Below.refl _ _) (fun _ => rfl)
      (fun pre W => (Boxed W w.heap.size 3 (.int .i64 0) ∧ Boxed W (w.heap.size + 1) 9 (.string ⟨#[]⟩) ∧ Boxed W (w.heap.size + 1 + 1) 27 (.int .i64 0) ∧ Boxed W w1.heap.size 3 (.int .i64 (deepest (pre.map Prod.fst)))) ∧ AllZero pre ∧ Below w.heap.size w W)
      (fun c pre W => c = .ret ∧ LeftAt W (w.heap.size + 1 + 1) pre ∧ (Boxed W w.heap.size 3 (.int .i64 0) ∧ Boxed W (w.heap.size + 1) 9 (.string ⟨#[]⟩)) ∧ Below w.heap.size w W)
      (fun s A A' row hs hg hr => ⟨⟨boxed_grown hs.1.1 hg hr, boxed_grown hs.1.2.1 hg hr, boxed_grown hs.1.2.2.1 hg hr, boxed_grown hs.1.2.2.2 hg hr⟩, hs.2.1, below_grown hs.2.2 (Nat.le_refl _) (by omega) hg hr⟩)
      (fun c s A A' row hs hg hr => ⟨hs.1, by obtain ⟨p, x, h1, h2, h3⟩ := hs.2.1; exact ⟨p, x, h1, h2, boxed_grown h3 hg hr⟩, ⟨boxed_grown hs.2.2.1.1 hg hr, boxed_grown hs.2.2.1.2 hg hr⟩, below_grown hs.2.2.2 (Nat.le_refl _) (by omega) hg hr⟩)
      ⟨⟨q1, q2, q3, qD⟩, (fun _ h => by cases h), hB0⟩
      (fun x a' W => ∃ Bx, Box3 W Bx (.string x.1.key) (.string x.1.value) (.int .i64 x.1.deep) ∧ a' = { tmps := #[.string t, .int .i64 room, .pointer (some ⟨B + 1, 0, none⟩), undef, undef, .pointer (some ⟨w.heap.size, 0, none⟩), .pointer (some ⟨w.heap.size + 1, 0, none⟩), .pointer (some ⟨w.heap.size + 1 + 1, 0, none⟩), .string body, .string rest, .int .i64 0, .pointer (some ⟨w1.heap.size, 0, none⟩), .pointer (some ⟨Bx, 0, none⟩), .int .i64 x.2, .tuple #[.string body, .string rest, .int .i64 0], .string t, .int .i64 room, .tuple #[.string body, .string rest, .int .i64 0], .string body, .string rest, .int .i64 0, .int .i64 0, .bool false, undef, .string body, .int .i64 room, .int .i64 (room - 1), .func (.func 85) #[] #[.pointer (some ⟨B, 0, none⟩), .pointer (some ⟨B + 2, 0, none⟩), .pointer (some ⟨B + 3, 0, none⟩)], .func (.func 91) #[] #[.pointer (some ⟨w1.heap.size + 1, 0, none⟩), .pointer (some ⟨w1.heap.size + 1 + 1, 0, none⟩), .pointer (some ⟨w1.heap.size + 1 + 1 + 1, 0, none⟩)], .agg #[.string x.1.key, .string x.1.value, .int .i64 x.1.deep], .int .i64 x.2, undef, undef, undef, undef, undef, undef, undef, undef, undef, undef, undef], defers := [] })
      (fun x a' _ A A' row hs hg hr => by obtain ⟨Bx, h2, h3⟩ := hs; exact ⟨Bx, box3_grown h2 hg hr, h3⟩)
      ?assign ?body ?done ?stop
    case assign =>
      rintro l pre x W K ⟨⟨i1, i2, i3, iD⟩, i4, iB⟩ hK
      unfold encFE
      gi_wp2
      exact hK _ _ ((KeepsOthers.alloc _ _).from _) ⟨(Below.refl _ W).alloc iB.size _, fun v h => h.alloc _, fun v h => h.alloc _⟩ ⟨⟨i1.alloc _, i2.alloc _, i3.alloc _, iD.alloc _⟩, i4, iB.alloc iB.size _⟩ ⟨W.heap.size, Box3.new W _ _ _, rfl⟩
    case body =>
      rintro l pre ⟨⟨k, v, d⟩, z⟩ a' W hl ⟨r, hr'⟩ ⟨⟨i1, i2, i3, iD⟩, i4, iB⟩ ⟨Bx, bX, rfl⟩ hlt
      dsimp only at bX ⊢
      obtain ⟨x0, x1, x2⟩ := bX.cells
      by_cases hz : z = 0
      · subst hz
        have cD := iD.cell
        have fD := iD.frozen
        have em : deepest ((pre ++ [((⟨k, v, d⟩ : Item), (0 : Int))]).map Prod.fst) = max (deepest (pre.map Prod.fst)) d := by
          rw [List.map_append, deepest_append]
          have := deepest_nonneg (pre.map Prod.fst)
          simp [deepest]
          omega
        have H := Lib.hid em
        clear em
        generalize deepest (pre.map Prod.fst) = m at iD cD fD H
        have hfin : ∀ u, u = max m d → KeepsFrom W0.heap.size W (W.setCell ⟨w1.heap.size, 0, none⟩ (.int .i64 u)) ∧ KeepI w.heap.size (w1.heap.size + 1 + 1) (w1.heap.size + 1 + 1 + 1) W (W.setCell ⟨w1.heap.size, 0, none⟩ (.int .i64 u)) ∧
            (Boxed (W.setCell ⟨w1.heap.size, 0, none⟩ (.int .i64 u)) w.heap.size 3 (.int .i64 0) ∧ Boxed (W.setCell ⟨w1.heap.size, 0, none⟩ (.int .i64 u)) (w.heap.size + 1) 9 (.string ⟨#[]⟩) ∧ Boxed (W.setCell ⟨w1.heap.size, 0, none⟩ (.int .i64 u)) (w.heap.size + 1 + 1) 27 (.int .i64 0) ∧ Boxed (W.setCell ⟨w1.heap.size, 0, none⟩ (.int .i64 u)) w1.heap.size 3 (.int .i64 (deepest ((pre ++ [((⟨k, v, d⟩ : Item), (0 : Int))]).map Prod.fst)))) ∧ AllZero (pre ++ [((⟨k, v, d⟩ : Item), (0 : Int))]) ∧ Below w.heap.size w (W.setCell ⟨w1.heap.size, 0, none⟩ (.int .i64 u)) := by
          intro u hu
          refine ⟨(KeepsOthers.setCell _ _ _).from _, ⟨(Below.refl _ W).setCell (p := ⟨w1.heap.size, 0, none⟩) hb1s _, fun v h => h.other (by omega) _, fun v h => h.other (by omega) _⟩, ⟨i1.other (by omega) _, i2.other (by omega) _, i3.other (by omega) _, ?_⟩, ?_, iB.setCell (p := ⟨w1.heap.size, 0, none⟩) hb1s _⟩
          · rw [H.out, ← hu]; exact iD.set _
          · intro x hx
            rcases List.mem_append.1 hx with h | h
            · exact i4 x h
            · rw [List.mem_singleton.1 h]
        have HF := Lib.hid hfin
        clear hfin H iD i1 i2 i3 bX hsz
        by_cases hm : d ≤ m
        · gi_wp2
          exact HF.out m (by omega)
        · gi_wp2
          exact HF.out d (by omega)
      · have t1 : (z != 0) = true := by simpa using hz
        gi_wp2_with fail
        refine ⟨trivial, (CallsIn.inRound l (callsIn_wide.2 (wErr_any z W))).mono ?_⟩
        rintro e w3 ⟨rfl, rfl⟩
        have c1 := i1.cell
        have f1 := i1.frozen
        have s1 := i1.set (.int .i64 0)
        have k2 := i2.other (B' := w.heap.size) (by omega) (.int .i64 0)
        have c2 := k2.cell
        have f2 := k2.frozen
        have s2 := k2.set (.string ⟨#[]⟩)
        have k3 := (i3.other (B' := w.heap.size) (by omega) (.int .i64 0)).other (B' := w.heap.size + 1) (by omega) (.string ⟨#[]⟩)
        have c3 := k3.cell
        have f3 := k3.frozen
        have s3 := k3.set (.int .i64 (wErr z))
        have d1 := (s1.other (B' := w.heap.size + 1) (by omega) (.string ⟨#[]⟩)).other (B' := w.heap.size + 1 + 1) (by omega) (.int .i64 (wErr z))
        have d2 := s2.other (B' := w.heap.size + 1 + 1) (by omega) (.int .i64 (wErr z))
        have hb2 := ((iB.setCell (p := ⟨w.heap.size, 0, none⟩) (Nat.le_refl _) (.int .i64 0)).setCell (p := ⟨w.heap.size + 1, 0, none⟩) (by simp) (.string ⟨#[]⟩)).setCell (p := ⟨w.heap.size + 1 + 1, 0, none⟩) (by simp; omega) (.int .i64 (wErr z))
        have HZ := Lib.hid hz
        clear i1 i2 i3 iD k2 k3 s1 s2 hz
        generalize hu : wErr z = u at s3 d1 d2 hb2 ⊢
        have HU := Lib.hid hu
        clear hu
        gi_wp2
        refine ⟨(((KeepsOthers.setCell _ _ _).trans (KeepsOthers.setCell _ _ _)).trans (KeepsOthers.setCell _ _ _)).from _, rfl, ⟨pre, _, rfl, HZ.out, ?_⟩, ⟨d1, d2⟩, hb2⟩
        show Boxed _ _ _ (.int .i64 (wErr z))
        rw [HU.out]
        exact s3
    case done =>
      rintro D ys W hD rfl ⟨⟨i1, i2, i3, iD⟩, i4, iB⟩ hK
      obtain ⟨g1, g2⟩ := seqOf_ok i4
      obtain ⟨g3, -⟩ := items_good true body (room - 1) g1
      have g4 := deepest_nonneg (items true body (room - 1)).1
      have H := Lib.hid (HG.out g1)
      rw [g2] at iD
      clear HG HB g1 g2 i4
      generalize deepest (items true body (room - 1)).1 = m at g3 g4 iD H
      have cD := iD.cell
      have c1 := i1.cell
      have f1 := i1.frozen
      have s1 := i1.set (.int .i64 (m + 1))
      have k2 := i2.other (B' := w.heap.size) (by omega) (.int .i64 (m + 1))
      have c2 := k2.cell
      have f2 := k2.frozen
      have s2 := k2.set (.string rest)
      have k3 := (i3.other (B' := w.heap.size) (by omega) (.int .i64 (m + 1))).other (B' := w.heap.size + 1) (by omega) (.string rest)
      have c3 := k3.cell
      have f3 := k3.frozen
      have s3 := k3.set (.int .i64 0)
      have d1 := (s1.other (B' := w.heap.size + 1) (by omega) (.string rest)).other (B' := w.heap.size + 1 + 1) (by omega) (.int .i64 0)
      have d2 := s2.other (B' := w.heap.size + 1 + 1) (by omega) (.int .i64 0)
      have hb2 := ((iB.setCell (p := ⟨w.heap.size, 0, none⟩) (Nat.le_refl _) (.int .i64 (m + 1))).setCell (p := ⟨w.heap.size + 1, 0, none⟩) (by simp) (.string rest)).setCell (p := ⟨w.heap.size + 1 + 1, 0, none⟩) (by simp; omega) (.int .i64 0)
      have hK' := (((KeepsOthers.setCell W ⟨w.heap.size, 0, none⟩ (.int .i64 (m + 1))).trans (KeepsOthers.setCell _ ⟨w.heap.size + 1, 0, none⟩ (.string rest))).trans (KeepsOthers.setCell _ ⟨w.heap.size + 1 + 1, 0, none⟩ (.int .i64 0))).same D _ hK rfl
      clear i1 i2 i3 iD k2 k3 s1 s2
      gi_wp2
      refine ⟨by simp, .inl ⟨_, _, rfl, run_takeDeferred hK', ?_⟩⟩
      have e1 := boxed_put (.deferred none) d1 hK' rfl
      have e2 := boxed_put (.deferred none) d2 hK' rfl
      have e3 := boxed_put (.deferred none) s3 hK' rfl
      refine ⟨.tuple #[.int .i64 (m + 1), .string rest, .int .i64 0], ?_, by rw [H.out], hb2.trans (belowK_b (w := w) (Nat.le_refl _) _ D _ _ (by omega) hK' rfl rfl)⟩
      rw [results_ccc rfl]
      simp [asAddr, Result.andThen, go_sem, e1, e2, e3]
    case stop =>
      rintro D c pre W hD hpre ⟨rfl, ⟨p, x, rfl, hx, i3⟩, ⟨i1, i2⟩, iB⟩ hK
      have g1 := seqOf_err (hpre.subset (List.mem_append.2 (.inr (List.mem_singleton.2 rfl)))) hx
      have H := Lib.hid (HB.out (by rw [g1]; exact hx))
      rw [g1] at H
      clear HG HB g1
      gi_wp2
      refine ⟨by simp, .inl ⟨_, _, rfl, run_takeDeferred hK, ?_⟩⟩
      have e1 := boxed_put (.deferred none) i1 hK rfl
      have e2 := boxed_put (.deferred none) i2 hK rfl
      have e3 := boxed_put (.deferred none) i3 hK rfl
      refine ⟨.tuple #[.int .i64 0, .string ⟨#[]⟩, .int .i64 (wErr x.2)], ?_, by rw [H.out], iB.trans (belowK_b (w := w) (Nat.le_refl _) _ D _ _ (by omega) hK rfl rfl)⟩
      rw [results_ccc rfl]
      simp [asAddr, Result.andThen, go_sem, e1, e2, e3]
end Go.Proofs.YtjpldfkhacchdaaDoor
