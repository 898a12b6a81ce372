/-
  beat.Set, Drop, Take: the rows in order, the numbers of what is taken. Nothing that was there is changed. Conditions: less than a million places; the row lies in old memory.
-/
import Derived.Shelf.Abstract
import Derived.Test.YtlbmkokdoigcnaaWBeatQ
namespace Go.Proofs.Ytlbmkokdoigcnaa
open Go.RowKit Go.Shelf

theorem takeWhile_all (l : List DP) : offF (fun _ => false) l = l := by
  induction l with
  | nil => rfl
  | cons x l ih => unfold offF at ih ⊢; rw [List.takeWhile_cons, ih]; rfl
theorem enters_none : ∀ args w, (callFunc 26 args).run Try.prog w = .ok (.enter 26 args) w := enters_of Try.func26 (by kernel_rfl) rfl
theorem enters_of1 : ∀ args w, (callFunc 43 args).run Try.prog w = .ok (.enter 43 args) w := enters_of Try.func43 (by kernel_rfl) rfl
theorem enters_later : ∀ args w, (callFunc 27 args).run Try.prog w = .ok (.enter 27 args) w := enters_of Try.func27 (by kernel_rfl) rfl
/-- a row that came in, of what is due -/
def InD (w : World) (A : Option Addr) (cap : Nat) (l : List DP) : Prop := ValsAt w A (rowD l) ∧ (A = none → l.length = 0 ∧ cap = 0)
theorem InD.below {w w' : World} {A : Option Addr} {cap : Nat} {l : List DP} (h : InD w A cap l) (hb : Below w.heap.size w w') : InD w' A cap l := ⟨h.1.below hb, h.2⟩
theorem InD.of_own {w : World} {base : Nat} {v : Value} {l : List DP} (h : w.ownsRow base 24 2 v l.length (rowD l)) : ∃ A c, v = .slice A l.length c ∧ InD w A c l := by
  obtain ⟨A, c, rfl, h1, h2⟩ := vals_of_own h
  exact ⟨A, c, rfl, h1, h2⟩
theorem own_down {w : World} {base base' size n : Nat} {e : TypeId} {v : Value} {xs : List Value} (h : w.ownsRow base e size v n xs) (hb : base' ≤ base) : w.ownsRow base' e size v n xs := by
  obtain ⟨h1, h2⟩ := h
  refine ⟨h1, ?_⟩
  rcases h2 with h2 | ⟨g, cap, cur, hv, hg, r⟩
  · exact .inl h2
  · exact .inr ⟨g, cap, cur, hv, Nat.le_trans hb hg, r⟩
theorem of_any (id : Int) (w : World) : Calls Try.prog 31 #[.int .i64 id] w fun e w' => e = .returned (.func (.func 43) #[] #[.pointer (some ⟨w.heap.size, 0, none⟩)]) ∧ w' = w.alloc (.cells #[.int .i64 id] 3) := by
  have hmf : ∀ (p : Value) (w : World), (Instr.makeFunc (.func 43) #[] #[p]).run Try.prog w = .ok (.func (.func 43) #[] #[p]) w := fun _ _ => by kernel_rfl
  go_enter Try.func31, Try.ntmps31
  go_wp2
  go_ret
  exact ⟨rfl, rfl⟩
/-- without all of a number -/
def dropF (id : Int) (l : List DP) : List DP := kept (fun d => d.i == id) l

set_option maxRecDepth 100000 in
set_option maxHeartbeats 2000000 in
theorem drop_any (A : Option Addr) (cap : Nat) (l : List DP) (id : Int) (w : World) (hA : InD w A cap l) (hl : l.length < 999999) :
    Calls Try.prog 18 #[.slice A l.length cap, .int .i64 id] w fun e w' => ∃ u, e = .returned u ∧ w'.ownsRow w.heap.size 24 2 u (srt (dropF id l)).length (rowD (srt (dropF id l))) ∧ Below w.heap.size w w' := by
  have hb1 : Below w.heap.size w (w.alloc (.cells #[.int .i64 id] 3)) := (Below.refl _ w).alloc (Nat.le_refl _) _
  have hs1 : w.heap.size ≤ (w.alloc (.cells #[.int .i64 id] 3)).heap.size := hb1.size
  have hH := heaped_any A cap l 43 #[.pointer (some ⟨w.heap.size, 0, none⟩)] (fun d => d.i == id) (some w.heap.size) (w.alloc (.cells #[.int .i64 id] 3)) (of_tells id w.heap.size _ (Bx.new w 3 [.int .i64 id])) enters_of1 (hA.below hb1).1 (hA.below hb1).2 (by omega)
  have hkl := kept_len (fun d => d.i == id) l
  go_enter Try.func18, Try.ntmps18
  go_wp2_with fail
  refine (of_any id w).mono ?_
  rintro e w1 ⟨rfl, rfl⟩
  go_wp2_with fail
  refine hH.mono ?_
  rintro e w2 ⟨b, v, m, rfl, hq, hh, hp, hb2⟩
  have hb3 : Below w.heap.size w w2 := hb1.trans (hb2.mono hs1)
  have hlm : m.length < 1000000 := by rw [hp.length_eq]; omega
  have hC := come_any _ b v m 26 #[] (fun _ => false) none w2 (none_tells w2) enters_none hq hh hlm (fun e => by cases e) (fun k e => by cases e)
  rw [takeWhile_all, srt_perm hp] at hC
  have hB4 : ∀ w3, Fr2 b v.ownBlock w2 w3 → Below w.heap.size w w3 := fun w3 h => hb3.trans (h.below hb3.size (Nat.le_trans hs1 hq.hb) (fun g hg => Nat.le_trans hs1 (hq.own.lt g hg).1))
  have hs3 := hb3.size
  clear hH hb1 hb2 hb3 hq hh hp
  go_wp2_with fail
  refine hC.mono ?_
  rintro e w3 ⟨u, rfl, ho, v', m', -, -, -, -, -, hF⟩
  have HO : Hid (w3.ownsRow w.heap.size 24 2 u (srt (dropF id l)).length (rowD (srt (dropF id l)))) := Lib.hid (own_down ho hs3)
  have hB5 := hB4 w3 hF
  clear hC ho hF hB4
  go_wp2
  go_ret
  exact ⟨_, rfl, HO.out, hB5⟩
/-- with one set -/
def setF (l : List DP) (d : DP) : List DP := srt (dropF d.i l ++ [d])

set_option maxRecDepth 100000 in
set_option maxHeartbeats 2000000 in
theorem set_any (A : Option Addr) (cap : Nat) (l : List DP) (d : DP) (w : World) (hA : InD w A cap l) (hl : l.length < 999998) :
    Calls Try.prog 16 #[.slice A l.length cap, encD d] w fun e w' => ∃ u, e = .returned u ∧ w'.ownsRow w.heap.size 24 2 u (setF l d).length (rowD (setF l d)) ∧ Below w.heap.size w w' := by
  obtain ⟨W0, hW0⟩ : ∃ W0, W0 = w.alloc (.cells #[.int .i64 d.a, .int .i64 d.i] 24) := ⟨_, rfl⟩
  have hb0 : Below w.heap.size w W0 := by rw [hW0]; exact (Below.refl _ w).alloc (Nat.le_refl _) _
  have hx0 : Bx W0 w.heap.size 24 [.int .i64 d.a, .int .i64 d.i] := by rw [hW0]; exact Bx.new w _ _
  have hb1 : Below w.heap.size w (W0.alloc (.cells #[.int .i64 d.i] 3)) := hb0.alloc hb0.size _
  have hs1 : w.heap.size ≤ (W0.alloc (.cells #[.int .i64 d.i] 3)).heap.size := hb1.size
  have hx1 : Bx (W0.alloc (.cells #[.int .i64 d.i] 3)) w.heap.size 24 [.int .i64 d.a, .int .i64 d.i] := hx0.alloc _
  have hH := heaped_any A cap l 43 #[.pointer (some ⟨W0.heap.size, 0, none⟩)] (fun x => x.i == d.i) (some W0.heap.size) (W0.alloc (.cells #[.int .i64 d.i] 3)) (of_tells d.i W0.heap.size _ (Bx.new W0 3 [.int .i64 d.i])) enters_of1 (hA.below hb1).1 (hA.below hb1).2 (by omega)
  have hkl := kept_len (fun x => x.i == d.i) l
  have x1 := hx0.cell 1 (by simp)
  dsimp only [List.getElem_cons_zero, List.getElem_cons_succ] at x1
  have hsF : setF l d = srt (kept (fun x => x.i == d.i) l ++ [d]) := rfl
  rw [hsF]
  clear hsF hx0
  obtain ⟨da, di⟩ := d
  unfold encD
  dsimp only at *
  have HK := Lib.hid hkl
  clear hkl
  go_enter Try.func16, Try.ntmps16
  go_wp2_with fail
  rw [← hW0]
  clear hW0
  go_wp2_with fail
  with_reducible refine (of_any di W0).mono ?_
  rintro e w1 ⟨rfl, rfl⟩
  go_wp2_with fail
  refine hH.mono ?_
  rintro e w2 ⟨b, v, m, rfl, hq, hh, hp, hb2⟩
  have hb3 : Below w.heap.size w w2 := hb1.trans (hb2.mono hs1)
  have hlm : m.length < 999999 := by rw [hp.length_eq]; have := HK.out; omega
  have hx2 := hx1.kept hb2
  have y0 := hx2.cell 0 (by simp)
  have y1 := hx2.cell 1 (by simp)
  dsimp only [List.getElem_cons_zero, List.getElem_cons_succ] at y0 y1
  have hP : Calls Try.prog 32 #[ifQ b, .iface 24 (.agg #[.int .i64 da, .int .i64 di])] w2 _ := hpush_any _ b v m ⟨da, di⟩ w2 hq hlm
  have hbq : w.heap.size ≤ b := Nat.le_trans hs1 hq.hb
  have hvq : ∀ g, v.ownBlock = some g → w.heap.size ≤ g := fun g hg => Nat.le_trans hs1 (hq.own.lt g hg).1
  have hHP := Lib.hid (push_heap ⟨da, di⟩ hh)
  have HPm := Lib.hid ((upF_perm (m ++ [(⟨da, di⟩ : DP)]) m.length (by simp)).trans (hp.append_right [(⟨da, di⟩ : DP)]))
  clear hH hb1 hb2 hq hh hp hx1 hx2 x1
  go_wp2_with fail
  with_reducible refine hP.mono ?_
  rintro e w3 ⟨rfl, v3, hq3, hF3, hg3⟩
  have hb4 : Below w.heap.size w w3 := hb3.trans (hF3.below hb3.size hbq hvq)
  have hvq3 : ∀ g, v3.ownBlock = some g → w.heap.size ≤ g := fun g hg => by
    rcases hg3 g hg with h | h
    · exact hvq g h
    · exact Nat.le_trans hb3.size h
  have hC := come_any _ b v3 _ 26 #[] (fun _ => false) none w3 (none_tells w3) enters_none hq3 hHP.out (by rw [upF_len]; simp; omega) (fun e => by cases e) (fun k e => by cases e)
  rw [takeWhile_all, srt_perm HPm.out] at hC
  have hB4 : ∀ w4, Fr2 b v3.ownBlock w3 w4 → Below w.heap.size w w4 := fun w4 h => hb4.trans (h.below hb4.size hbq hvq3)
  have hs3 := hb4.size
  clear hP hb3 hb4 hq3 hF3 hg3 hvq hvq3 y0 y1
  go_wp2_with fail
  refine hC.mono ?_
  rintro e w4 ⟨u, rfl, ho, v', m', -, -, -, -, -, hF⟩
  have HO := Lib.hid (own_down ho hs3)
  have hB5 := hB4 w4 hF
  clear hC ho hF hB4
  go_wp2
  go_ret
  exact ⟨_, rfl, HO.out, hB5⟩

end Go.Proofs.Ytlbmkokdoigcnaa
