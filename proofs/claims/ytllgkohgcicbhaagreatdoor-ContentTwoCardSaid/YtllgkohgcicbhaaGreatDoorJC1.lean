/-
  Several texts joined in one file: each says at its own head, below, what it proves, and its conditions.
-/
import Derived.Test.YtllgkohgcicbhaaGreatDoorZA
import Derived.Test.YtllgkohgcicbhaaGreatDoorZE
import Derived.Test.YtllgkohgcicbhaaGreatDoorJCont
import Derived.Test.YtllgkohgcicbhaaGreatDoorWCut
import Derived.Test.YtllgkohgcicbhaaGreatDoorZF
import Derived.Test.YtllgkohgcicbhaaGreatDoorZJ
/-
  Commands in memory: their cells; whether two are the same. No condition.
-/
namespace Go.Proofs.YtllgkohgcicbhaaGreatDoor
open Go.RowKit

def cellsC (c : Cm) (A B : Option Addr) (ca cb : Nat) : List Value := [.int .i64 c.m.c, .int .i64 c.m.i, .slice A c.m.l.length ca, .int .i64 c.h.c, .int .u64 c.h.z, .int .u64 c.h.f, .slice B c.h.l.length cb, .string c.b]
def encC (c : Cm) (A B : Option Addr) (ca cb : Nat) : Value := .agg #[.int .i64 c.m.c, .int .i64 c.m.i, .slice A c.m.l.length ca, .int .i64 c.h.c, .int .u64 c.h.z, .int .u64 c.h.f, .slice B c.h.l.length cb, .string c.b]
def encAs (a : As) (A B : Option Addr) (ca cb : Nat) : Value := .agg #[.int .i64 a.st, .int .i64 a.c.m.c, .int .i64 a.c.m.i, .slice A a.c.m.l.length ca, .int .i64 a.c.h.c, .int .u64 a.c.h.z, .int .u64 a.c.h.f, .slice B a.c.h.l.length cb, .string a.c.b]
/-- a command's values lie there -/
structure CmAt (W : World) (c : Cm) (A B : Option Addr) (ca cb : Nat) : Prop where
  va : ValsAt W A (rowV c.m.l)
  vb : ValsAt W B (rowV c.h.l)
  na : A = none → c.m.l.length = 0 ∧ ca = 0
  nb : B = none → c.h.l.length = 0 ∧ cb = 0
theorem CmAt.below {W W' : World} {c : Cm} {A B : Option Addr} {ca cb : Nat} (h : CmAt W c A B ca cb) (hb : Below W.heap.size W W') : CmAt W' c A B ca cb := ⟨h.va.below hb, h.vb.below hb, h.na, h.nb⟩
theorem cmAt0 (W : World) : CmAt W cm0 none none 0 0 := ⟨fun h => by simp [cm0, rowV] at h, fun h => by simp [cm0, noH, rowV] at h, fun _ => ⟨rfl, rfl⟩, fun _ => ⟨rfl, rfl⟩⟩
def sameC (a b : Cm) : Bool := (sameM a.m b.m && sameH a.h b.h) && (a.b.toList == b.b.toList)
theorem sameC_iff (a b : Cm) : sameC a b = true ↔ a = b := by
  obtain ⟨m, h, s⟩ := a
  obtain ⟨m', h', s'⟩ := b
  simp only [sameC, Bool.and_eq_true, sameM_iff, sameH_iff, beq_iff_eq, Cm.mk.injEq, and_assoc]
  constructor
  · rintro ⟨h1, h2, h3⟩
    exact ⟨h1, h2, ba_ext (by rw [ByteArray.toList_eq, ByteArray.toList_eq] at h3; exact h3)⟩
  · rintro ⟨rfl, rfl, rfl⟩; exact ⟨rfl, rfl, rfl⟩
/-- are two commands that aren't whole the same? -/
def sameA (a b : As) : Bool := sameC a.c b.c && (a.st == b.st)
theorem sameA_iff (a b : As) : sameA a b = true ↔ a = b := by
  obtain ⟨s, c⟩ := a
  obtain ⟨s', c'⟩ := b
  simp only [sameA, Bool.and_eq_true, sameC_iff, beq_iff_eq, As.mk.injEq]
  exact ⟨fun h => ⟨h.2, h.1⟩, fun h => ⟨h.2, h.1⟩⟩
/-- how long rows of values may be -/
def shortC (c : Cm) : Prop := c.m.l.length ≤ 9223372036854775807 ∧ c.h.l.length ≤ 9223372036854775807
theorem Bx.eight {W : World} {B : Nat} {t : TypeId} {a b c d e f g h : Value} (x : Bx W B t [a, b, c, d, e, f, g, h]) :
    W.cell? ⟨B, 0, none⟩ = some a ∧ W.cell? ⟨B, 1, none⟩ = some b ∧ W.cell? ⟨B, 2, none⟩ = some c ∧ W.cell? ⟨B, 3, none⟩ = some d ∧ W.cell? ⟨B, 4, none⟩ = some e ∧ W.cell? ⟨B, 5, none⟩ = some f ∧ W.cell? ⟨B, 6, none⟩ = some g ∧ W.cell? ⟨B, 7, none⟩ = some h :=
  ⟨x.cell 0 (by simp), x.cell 1 (by simp), x.cell 2 (by simp), x.cell 3 (by simp), x.cell 4 (by simp), x.cell 5 (by simp), x.cell 6 (by simp), x.cell 7 (by simp)⟩
end Go.Proofs.YtllgkohgcicbhaaGreatDoor

/-
  content.pieces and its closure tell what a command's frames of a type hold, in rows of their own; nothing that was there is changed. Conditions: the table of widths is as its text lays it; the values lie in old memory; a body of at most 1048576 bytes.
-/
namespace Go.Proofs.YtllgkohgcicbhaaGreatDoor
open Go.RowKit

theorem own_oneV (w : World) (t : TypeId) (v : Value) : (w.alloc (.cells #[v] t)).ownsRow w.heap.size t 1 (.slice (some ⟨w.heap.size, 0, none⟩) 1 1) 1 [v] :=
  ⟨by simp, .inr ⟨w.heap.size, 1, #[v], rfl, Nat.le_refl _, World.alloc_heap_new w _, Nat.le_refl _, by unfold maxLen; omega, by simp, by simp⟩⟩
/-- what a command's frames of a type hold -/
def datP (c : Cm) (r : Nat) (k : Int) : List ByteArray := if k = 1 then [mB c.m] else if k = 2 then [hB c.h] else cutL r c.b

theorem pieces_any (c : Cm) (A B : Option Addr) (ca cb r : Nat) (w : World) :
    Calls Tryz.prog 25 #[encC c A B ca cb, .int .i64 (r : Int)] w fun e w' => ∃ B1 B2, e = .returned (.func (.func 50) #[] #[.pointer (some ⟨B1, 0, none⟩), .pointer (some ⟨B2, 0, none⟩)]) ∧ Bx w' B1 29 (cellsC c A B ca cb) ∧ Boxed w' B2 3 (.int .i64 (r : Int)) ∧ w.heap.size ≤ B1 ∧ w.heap.size ≤ B2 ∧ Below w.heap.size w w' := by
  have hmf : ∀ (p q : Value) (w : World), (Instr.makeFunc (.func 50) #[] #[p, q]).run Tryz.prog w = .ok (.func (.func 50) #[] #[p, q]) w := fun _ _ _ => by kernel_rfl
  have hx := (Bx.new w 29 (cellsC c A B ca cb)).alloc (.cells #[.int .i64 (r : Int)] 3)
  have hy := Boxed.new (w.alloc (.cells (cellsC c A B ca cb).toArray 29)) 3 (.int .i64 (r : Int))
  have hb : Below w.heap.size w ((w.alloc (.cells (cellsC c A B ca cb).toArray 29)).alloc (.cells #[.int .i64 (r : Int)] 3)) := ((Below.refl _ w).alloc (Nat.le_refl _) _).alloc (by simp) _
  rw [World.size_alloc] at hy
  unfold encC
  unfold cellsC at *
  go_enter Tryz.func25, Tryz.ntmps25
  go_wp2
  go_ret
  exact ⟨_, _, rfl, hx, hy, Nat.le_refl _, by omega, hb⟩

set_option maxRecDepth 100000 in
set_option maxHeartbeats 2000000 in
theorem piece_any (c : Cm) (A B : Option Addr) (ca cb r B1 B2 : Nat) (k : Int) (w : World) (hw : Wid w) (hwf : wfC c) (hc : CmAt w c A B ca cb) (hs : c.b.size ≤ 1048576) (hr : 0 < r) (hx : Bx w B1 29 (cellsC c A B ca cb)) (hy : Boxed w B2 3 (.int .i64 (r : Int))) :
    Calls Tryz.prog 50 #[.int .i64 k, .pointer (some ⟨B1, 0, none⟩), .pointer (some ⟨B2, 0, none⟩)] w fun e w' => ∃ v, e = .returned v ∧ w'.ownsRow w.heap.size 9 1 v (datP c r k).length ((datP c r k).map Value.string) ∧ Below w.heap.size w w' := by
  have hM := mbytes_any c.m A ca w hw hwf.1 hc.va
  have hH := pbytes_any c.h B cb w hw hwf.2 hc.vb
  have hC := tcut_any c.b (r : Int) hs w
  rw [show pieceLen (r : Int) = r by unfold pieceLen; omega] at hC
  have HD : Hid (datP c r k = if k = 1 then [mB c.m] else if k = 2 then [hB c.h] else cutL r c.b) := Lib.hid rfl
  generalize datP c r k = d at HD ⊢
  generalize mB c.m = mb at hM HD
  generalize hB c.h = hb at hH HD
  generalize cutL r c.b = cl at hC HD
  generalize mE c.m = e1 at hM
  generalize hE c.h = e2 at hH
  unfold encM at hM
  unfold encH at hH
  unfold cellsC at hx
  clear hw hwf hc hs hr
  obtain ⟨⟨mc, mi, ml⟩, ⟨hc', hz', hf, hl⟩, sb⟩ := c
  dsimp only at *
  obtain ⟨x0, x1, x2, x3, x4, x5, x6, x7⟩ := hx.eight
  have y0 := hy.cell
  clear hx hy
  by_cases h1 : k = 1
  · have HF : Hid (d = [mb]) := Lib.hid (by rw [HD.out, if_pos h1])
    subst h1
    clear HD hH hC
    go_enter Tryz.func50, Tryz.ntmps50
    go_wp2_with fail
    with_reducible refine hM.mono ?_
    rintro e w1 ⟨rfl, hb1⟩
    have hown := own_oneV w1 9 (.string mb)
    have hbn := hb1.alloc hb1.size (.cells #[.string mb] 9)
    have hbs := hb1.size
    clear hM x0 x1 x2 x3 x4 x5 x6 x7 y0
    go_wp2
    go_ret
    exact ⟨_, rfl, by rw [HF.out]; exact hown.mono hbs, hbn⟩
  · have t1 : (k == 1) = false := by simpa using h1
    by_cases h2 : k = 2
    · have HF : Hid (d = [hb]) := Lib.hid (by rw [HD.out, if_neg h1, if_pos h2])
      subst h2
      clear HD hM hC h1
      go_enter Tryz.func50, Tryz.ntmps50
      go_wp2_with fail
      with_reducible refine hH.mono ?_
      rintro e w1 ⟨rfl, hb1⟩
      have hown := own_oneV w1 9 (.string hb)
      have hbn := hb1.alloc hb1.size (.cells #[.string hb] 9)
      have hbs := hb1.size
      clear hH x0 x1 x2 x3 x4 x5 x6 x7 y0
      go_wp2
      go_ret
      exact ⟨_, rfl, by rw [HF.out]; exact hown.mono hbs, hbn⟩
    · have t2 : (k == 2) = false := by simpa using h2
      have HF : Hid (d = cl) := Lib.hid (by rw [HD.out, if_neg h1, if_neg h2])
      clear HD hM hH h1 h2
      go_enter Tryz.func50, Tryz.ntmps50
      go_wp2_with fail
      with_reducible refine hC.mono ?_
      rintro e w1 ⟨v, rfl, hown, hb1⟩
      clear hC x0 x1 x2 x3 x4 x5 x6 x7 y0
      go_wp2
      go_ret
      exact ⟨v, rfl, by rw [HF.out]; exact hown, hb1⟩
end Go.Proofs.YtllgkohgcicbhaaGreatDoor

/-
  A command's frames as they are laid, type by type. No condition.
-/
namespace Go.Proofs.YtllgkohgcicbhaaGreatDoor
open Go.RowKit

def frD (c : Cm) (r k : Nat) : List ByteArray := datP c r ((k : Int) + 1)
def frOf (ch : Int) (k : Nat) (p : ByteArray) : Fr := ⟨(k : Int) + 1, ch, p⟩
def accF (c : Cm) (ch : Int) (r : Nat) : Nat → List Fr
  | 0 => []
  | k + 1 => accF c ch r k ++ (frD c r k).map (frOf ch k)
theorem frD0 (c : Cm) (r : Nat) : frD c r 0 = [mB c.m] := rfl
theorem frD1 (c : Cm) (r : Nat) : frD c r 1 = [hB c.h] := rfl
theorem frD2 (c : Cm) (r : Nat) : frD c r 2 = cutL r c.b := rfl
theorem acc_all {c : Cm} (ch : Int) (r : Nat) (h : fol c.m = true) : accF c ch r 3 = cFrsL c ch r := by
  rw [cFrsL, if_pos h]
  simp only [accF, frD0, frD1, frD2, List.map_cons, List.map_nil, List.nil_append, List.cons_append]
  rfl
theorem acc_one {c : Cm} (ch : Int) (r : Nat) (h : fol c.m = false) : [frOf ch 0 (mB c.m)] = cFrsL c ch r := by
  rw [cFrsL, if_neg (by simp [h])]
  rfl
theorem fr_bad {c : Cm} {ch : Int} {r k : Nat} (hr : 0 < r) (h1 : cE c = 0) (h2 : 1 ≤ ch ∧ ch ≤ 65535) (hk : k < 3) (hf : k = 0 ∨ fol c.m = true) {p : ByteArray} (hp : p ∈ frD c r k) (hb : r < p.size) : cFrsE c ch r = 4 := by
  rw [cFrsE, if_pos h1, if_neg (by omega)]
  match k, hk with
  | 0, _ =>
    rw [frD0, List.mem_singleton] at hp
    subst hp
    rw [if_pos (.inl hb)]
  | 1, _ =>
    rw [frD1, List.mem_singleton] at hp
    subst hp
    rw [if_pos (.inr ⟨hf.resolve_left (by decide), hb⟩)]
  | 2, _ =>
    rw [frD2] at hp
    have := (cut_size hr hp).2
    omega
theorem fr_good {c : Cm} {ch : Int} {r : Nat} (h1 : cE c = 0) (h2 : 1 ≤ ch ∧ ch ≤ 65535) (h3 : ∀ p ∈ frD c r 0, p.size ≤ r) (h4 : fol c.m = true → ∀ p ∈ frD c r 1, p.size ≤ r) : cFrsE c ch r = 0 := by
  rw [cFrsE, if_pos h1, if_neg (by omega)]
  have g1 := h3 (mB c.m) (by rw [frD0]; exact List.mem_singleton.2 rfl)
  refine if_neg ?_
  rintro (h | ⟨hf, h⟩)
  · omega
  · have := h4 hf (hB c.h) (by rw [frD1]; exact List.mem_singleton.2 rfl)
    omega
theorem fr_len {c : Cm} (ch : Int) {r k : Nat} (hr : 0 < r) (hs : c.b.size ≤ 65536) (hk : k < 3) : (accF c ch r k).length + (frD c r k).length ≤ 65538 := by
  have := cutL_le hr c.b
  match k, hk with
  | 0, _ => rw [frD0]; simp [accF]
  | 1, _ => rw [frD1]; simp [accF, frD0]
  | 2, _ => rw [frD2]; simp [accF, frD0, frD1]; omega
theorem frE_chan {c : Cm} {ch : Int} {r : Nat} (h1 : cE c = 0) (h2 : ch < 1 ∨ 65535 < ch) : cFrsE c ch r = 1 := by
  rw [cFrsE, if_pos h1, if_pos h2]
theorem frE_cmd {c : Cm} {ch : Int} {r : Nat} (h1 : ¬ cE c = 0) : cFrsE c ch r = cE c := by
  rw [cFrsE, if_neg h1]
theorem frs_none {c : Cm} {ch : Int} {r : Nat} (h : ¬ cFrsE c ch r = 0) : cFrs c ch r = [] := by rw [cFrs, if_neg h]
theorem frs_some {c : Cm} {ch : Int} {r : Nat} (h : cFrsE c ch r = 0) : cFrs c ch r = cFrsL c ch r := by rw [cFrs, if_pos h]
end Go.Proofs.YtllgkohgcicbhaaGreatDoor

/-
  How many frames a command has, and which. No condition.
-/
namespace Go.Proofs.YtllgkohgcicbhaaGreatDoor
open Go.RowKit

theorem room_mono {a b : Int} (h : a ≤ b) : roomN a ≤ roomN b := by unfold roomN roomOf; omega
theorem frsE_mono {c : Cm} {ch : Int} {r s : Nat} (h : cFrsE c ch r = 0) (hrs : r ≤ s) : cFrsE c ch s = 0 := by
  obtain ⟨h1, h2, h3, h4⟩ := cFrsE_parts h
  rw [cFrsE, if_pos h1, if_neg (by omega)]
  refine if_neg ?_
  rintro (h | ⟨hf, h⟩)
  · omega
  · have := h4 hf; omega
theorem frs_mono {c : Cm} {ch : Int} {r s : Nat} (h : cFrsE c ch r = 0) (hr : 0 < r) (hrs : r ≤ s) : (cFrs c ch s).length ≤ (cFrs c ch r).length := by
  rw [frs_some h, frs_some (frsE_mono h hrs), cFrsL, cFrsL]
  by_cases hf : fol c.m = true
  · rw [if_pos hf, if_pos hf]
    have := cut_mono hr hrs c.b
    simp
    exact this
  · rw [if_neg hf, if_neg hf]
    exact Nat.le_refl _
theorem frs_small {c : Cm} {ch : Int} {r : Nat} (hr : 0 < r) : ∀ f ∈ cFrs c ch r, f.d.size ≤ r := by
  intro f hf
  by_cases h : cFrsE c ch r = 0
  · obtain ⟨h1, h2, h3, h4⟩ := cFrsE_parts h
    rw [frs_some h, cFrsL, List.mem_cons] at hf
    rcases hf with rfl | hf
    · exact h3
    · by_cases hfl : fol c.m = true
      · rw [if_pos hfl, List.mem_cons] at hf
        rcases hf with rfl | hf
        · exact h4 hfl
        · obtain ⟨p, hp, rfl⟩ := List.mem_map.1 hf
          exact (cut_size hr hp).2
      · rw [if_neg hfl] at hf; cases hf
  · rw [frs_none h] at hf; cases hf
theorem room_max {a : Int} : (roomN a : Int) + 8 ≤ max a 4096 := by unfold roomN roomOf; omega
theorem frsE_one {c : Cm} {ch : Int} {r : Nat} (h : ¬ cFrsE c ch r = 0) : ¬ cE c = 0 ∨ ch < 1 ∨ 65535 < ch ∨ cFrsE c ch r = 4 := by
  by_cases h1 : cE c = 0
  · by_cases h2 : ch < 1 ∨ 65535 < ch
    · rcases h2 with h2 | h2
      · exact .inr (.inl h2)
      · exact .inr (.inr (.inl h2))
    · refine .inr (.inr (.inr ?_))
      rw [cFrsE, if_pos h1, if_neg h2] at h ⊢
      split at h
      · rw [if_pos ‹_›]
      · exact absurd rfl h
  · exact .inl h1
theorem frs_len {c : Cm} {ch : Int} {r : Nat} (hr : 0 < r) : (cFrs c ch r).length ≤ 65538 := by
  by_cases h : cFrsE c ch r = 0
  · have hs := cE_small (cFrsE_parts h).1
    have := cutL_le hr c.b
    rw [frs_some h, cFrsL]
    by_cases hf : fol c.m = true
    · rw [if_pos hf]; simp; omega
    · rw [if_neg hf]; simp
  · rw [frs_none h]; exact Nat.zero_le _
/-- the types of a command's frames, and what its bodies hold -/
theorem frs_kind {c : Cm} {ch : Int} {r k : Nat} (hr : 0 < r) (hr2 : r ≤ 131064) (h : cFrsE c ch r = 0) (hk : k < (cFrs c ch r).length) : frRight (cFrs c ch r)[k] = true ∧ (cFrs c ch r)[k].t = (if 3 < (k : Int) + 1 then 3 else (k : Int) + 1) ∧ (cFrs c ch r)[k].c = ch := by
  obtain ⟨h1, h2, h3, h4⟩ := cFrsE_parts h
  have right : ∀ (t : Int) (d : ByteArray), t = 1 ∨ t = 2 ∨ t = 3 → (t = 3 → 0 < d.size) → d.size ≤ r → frRight ⟨t, ch, d⟩ = true := by
    intro t d ht hd hs
    have e1 : kOk t = true := by rcases ht with rfl | rfl | rfl <;> decide
    have e2 : kLast t = 65535 := by rcases ht with rfl | rfl | rfl <;> decide
    have e3 : kMost t = 131072 := by rcases ht with rfl | rfl | rfl <;> decide
    have e4 : kLeast t ≤ d.size := by
      rcases ht with rfl | rfl | rfl
      · rw [show kLeast 1 = 0 by decide]; omega
      · rw [show kLeast 2 = 0 by decide]; omega
      · rw [show kLeast 3 = 1 by decide]; have := hd rfl; omega
    simp only [frRight, e1, e2, e3, Bool.true_and, Bool.and_eq_true, decide_eq_true_eq]
    exact ⟨⟨by omega, by omega⟩, e4, by omega⟩
  have e := frs_some h
  by_cases hf : fol c.m = true
  · have e2 : cFrs c ch r = ⟨1, ch, mB c.m⟩ :: ⟨2, ch, hB c.h⟩ :: (cutL r c.b).map (fun p => ⟨3, ch, p⟩) := by rw [e, cFrsL, if_pos hf]
    generalize cFrs c ch r = L at e2 hk ⊢
    subst e2
    match k, hk with
    | 0, _ => exact ⟨right 1 _ (.inl rfl) (fun h' => by cases h') h3, rfl, rfl⟩
    | 1, _ => exact ⟨right 2 _ (.inr (.inl rfl)) (fun h' => by cases h') (h4 hf), rfl, rfl⟩
    | j + 2, hk =>
      have hj : j < (cutL r c.b).length := by simpa using hk
      have hp := cut_size hr (List.getElem_mem hj)
      have ek : ((⟨1, ch, mB c.m⟩ :: ⟨2, ch, hB c.h⟩ :: (cutL r c.b).map (fun p => (⟨3, ch, p⟩ : Fr)))[j + 2]) = ⟨3, ch, (cutL r c.b)[j]⟩ := by simp
      rw [ek]
      refine ⟨right 3 _ (.inr (.inr rfl)) (fun _ => hp.1) hp.2, ?_, rfl⟩
      show (3 : Int) = _
      split <;> omega
  · have e2 : cFrs c ch r = [⟨1, ch, mB c.m⟩] := by rw [e, cFrsL, if_neg hf]
    generalize cFrs c ch r = L at e2 hk ⊢
    subst e2
    obtain rfl : k = 0 := by simpa using hk
    exact ⟨right 1 _ (.inl rfl) (fun h' => by cases h') h3, rfl, rfl⟩
/-- how many bytes the bodies among the first k frames hold -/
def bodyN (l : List Fr) (k : Nat) : Nat := (catB (((l.take k).drop 2).map (·.d))).size
theorem bodyN_zero (l : List Fr) : bodyN l 0 = 0 := by simp [bodyN, catB]; rfl
theorem bodyN_succ (l : List Fr) (k : Nat) (hk : k < l.length) : bodyN l (k + 1) = bodyN l k + if 1 < k then (l[k]).d.size else 0 := by
  by_cases h : 1 < k
  · have e : (l.take (k + 1)).drop 2 = (l.take k).drop 2 ++ [l[k]] := by
      rw [List.take_add_one, List.getElem?_eq_getElem hk, Option.toList_some, List.drop_append_of_le_length (by rw [List.length_take]; omega)]
    rw [bodyN, e, List.map_append, List.map_cons, List.map_nil, catB_snoc, ByteArray.size_append, if_pos h, bodyN]
  · have e1 : (l.take (k + 1)).drop 2 = [] := List.drop_of_length_le (by rw [List.length_take]; omega)
    have e2 : (l.take k).drop 2 = [] := List.drop_of_length_le (by rw [List.length_take]; omega)
    rw [bodyN, e1, bodyN, e2, if_neg h, Nat.add_zero]
theorem bodyN_all {c : Cm} {ch : Int} {r : Nat} (hr : 0 < r) (h : cFrsE c ch r = 0) : bodyN (cFrs c ch r) (cFrs c ch r).length = c.b.size := by
  have e := frs_some h
  rw [bodyN, List.take_of_length_le (Nat.le_refl _), e]
  by_cases hf : fol c.m = true
  · rw [cFrsL, if_pos hf]
    simp only [List.drop_succ_cons, List.drop_zero, List.map_map]
    rw [show (List.map ((·.d) ∘ fun p => (⟨3, ch, p⟩ : Fr)) (cutL r c.b)) = cutL r c.b by
      rw [show ((·.d) ∘ fun p => (⟨3, ch, p⟩ : Fr)) = id from rfl, List.map_id], cut_cat hr]
  · rw [cFrsL, if_neg hf]
    obtain ⟨-, ⟨g, -⟩ | ⟨-, -, g⟩⟩ := cE_parts (cFrsE_parts h).1
    · exact absurd g hf
    · rw [g]; rfl
theorem bodyN_le (l : List Fr) (k : Nat) (hk : k ≤ l.length) : bodyN l k ≤ bodyN l l.length := by
  have e : l.drop 2 = (l.take k).drop 2 ++ (l.drop 2).drop (k - 2) := by
    rw [List.drop_drop]
    by_cases h : 2 ≤ k
    · have h2 := (List.take_append_drop k l).symm
      have h3 : (l.take k ++ l.drop k).drop 2 = (l.take k).drop 2 ++ l.drop k := List.drop_append_of_le_length (by rw [List.length_take]; omega)
      rw [← h2] at h3
      rw [h3, show 2 + (k - 2) = k by omega]
    · rw [List.drop_of_length_le (l := l.take k) (by rw [List.length_take]; omega), List.nil_append, show 2 + (k - 2) = 2 by omega]
  rw [bodyN, bodyN, List.take_of_length_le (Nat.le_refl l.length), e, List.map_append, catB_append, ByteArray.size_append]
  omega
end Go.Proofs.YtllgkohgcicbhaaGreatDoor

/-
  The document's example of chapter 8: a command with a body of 5000 bytes has four frames. No condition.
-/
namespace Go.Proofs.YtllgkohgcicbhaaGreatDoor
open Go.RowKit

def zerosN (n : Nat) : ByteArray := ⟨(List.replicate n 0).toArray⟩
theorem zerosN_size (n : Nat) : (zerosN n).size = n := by
  show (List.replicate n (0 : UInt8)).toArray.size = n
  rw [List.size_toArray, List.length_replicate]
def zeros : ByteArray := zerosN 5000
theorem zeros_size : zeros.size = 5000 := zerosN_size 5000
def shM : Me := ⟨60, 40, [noV, noV, ⟨0, ⟨#[113]⟩⟩, noV, noV]⟩
def shH : He := ⟨60, 5000, 0, []⟩
def shC : Cm := ⟨shM, shH, zeros⟩
theorem sh_mE : mE shM = 0 := by kernel_rfl
theorem sh_mB : mB shM = ⟨#[0, 60, 0, 40, 0, 0, 0, 1, 113, 0]⟩ := by
  rw [mB, if_pos sh_mE]
  kernel_rfl
theorem sh_hE : hE shH = 0 := by kernel_rfl
theorem sh_hB : (hB shH).size = 14 := by
  rw [hB, if_pos sh_hE]
  kernel_rfl
theorem sh_fol : fol shM = true := by kernel_rfl
theorem sh_cE : cE shC = 0 := cE_fol sh_mE sh_fol sh_hE (by show (5000 : Int) = ((zeros.size : Nat) : Int); rw [zeros_size]; rfl)
theorem sh_room : roomN 4096 = 4088 := by unfold roomN roomOf; omega
theorem sh_frsE : cFrsE shC 1 4088 = 0 := by
  rw [cFrsE, if_pos sh_cE, if_neg (by omega)]
  refine if_neg ?_
  rintro (h | ⟨-, h⟩)
  · have e : (mB shC.m).size = 10 := by rw [show shC.m = shM from rfl, sh_mB]; rfl
    omega
  · have e : (hB shC.h).size = 14 := sh_hB
    omega
theorem sh_cut : cutL 4088 zeros = [zeros.extract 0 4088, (zeros.extract 4088 5000).extract 0 912] := by
  have z := zeros_size
  have h1 : (zeros.extract 4088 5000).size = 912 := by rw [ByteArray.size_extract]; omega
  rw [cutL_cons (by omega) (by decide), z]
  rw [show min 4088 5000 = 4088 from rfl, cutL_cons (by omega) (by decide), h1]
  rw [show min 4088 912 = 912 from rfl, cutL_nil 4088 (by rw [ByteArray.size_extract]; omega)]
theorem sh_frs : cFrs shC 1 4088 = [⟨1, 1, mB shM⟩, ⟨2, 1, hB shH⟩, ⟨3, 1, zeros.extract 0 4088⟩, ⟨3, 1, (zeros.extract 4088 5000).extract 0 912⟩] := by
  rw [frs_some sh_frsE, cFrsL, show shC.m = shM from rfl, if_pos sh_fol, show shC.b = zeros from rfl, show shC.h = shH from rfl, sh_cut]
  rfl
theorem sh_sizes : (zeros.extract 0 4088).size = 4088 ∧ ((zeros.extract 4088 5000).extract 0 912).size = 912 := by
  have z := zeros_size
  refine ⟨?_, ?_⟩
  · rw [ByteArray.size_extract]; omega
  · rw [ByteArray.size_extract, ByteArray.size_extract]; omega
theorem sh_wf : wfC shC := by
  refine ⟨fun v hv => ?_, ⟨by decide, by decide⟩, ⟨by decide, by decide⟩, fun v hv => by cases hv⟩
  have h : v = noV ∨ v = ⟨0, ⟨#[113]⟩⟩ := by
    have : v ∈ [noV, noV, ⟨0, ⟨#[113]⟩⟩, noV, noV] := hv
    simp only [List.mem_cons, List.not_mem_nil, or_false] at this
    rcases this with h | h | h | h | h
    · exact .inl h
    · exact .inl h
    · exact .inr h
    · exact .inl h
    · exact .inl h
  rcases h with rfl | rfl
  · exact ⟨by decide, by decide, by decide⟩
  · exact ⟨by decide, by decide, by decide⟩
end Go.Proofs.YtllgkohgcicbhaaGreatDoor
