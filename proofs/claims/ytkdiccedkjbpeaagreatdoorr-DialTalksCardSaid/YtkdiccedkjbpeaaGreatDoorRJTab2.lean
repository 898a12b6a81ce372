/-
  Several texts joined in one file: each says at its own head, below, what it proves, and its conditions.
-/
import Derived.Laws.ResultCell
import Derived.Test.YtkdiccedkjbpeaaGreatDoorRJMem
import Derived.Test.YtkdiccedkjbpeaaGreatDoorRJTab1
/-
  table.takeField: if the closure of a value answers as PTab's val for every text that is no longer, takeField answers the field that bytes begin with.
-/
namespace Go.Proofs.YtkdiccedkjbpeaaGreatDoorR
open Go.RowKit Go.Maps

def noItem : Item := ⟨⟨#[]⟩, ⟨#[]⟩, 0⟩
/-- the field that bytes begin with, the rest, the error -/
def fieldOf (s : ByteArray) (room : Int) : Item × ByteArray × Int :=
  if ttOk 1 s = true then
    if (val (ttR 1 s) room).err = 0 then (⟨ttA 1 s, front (ttR 1 s) (val (ttR 1 s) room).rest, (val (ttR 1 s) room).deep⟩, (val (ttR 1 s) room).rest, 0)
    else (noItem, ⟨#[]⟩, (val (ttR 1 s) room).err)
  else (noItem, ⟨#[]⟩, 2)
/-- a field as it stands in memory -/
def encF (i : Item) : Value := .agg #[.string i.key, .string i.value, .int .i64 i.deep]

/-- a field's three cells in a block of their own -/
def Box3 (W : World) (B : Nat) (a b c : Value) : Prop := W.heap[B]? = some (.cells #[a, b, c] 171 (0, 0))
theorem Box3.lt {W : World} {B : Nat} {a b c : Value} (h : Box3 W B a b c) : B < W.heap.size := (Array.getElem?_eq_some_iff.1 h).1
theorem Box3.cells {W : World} {B : Nat} {a b c : Value} (h : Box3 W B a b c) : W.cell? ⟨B, 0, none⟩ = some a ∧ W.cell? ⟨B, 1, none⟩ = some b ∧ W.cell? ⟨B, 2, none⟩ = some c := by
  simp [World.cell?, show W.heap[B]? = _ from h]
theorem Box3.frozen {W : World} {B : Nat} {a b c : Value} (h : Box3 W B a b c) : W.frozen? ⟨B, 0, none⟩ = false ∧ W.frozen? ⟨B, 1, none⟩ = false ∧ W.frozen? ⟨B, 2, none⟩ = false := by
  simp [World.frozen?, show W.heap[B]? = _ from h]
theorem Box3.new (W : World) (a b c : Value) : Box3 (W.alloc (.cells #[a, b, c] 171)) W.heap.size a b c := World.alloc_heap_new W _
theorem Box3.below {W W' : World} {n B : Nat} {a b c : Value} (h : Box3 W B a b c) (hb : Below n W W') (hn : B < n) : Box3 W' B a b c := (hb.block B hn).trans h
theorem Box3.set0 {W : World} {B : Nat} {a b c : Value} (v : Value) (h : Box3 W B a b c) : Box3 (W.setCell ⟨B, 0, none⟩ v) B v b c := by
  obtain ⟨hlt, hk⟩ := Array.getElem?_eq_some_iff.1 h
  show (W.heap.modify B _)[B]? = _
  rw [Array.getElem?_eq_getElem (by rw [Array.size_modify]; exact hlt), Array.getElem_modify_self, hk]
  rfl
theorem Box3.set1 {W : World} {B : Nat} {a b c : Value} (v : Value) (h : Box3 W B a b c) : Box3 (W.setCell ⟨B, 1, none⟩ v) B a v c := by
  obtain ⟨hlt, hk⟩ := Array.getElem?_eq_some_iff.1 h
  show (W.heap.modify B _)[B]? = _
  rw [Array.getElem?_eq_getElem (by rw [Array.size_modify]; exact hlt), Array.getElem_modify_self, hk]
  rfl
theorem Box3.set2 {W : World} {B : Nat} {a b c : Value} (v : Value) (h : Box3 W B a b c) : Box3 (W.setCell ⟨B, 2, none⟩ v) B a b v := by
  obtain ⟨hlt, hk⟩ := Array.getElem?_eq_some_iff.1 h
  show (W.heap.modify B _)[B]? = _
  rw [Array.getElem?_eq_getElem (by rw [Array.size_modify]; exact hlt), Array.getElem_modify_self, hk]
  rfl
/-- what a store of a whole field asks for, cell by cell -/
theorem Box3.store {W : World} {B : Nat} {a b c : Value} (h : Box3 W B a b c) (a' b' c' : Value) :
    W.cell? ⟨B, 0, none⟩ = some a ∧ W.frozen? ⟨B, 0, none⟩ = false ∧
    (W.setCell ⟨B, 0, none⟩ a').cell? ⟨B, 1, none⟩ = some b ∧ (W.setCell ⟨B, 0, none⟩ a').frozen? ⟨B, 1, none⟩ = false ∧
    ((W.setCell ⟨B, 0, none⟩ a').setCell ⟨B, 1, none⟩ b').cell? ⟨B, 2, none⟩ = some c ∧ ((W.setCell ⟨B, 0, none⟩ a').setCell ⟨B, 1, none⟩ b').frozen? ⟨B, 2, none⟩ = false ∧
    Box3 (((W.setCell ⟨B, 0, none⟩ a').setCell ⟨B, 1, none⟩ b').setCell ⟨B, 2, none⟩ c') B a' b' c' :=
  ⟨h.cells.1, h.frozen.1, (h.set0 a').cells.2.1, (h.set0 a').frozen.2.1, ((h.set0 a').set1 b').cells.2.2, ((h.set0 a').set1 b').frozen.2.2, ((h.set0 a').set1 b').set2 c'⟩
theorem below_store {n B : Nat} {w W : World} (h : Below n w W) (hn : n ≤ B) (a b c : Value) : Below n w (((W.setCell ⟨B, 0, none⟩ a).setCell ⟨B, 1, none⟩ b).setCell ⟨B, 2, none⟩ c) :=
  ((h.setCell (p := ⟨B, 0, none⟩) hn a).setCell (p := ⟨B, 1, none⟩) hn b).setCell (p := ⟨B, 2, none⟩) hn c

set_option maxRecDepth 100000 in
set_option maxHeartbeats 1000000 in
theorem takeField_of (n : Nat) (hv : ValC n) (s : ByteArray) (room : Int) (w : World) (M B : Nat) (hn : s.size ≤ n) (hs : s.size < 4611686018427387904) (h0 : 0 ≤ room) (h32 : room ≤ 32) (tk : Tk w M B) :
    Calls Tryz.prog 136 #[.string s, .int .i64 room, .func (.func 130) #[] #[.pointer (some ⟨B, 0, none⟩), .pointer (some ⟨B + 2, 0, none⟩), .pointer (some ⟨B + 3, 0, none⟩)]] w fun e w' => e = .returned (.tuple #[encF (fieldOf s room).1, .string (fieldOf s room).2.1, .int .i64 (fieldOf s room).2.2]) ∧ Below w.heap.size w w' := by
  have hle := ttR_le 1 s
  have x0 := Box3.new w (.string ⟨#[]⟩) (.string ⟨#[]⟩) (.int .i64 0)
  have hb0 : Below w.heap.size w (w.alloc (.cells #[.string ⟨#[]⟩, .string ⟨#[]⟩, .int .i64 0] 171)) := (Below.refl _ _).alloc (Nat.le_refl _) _
  go_enter Tryz.func136, Tryz.ntmps136
  go_wp2_with fail
  refine (takeShort_any s _ (tk.wid.below hb0) hs).mono ?_
  rintro e w1 ⟨rfl, hb⟩
  have x1 := x0.below hb x0.lt
  have hb1 := hb0.trans (hb.mono hb0.size)
  have tk1 := tk.below hb1
  clear x0 hb hb0 tk
  cases hok : ttOk 1 s
  · obtain ⟨t1, -⟩ := ttE_not hok
    have H := Lib.hid (show fieldOf s room = (noItem, ⟨#[]⟩, ttE 1 s) by rw [ttE_one hok]; simp [fieldOf, hok])
    clear hok
    generalize ttA 1 s = a
    generalize ttR 1 s = b at hle ⊢
    generalize ttE 1 s = x at t1 H ⊢
    obtain ⟨c0, f0, c1, f1, c2, f2, x2⟩ := x1.store (.string ⟨#[]⟩) (.string ⟨#[]⟩) (.int .i64 0)
    obtain ⟨d0, d1, d2⟩ := x2.cells
    have hb2 := below_store hb1 (Nat.le_refl _) (.string ⟨#[]⟩) (.string ⟨#[]⟩) (.int .i64 0)
    clear x1 x2 hb1
    go_wp2
    refine bodyPost_ret (v := .tuple #[encF noItem, .string ⟨#[]⟩, .int .i64 x]) ?_ rfl ⟨by rw [H.out], hb2⟩
    rw [results_ctt rfl]
    simp [asAddr, Result.andThen, go_sem, d0, d1, d2]
    rfl
  · rw [ttE_of hok]
    have HN := Lib.hid (show (val (ttR 1 s) room).err = 0 → fieldOf s room = (⟨ttA 1 s, front (ttR 1 s) (val (ttR 1 s) room).rest, (val (ttR 1 s) room).deep⟩, (val (ttR 1 s) room).rest, 0) by intro h; simp [fieldOf, hok, h])
    have HE := Lib.hid (show (val (ttR 1 s) room).err ≠ 0 → fieldOf s room = (noItem, ⟨#[]⟩, (val (ttR 1 s) room).err) by intro h; simp [fieldOf, hok, h])
    clear hok
    generalize ttA 1 s = a at HN ⊢
    generalize ttR 1 s = b at hle HN HE ⊢
    go_wp2_with fail
    refine (hv b room w1 M B (by omega) (by omega) h0 h32 tk1).mono ?_
    rintro e w2 ⟨rfl, hb2⟩
    have x2 := x1.below hb2 x1.lt
    have hb3 := hb1.trans (hb2.mono hb1.size)
    clear x1 hb1 hb2 tk1
    by_cases he : (val b room).err = 0
    · have H := Lib.hid (HN.out he)
      have hlt := val_rest he
      rw [he]
      clear he HN HE
      generalize (val b room).deep = d at H ⊢
      generalize (val b room).rest = r at H hlt ⊢
      go_wp2_with fail
      refine (front_any b r w2 (by omega) (by omega)).mono ?_
      rintro e w3 ⟨rfl, rfl⟩
      generalize front b r = fr at H ⊢
      obtain ⟨c0, f0, c1, f1, c2, f2, x3⟩ := x2.store (.string a) (.string fr) (.int .i64 d)
      obtain ⟨d0, d1, d2⟩ := x3.cells
      have hb4 := below_store hb3 (Nat.le_refl _) (.string a) (.string fr) (.int .i64 d)
      clear x2 x3 hb3
      go_wp2
      refine bodyPost_ret (v := .tuple #[encF ⟨a, fr, d⟩, .string r, .int .i64 0]) ?_ rfl ⟨by rw [H.out], hb4⟩
      rw [results_ctt rfl]
      simp [asAddr, Result.andThen, go_sem, d0, d1, d2]
      rfl
    · have H := Lib.hid (HE.out he)
      have t1 : ((val b room).err != 0) = true := by simpa using he
      clear he HN HE
      generalize (val b room).deep = d at H ⊢
      generalize (val b room).rest = r at H ⊢
      generalize (val b room).err = x at H t1 ⊢
      obtain ⟨c0, f0, c1, f1, c2, f2, x3⟩ := x2.store (.string ⟨#[]⟩) (.string ⟨#[]⟩) (.int .i64 0)
      obtain ⟨d0, d1, d2⟩ := x3.cells
      have hb4 := below_store hb3 (Nat.le_refl _) (.string ⟨#[]⟩) (.string ⟨#[]⟩) (.int .i64 0)
      clear x2 x3 hb3
      go_wp2
      refine bodyPost_ret (v := .tuple #[encF noItem, .string ⟨#[]⟩, .int .i64 x]) ?_ rfl ⟨by rw [H.out], hb4⟩
      rw [results_ctt rfl]
      simp [asAddr, Result.andThen, go_sem, d0, d1, d2]
      rfl
end Go.Proofs.YtkdiccedkjbpeaaGreatDoorR

/-
  table.fields makes an iterator; what it gives, and in which order: the right fields, then, if one isn't, its error.
-/
namespace Go.Proofs.YtkdiccedkjbpeaaGreatDoorR
open Go.RowKit Go.Maps Go.Shelf
attribute [local go_sem] Oper.semAt_some

/-- what a round is handed: a field and an error -/
abbrev FE := Item × Int
def encFE (x : FE) : Array Value := #[.agg #[.string x.1.key, .string x.1.value, .int .i64 x.1.deep], .int .i64 x.2]
/-- all that the iterator gives -/
def seqOf (b : ByteArray) (room : Int) : List FE := (items true b room).1.map (fun i => (i, (0 : Int))) ++ (if (items true b room).2 = 0 then [] else [(noItem, (items true b room).2)])

theorem seqOf_nil {b : ByteArray} (room : Int) (h : b.size = 0) : seqOf b room = [] := by simp [seqOf, items_nil true room h]
theorem seqOf_go {b : ByteArray} {room : Int} (h : b.size ≠ 0) (he : (fieldOf b room).2.2 = 0) : seqOf b room = ((fieldOf b room).1, 0) :: seqOf (fieldOf b room).2.1 room ∧ (fieldOf b room).2.1.size < b.size := by
  unfold fieldOf at he ⊢
  by_cases hk : ttOk 1 b = true
  · rw [if_pos hk] at he ⊢
    by_cases hv : (val (ttR 1 b) room).err = 0
    · rw [if_pos hv] at he ⊢
      have h1 := val_rest hv
      have h2 := ttR_le 1 b
      refine ⟨?_, by simp only; omega⟩
      have e := items_go true (b := b) (room := room) h (by simp [hk]) hv
      rw [behindKey_true] at e
      unfold seqOf
      rw [e]
      rfl
    · rw [if_neg hv] at he
      exact absurd he hv
  · rw [if_neg hk] at he
    cases he
theorem seqOf_bad {b : ByteArray} {room : Int} (h : b.size ≠ 0) (he : (fieldOf b room).2.2 ≠ 0) : seqOf b room = [((fieldOf b room).1, (fieldOf b room).2.2)] := by
  unfold fieldOf at he ⊢
  by_cases hk : ttOk 1 b = true
  · rw [if_pos hk] at he ⊢
    by_cases hv : (val (ttR 1 b) room).err = 0
    · rw [if_pos hv] at he
      exact absurd rfl he
    · rw [if_neg hv] at he ⊢
      have e := items_err true (b := b) (room := room) h (by simp [hk]) hv
      rw [behindKey_true] at e
      unfold seqOf
      rw [e]
      simp only at he ⊢
      rw [if_neg hv]
      rfl
  · rw [if_neg hk]
    have hk2 : ttOk 1 b = false := by simpa using hk
    unfold seqOf
    rw [items_key b room h hk2, ttE_one hk2]
    rfl

/-- what a round keeps: whatever lay below n0, and the iterator's two boxes -/
def KeepI (n0 Br Bf : Nat) (W W' : World) : Prop := Below n0 W W' ∧ (∀ v, Boxed W Br 3 v → Boxed W' Br 3 v) ∧ (∀ v, Boxed W Bf 158 v → Boxed W' Bf 158 v)
theorem KeepI.refl (n0 Br Bf : Nat) (W : World) : KeepI n0 Br Bf W W := ⟨Below.refl _ _, fun _ h => h, fun _ h => h⟩
theorem keepI_t {n0 Br Bf : Nat} {A B C : World} (h : KeepI n0 Br Bf A B) (k : KeepI n0 Br Bf B C) : KeepI n0 Br Bf A C := ⟨h.1.trans k.1, fun v hv => k.2.1 v (h.2.1 v hv), fun v hv => k.2.2 v (h.2.2 v hv)⟩
theorem keepI_b {n0 Br Bf : Nat} {w : World} (hn : n0 ≤ w.heap.size) (W : World) (l : Nat) (o o' : Obj) (hl : w.heap.size ≤ l) (h : W.heap[l]? = some o) (hc : o.isCells = false) (hw : o.isWalk = false) : KeepI n0 Br Bf W (W.putObj l o') :=
  ⟨belowK_b hn W l o o' hl h hc hw, fun _ hv => boxed_putObj o' h hc hv, fun _ hv => boxed_putObj o' h hc hv⟩

theorem Box3.alloc {W : World} {B : Nat} {a b c : Value} (h : Box3 W B a b c) (o : Obj) : Box3 (W.alloc o) B a b c := h.below ((Below.refl _ _).alloc (Nat.le_refl _) _) h.lt

set_option maxRecDepth 100000 in
set_option maxHeartbeats 2000000 in
theorem fields1_in (n : Nat) (hv : ValC n) (w0 : World) (M B : Nat) (tk : Tk w0 M B) (l Bs Br Bf : Nat) (body : ByteArray) (room : Int) (hbn : body.size ≤ n) (hs : body.size < 4611686018427387904) (h0 : 0 ≤ room) (h32 : room ≤ 32) (J Jx : List FE → World → Prop)
    (hJ : ∀ pre W W', J pre W → Below W.heap.size W W' → J pre W')
    (hY : ∀ pre x W, J pre W → pre.length < (seqOf body room).length → YieldAt Fence.wide 2 Tryz.prog l (encFE x) W fun e W' =>
      (e = .returned (.bool true) ∧ J (pre ++ [x]) W' ∧ KeepI w0.heap.size Br Bf W W') ∨ (e = .returned (.bool false) ∧ Jx (pre ++ [x]) W'))
    (W : World) (hbs : Boxed W Bs 9 (.string body)) (hbr : Boxed W Br 3 (.int .i64 room))
    (hbf : Boxed W Bf 158 (.func (.func 130) #[] #[.pointer (some ⟨B, 0, none⟩), .pointer (some ⟨B + 2, 0, none⟩), .pointer (some ⟨B + 3, 0, none⟩)]))
    (hW0 : Below w0.heap.size w0 W) (hJ0 : J [] W) :
    CallsIn Fence.wide 3 Tryz.prog 135 #[.func (.yield l) #[] #[], .pointer (some ⟨Bs, 0, none⟩), .pointer (some ⟨Br, 0, none⟩), .pointer (some ⟨Bf, 0, none⟩)] W fun e W' => (∃ v, e = .returned v) ∧
      ((∃ ys, ys = seqOf body room ∧ J ys W') ∨ (∃ pre, pre <+: seqOf body room ∧ Jx pre W')) := by
  have hcs := hbs.cell
  refine callsIn_of_wp Tryz.func135 rfl trivial ?_ rfl
  simp only [Tryz.ntmps135, List.size_toArray, List.length_cons, List.length_nil, Nat.reduceAdd, Nat.reduceSub, Array.replicate_succ, Array.replicate_zero, List.push_toArray, List.append_toArray, List.nil_append, List.cons_append]
  gi_wp2
  clear hcs
  gi_loopw [5] (fun p wr => ∃ (pre : List FE) (r : ByteArray), p = .string r ∧ r.size ≤ body.size ∧ Hid (seqOf body room = pre ++ seqOf r room) ∧ Boxed wr Br 3 (.int .i64 room) ∧ Boxed wr Bf 158 (.func (.func 130) #[] #[.pointer (some ⟨B, 0, none⟩), .pointer (some ⟨B + 2, 0, none⟩), .pointer (some ⟨B + 3, 0, none⟩)]) ∧ Below w0.heap.size w0 wr ∧ J pre wr)
    (fun p _ => tabLen p)
  case atStart =>
    exact ⟨[], body, rfl, Nat.le_refl _, Lib.hid rfl, hbr, hbf, hW0, hJ0⟩
  case round =>
    obtain ⟨pre, r, rfl, hle, HX, bR, bF, hWr, hJs⟩ := hrel
    by_cases hz : r.size = 0
    · obtain rfl := ba_nil hz
      gi_wp2
      go_end0
      exact ⟨⟨_, rfl⟩, .inl ⟨pre, by rw [HX.out, seqOf_nil room rfl, List.append_nil], hJs⟩⟩
    · have tne := ba_ne hz
      have cR := bR.cell
      have cF := bF.cell
      gi_wp2_with fail
      refine ⟨trivial, (callsIn_wide.2 (takeField_of n hv r room wr M B (by omega) (by omega) h0 h32 (tk.below hWr))).mono ?_⟩
      rintro e w2 ⟨rfl, hb2⟩
      have hWr2 := hWr.trans (hb2.mono hWr.size)
      have bR2 := boxed_below bR hb2 bR.lt
      have bF2 := boxed_below bF hb2 bF.lt
      have hJ2 := hJ pre wr w2 hJs hb2
      clear cR cF bR bF hJs hb2
      have HG := Lib.hid (fun he => seqOf_go (b := r) (room := room) hz he)
      have HB := Lib.hid (fun he => seqOf_bad (b := r) (room := room) hz he)
      generalize fieldOf r room = fo at HG HB ⊢
      obtain ⟨⟨k, v, d⟩, y, x⟩ := fo
      unfold encF
      have hJ3 := hJ pre w2 _ hJ2 ((Below.refl _ _).alloc (Nat.le_refl _) (.cells #[.string k, .string v, .int .i64 d] 171))
      have bR3 := bR2.alloc (.cells #[.string k, .string v, .int .i64 d] 171)
      have bF3 := bF2.alloc (.cells #[.string k, .string v, .int .i64 d] 171)
      have hWr3 := hWr2.alloc hWr2.size (.cells #[.string k, .string v, .int .i64 d] 171)
      by_cases he : x = 0
      · subst he
        obtain ⟨hq, hlt⟩ := HG.out rfl
        have hseq : seqOf body room = (pre ++ [(⟨k, v, d⟩, 0)]) ++ seqOf y room := by rw [HX.out, hq]; simp
        obtain ⟨fn, tmps, assign, body', hy, hR⟩ := hY pre (⟨k, v, d⟩, 0) _ hJ3 (by rw [hseq]; simp)
        have HS := Lib.hid hseq
        dsimp only [encFE] at hy
        clear HG HB hq hseq HX
        gi_wp2
        refine hR.mono ?_
        rintro e W3 (⟨rfl, hJ3, hk3⟩ | ⟨rfl, hJx3⟩)
        · gi_wp2
          go_roundw
          case rel => exact ⟨pre ++ [(⟨k, v, d⟩, 0)], y, rfl, by omega, HS, hk3.2.1 _ bR3, hk3.2.2 _ bF3, hWr3.trans hk3.1, hJ3⟩
          case measure => simp only [tabLen]; omega
        · gi_wp2
          refine bodyPost_ret (results_none rfl _ _ _) rfl ?_
          exact ⟨⟨_, rfl⟩, .inr ⟨pre ++ [(⟨k, v, d⟩, 0)], ⟨seqOf y room, HS.out.symm⟩, hJx3⟩⟩
      · have hq := HB.out he
        have hseq : seqOf body room = pre ++ [(⟨k, v, d⟩, x)] := by rw [HX.out, hq]
        obtain ⟨fn, tmps, assign, body', hy, hR⟩ := hY pre (⟨k, v, d⟩, x) _ hJ3 (by rw [hseq]; simp)
        have t1 : (x != 0) = true := by simpa using he
        have HS := Lib.hid hseq
        dsimp only [encFE] at hy
        clear HG HB hq hseq HX he
        gi_wp2
        refine hR.mono ?_
        rintro e W3 (⟨rfl, hJ3, hk3⟩ | ⟨rfl, hJx3⟩)
        · gi_wp2
          refine bodyPost_ret (results_none rfl _ _ _) rfl ?_
          exact ⟨⟨_, rfl⟩, .inl ⟨pre ++ [(⟨k, v, d⟩, x)], HS.out.symm, hJ3⟩⟩
        · gi_wp2
          refine bodyPost_ret (results_none rfl _ _ _) rfl ?_
          exact ⟨⟨_, rfl⟩, .inr ⟨pre ++ [(⟨k, v, d⟩, x)], ⟨[], by rw [HS.out]; simp⟩, hJx3⟩⟩
end Go.Proofs.YtkdiccedkjbpeaaGreatDoorR

/-
  The closure of a table: if the closure of a value answers as PTab's val for every text that is shorter, that of a table answers as nest true.
-/
namespace Go.Proofs.YtkdiccedkjbpeaaGreatDoorR
open Go.RowKit Go.Maps Go.Shelf
attribute [local go_sem] Oper.semAt_some

theorem fields_in (s : ByteArray) (room : Int) (f : Fn) (a c : Array Value) (w : World) :
    CallsIn Fence.wide 3 Tryz.prog 129 #[.string s, .int .i64 room, .func f a c] w fun e w' => e = .returned (.func (.func 135) #[] #[.pointer (some ⟨w.heap.size, 0, none⟩), .pointer (some ⟨w.heap.size + 1, 0, none⟩), .pointer (some ⟨w.heap.size + 1 + 1, 0, none⟩)]) ∧ w' = ((w.alloc (.cells #[.string s] 9)).alloc (.cells #[.int .i64 room] 3)).alloc (.cells #[.func f a c] 158) := by
  have hmf : ∀ (p q r : Value) (w : World), (Instr.makeFunc (.func 135) #[] #[p, q, r]).run Tryz.prog w = .ok (.func (.func 135) #[] #[p, q, r]) w := fun _ _ _ _ => by kernel_rfl
  refine callsIn_of_wp Tryz.func129 rfl trivial ?_ rfl
  simp only [Tryz.ntmps129, List.size_toArray, List.length_cons, List.length_nil, Nat.reduceAdd, Nat.reduceSub, Array.replicate_succ, Array.replicate_zero, List.push_toArray, List.append_toArray, List.nil_append, List.cons_append]
  gi_wp2
  go_ret
  exact ⟨rfl, rfl⟩

theorem box3_grown {A A' : World} {row : Option Nat} {n B : Nat} {a b c : Value} (h : Box3 A B a b c) (hg : A.grownBy A' row) (hr : ∀ r, row = some r → n ≤ r ∧ ∃ o : Obj, A.heap[r]? = some o ∧ o.isCells = false) : Box3 A' B a b c :=
  (hg.block B h.lt (fun e => by obtain ⟨-, o, ho, hc⟩ := hr B e.symm; rw [show A.heap[B]? = _ from h] at ho; cases ho; cases hc)).trans h
/-- no error so far; a round that was left with one -/
def AllZero (pre : List FE) : Prop := ∀ x ∈ pre, x.2 = 0
def LeftAt (W : World) (R : Nat) (pre : List FE) : Prop := ∃ p x, pre = p ++ [x] ∧ x.2 ≠ 0 ∧ Boxed W R 29 (.int .i64 (wErr x.2))
theorem seqOf_ok {b : ByteArray} {room : Int} (h : ∀ x ∈ seqOf b room, x.2 = 0) : (items true b room).2 = 0 ∧ (seqOf b room).map Prod.fst = (items true b room).1 := by
  have h1 : (items true b room).2 = 0 := by
    by_cases he : (items true b room).2 = 0
    · exact he
    · have := h (noItem, (items true b room).2) (by rw [seqOf, if_neg he]; simp)
      exact this
  refine ⟨h1, ?_⟩
  rw [seqOf, if_pos h1, List.append_nil, List.map_map]
  exact List.map_id _
theorem seqOf_err {b : ByteArray} {room : Int} {x : FE} (h : x ∈ seqOf b room) (hx : x.2 ≠ 0) : (items true b room).2 = x.2 := by
  rw [seqOf, List.mem_append] at h
  rcases h with h | h
  · obtain ⟨i, -, rfl⟩ := List.mem_map.1 h
    exact absurd rfl hx
  · by_cases he : (items true b room).2 = 0
    · rw [if_pos he] at h; cases h
    · rw [if_neg he] at h
      have := List.mem_singleton.1 h
      rw [this]

set_option maxRecDepth 100000 in
set_option maxHeartbeats 2000000 in
theorem table_of (n : Nat) (hv : ValC n) (t : ByteArray) (room : Int) (w : World) (M B : Nat) (hn : t.size ≤ n) (hs : t.size < 4611686018427387904) (h0 : 0 ≤ room) (h32 : room ≤ 32) (tk : Tk w M B) :
    Calls Tryz.prog 128 #[.string t, .int .i64 room, .pointer (some ⟨B + 1, 0, none⟩)] w fun e w' => e = .returned (.tuple #[.int .i64 (nest true t room).deep, .string (nest true t room).rest, .int .i64 (nest true t room).err]) ∧ Below w.heap.size w w' := by
  refine (callsIn_wide (n := 4)).1 ?_
  have bA : Below w.heap.size w (((w.alloc (.cells #[.int .i64 0] 3)).alloc (.cells #[.string ⟨#[]⟩] 9)).alloc (.cells #[.int .i64 0] 29)) := (((Below.refl _ w).alloc (Nat.le_refl _) _).alloc (by simp) _).alloc (by simp; omega) _
  refine callsIn_of_wp_marks Tryz.func128 rfl trivial ?_ rfl
  simp only [Tryz.ntmps128, List.size_toArray, List.length_cons, List.length_nil, Nat.reduceAdd, Nat.reduceSub, Array.replicate_succ, Array.replicate_zero, List.push_toArray, List.append_toArray, List.nil_append, List.cons_append]
  gi_wp2_with fail
  refine ⟨trivial, (callsIn_wide.2 (enter_any t room _ (tk.wid.below bA) hs)).mono ?_⟩
  rintro e w1 ⟨rfl, hb⟩
  have r1 : Boxed w1 w.heap.size 3 (.int .i64 0) := boxed_below (((Boxed.new w _ _).alloc _).alloc _) hb (by simp; omega)
  have r2 : Boxed w1 (w.heap.size + 1) 9 (.string ⟨#[]⟩) := by
    have h := (Boxed.new (w.alloc (.cells #[.int .i64 0] 3)) 9 (.string ⟨#[]⟩)).alloc (.cells #[.int .i64 0] 29)
    rw [World.size_alloc] at h
    exact boxed_below h hb h.lt
  have r3 : Boxed w1 (w.heap.size + 1 + 1) 29 (.int .i64 0) := by
    have h := Boxed.new ((w.alloc (.cells #[.int .i64 0] 3)).alloc (.cells #[.string ⟨#[]⟩] 9)) 29 (.int .i64 0)
    rw [World.size_alloc, World.size_alloc] at h
    exact boxed_below h hb h.lt
  have hb1 : Below w.heap.size w w1 := bA.trans (hb.mono bA.size)
  have tk1 := tk.below hb1
  clear hb bA
  cases hok : enOk t room
  · obtain ⟨t1, h2⟩ := enOk_not hok
    have H := Lib.hid (h2 true)
    clear hok h2
    generalize enA t room = a
    generalize enB t room = b
    generalize enE t room = x at t1 H ⊢
    have c1 := r1.cell
    have f1 := r1.frozen
    have s1 := r1.set (.int .i64 0)
    have k2 := r2.other (B' := w.heap.size) (by omega) (.int .i64 0)
    have c2 := k2.cell
    have f2 := k2.frozen
    have s2 := k2.set (.string ⟨#[]⟩)
    have k3 := (r3.other (B' := w.heap.size) (by omega) (.int .i64 0)).other (B' := w.heap.size + 1) (by omega) (.string ⟨#[]⟩)
    have c3 := k3.cell
    have f3 := k3.frozen
    have s3 := k3.set (.int .i64 x)
    have d1 := ((s1.other (B' := w.heap.size + 1) (by omega) (.string ⟨#[]⟩)).other (B' := w.heap.size + 1 + 1) (by omega) (.int .i64 x)).cell
    have d2 := (s2.other (B' := w.heap.size + 1 + 1) (by omega) (.int .i64 x)).cell
    have d3 := s3.cell
    have hb2 := ((hb1.setCell (p := ⟨w.heap.size, 0, none⟩) (Nat.le_refl _) (.int .i64 0)).setCell (p := ⟨w.heap.size + 1, 0, none⟩) (by simp) (.string ⟨#[]⟩)).setCell (p := ⟨w.heap.size + 1 + 1, 0, none⟩) (by simp; omega) (.int .i64 x)
    clear r1 r2 r3 k2 k3 s1 s2 s3 tk1 hb1
    gi_wp2
    refine ⟨.tuple #[.int .i64 0, .string ⟨#[]⟩, .int .i64 x], ?_, by rw [H.out], hb2⟩
    rw [results_ccc rfl]
    simp [asAddr, Result.andThen, go_sem, d1, d2, d3]
  · obtain ⟨e1, e2, e3, -, hr⟩ := enOk_of hok
    have HG := Lib.hid (fun h => nest_ok (kf := true) hok h)
    have HB := Lib.hid (fun h => nest_bad (kf := true) hok h)
    have hle := ttA_le 4 t
    rw [e1, e2, e3]
    clear e1 e2 e3 hok
    generalize ttA 4 t = body at HG HB hle ⊢
    generalize ttR 4 t = rest at HG ⊢
    have cv := (tk1.bv.alloc (.cells #[.int .i64 0] 3)).cell
    gi_wp2_with fail
    refine ⟨trivial, (fields_in _ _ _ _ _ _).mono ?_⟩
    rintro e w2 ⟨rfl, rfl⟩
    gi_wp2
    clear cv
    have hb1s := hb1.size
    obtain ⟨W0, hW0⟩ : ∃ W0, (((w1.alloc (.cells #[.int .i64 0] 3)).alloc (.cells #[.string body] 9)).alloc (.cells #[.int .i64 (room - 1)] 3)).alloc (.cells #[.func (.func 130) #[] #[.pointer (some ⟨B, 0, none⟩), .pointer (some ⟨B + 2, 0, none⟩), .pointer (some ⟨B + 3, 0, none⟩)]] 158) = W0 := ⟨_, rfl⟩
    have q1 : Boxed W0 w.heap.size 3 (.int .i64 0) := by rw [← hW0]; exact (((r1.alloc _).alloc _).alloc _).alloc _
    have q2 : Boxed W0 (w.heap.size + 1) 9 (.string ⟨#[]⟩) := by rw [← hW0]; exact (((r2.alloc _).alloc _).alloc _).alloc _
    have q3 : Boxed W0 (w.heap.size + 1 + 1) 29 (.int .i64 0) := by rw [← hW0]; exact (((r3.alloc _).alloc _).alloc _).alloc _
    have r3lt := r3.lt
    have qD : Boxed W0 w1.heap.size 3 (.int .i64 0) := by rw [← hW0]; exact (((Boxed.new w1 _ _).alloc _).alloc _).alloc _
    have bS : Boxed W0 (w1.heap.size + 1) 9 (.string body) := by
      have h := ((Boxed.new (w1.alloc (.cells #[.int .i64 0] 3)) 9 (.string body)).alloc (.cells #[.int .i64 (room - 1)] 3)).alloc (.cells #[.func (.func 130) #[] #[.pointer (some ⟨B, 0, none⟩), .pointer (some ⟨B + 2, 0, none⟩), .pointer (some ⟨B + 3, 0, none⟩)]] 158)
      rw [World.size_alloc] at h
      rw [← hW0]; exact h
    have bR : Boxed W0 (w1.heap.size + 1 + 1) 3 (.int .i64 (room - 1)) := by
      have h := (Boxed.new ((w1.alloc (.cells #[.int .i64 0] 3)).alloc (.cells #[.string body] 9)) 3 (.int .i64 (room - 1))).alloc (.cells #[.func (.func 130) #[] #[.pointer (some ⟨B, 0, none⟩), .pointer (some ⟨B + 2, 0, none⟩), .pointer (some ⟨B + 3, 0, none⟩)]] 158)
      rw [World.size_alloc, World.size_alloc] at h
      rw [← hW0]; exact h
    have bF : Boxed W0 (w1.heap.size + 1 + 1 + 1) 158 (.func (.func 130) #[] #[.pointer (some ⟨B, 0, none⟩), .pointer (some ⟨B + 2, 0, none⟩), .pointer (some ⟨B + 3, 0, none⟩)]) := by
      have h := Boxed.new (((w1.alloc (.cells #[.int .i64 0] 3)).alloc (.cells #[.string body] 9)).alloc (.cells #[.int .i64 (room - 1)] 3)) 158 (.func (.func 130) #[] #[.pointer (some ⟨B, 0, none⟩), .pointer (some ⟨B + 2, 0, none⟩), .pointer (some ⟨B + 3, 0, none⟩)])
      rw [World.size_alloc, World.size_alloc, World.size_alloc] at h
      rw [← hW0]; exact h
    have hB0 : Below w.heap.size w W0 := by rw [← hW0]; exact (((hb1.alloc hb1s _).alloc (by simp; omega) _).alloc (by simp; omega) _).alloc (by simp; omega) _
    have hsz : W0.heap.size = w1.heap.size + 4 := by rw [← hW0]; simp
    rw [hW0]
    clear hW0 r1 r2 r3 hb1 tk1
    refine wpIn_rangeFunc_ownH (α := FE) rfl (by decide) (gf := 135) (lb := #[.pointer (some ⟨w1.heap.size + 1, 0, none⟩), .pointer (some ⟨w1.heap.size + 1 + 1, 0, none⟩), .pointer (some ⟨w1.heap.size + 1 + 1 + 1, 0, none⟩)]) rfl trivial (enters_of Tryz.func135 (by kernel_rfl) rfl)
      (encs := encFE) (Kp := KeepI w.heap.size (w1.heap.size + 1 + 1) (w1.heap.size + 1 + 1 + 1)) (S := fun ys => ys = seqOf body (room - 1)) (Sp := fun pre => pre <+: seqOf body (room - 1)) (N := (seqOf body (room - 1)).length) (w0 := W0)
      (fun l J Jx W hW hJa _ hY h0' => fields1_in n hv w M B tk l (w1.heap.size + 1) (w1.heap.size + 1 + 1) (w1.heap.size + 1 + 1 + 1) body (room - 1) (by omega) (by omega) (by omega) (by omega) J Jx (fun pre A A' h hb => hJa pre A A' none h (grown_of_below hb none) (fun r e => by cases e)) hY W (boxed_below bS hW bS.lt) (boxed_below bR hW bR.lt) (boxed_below bF hW bF.lt) (hB0.trans (hW.mono hB0.size)) h0')
      keepI_t (keepI_b (by omega)) (Below.refl _ _) (fun _ => rfl)
      (fun pre W => (Boxed W w.heap.size 3 (.int .i64 0) ∧ Boxed W (w.heap.size + 1) 9 (.string ⟨#[]⟩) ∧ Boxed W (w.heap.size + 1 + 1) 29 (.int .i64 0) ∧ Boxed W w1.heap.size 3 (.int .i64 (deepest (pre.map Prod.fst)))) ∧ AllZero pre ∧ Below w.heap.size w W)
      (fun c pre W => c = .ret ∧ LeftAt W (w.heap.size + 1 + 1) pre ∧ (Boxed W w.heap.size 3 (.int .i64 0) ∧ Boxed W (w.heap.size + 1) 9 (.string ⟨#[]⟩)) ∧ Below w.heap.size w W)
      (fun s A A' row hs hg hr => ⟨⟨boxed_grown hs.1.1 hg hr, boxed_grown hs.1.2.1 hg hr, boxed_grown hs.1.2.2.1 hg hr, boxed_grown hs.1.2.2.2 hg hr⟩, hs.2.1, below_grown hs.2.2 (Nat.le_refl _) (by omega) hg hr⟩)
      (fun c s A A' row hs hg hr => ⟨hs.1, by obtain ⟨p, x, h1, h2, h3⟩ := hs.2.1; exact ⟨p, x, h1, h2, boxed_grown h3 hg hr⟩, ⟨boxed_grown hs.2.2.1.1 hg hr, boxed_grown hs.2.2.1.2 hg hr⟩, below_grown hs.2.2.2 (Nat.le_refl _) (by omega) hg hr⟩)
      ⟨⟨q1, q2, q3, qD⟩, (fun _ h => by cases h), hB0⟩
      (fun x a' W => ∃ Bx, Box3 W Bx (.string x.1.key) (.string x.1.value) (.int .i64 x.1.deep) ∧ a' = { tmps := #[.string t, .int .i64 room, .pointer (some ⟨B + 1, 0, none⟩), undef, undef, .pointer (some ⟨w.heap.size, 0, none⟩), .pointer (some ⟨w.heap.size + 1, 0, none⟩), .pointer (some ⟨w.heap.size + 1 + 1, 0, none⟩), .string body, .string rest, .int .i64 0, .pointer (some ⟨w1.heap.size, 0, none⟩), .pointer (some ⟨Bx, 0, none⟩), .int .i64 x.2, .tuple #[.string body, .string rest, .int .i64 0], .string t, .int .i64 room, .tuple #[.string body, .string rest, .int .i64 0], .string body, .string rest, .int .i64 0, .int .i64 0, .bool false, undef, .string body, .int .i64 room, .int .i64 (room - 1), .func (.func 130) #[] #[.pointer (some ⟨B, 0, none⟩), .pointer (some ⟨B + 2, 0, none⟩), .pointer (some ⟨B + 3, 0, none⟩)], .func (.func 135) #[] #[.pointer (some ⟨w1.heap.size + 1, 0, none⟩), .pointer (some ⟨w1.heap.size + 1 + 1, 0, none⟩), .pointer (some ⟨w1.heap.size + 1 + 1 + 1, 0, none⟩)], .agg #[.string x.1.key, .string x.1.value, .int .i64 x.1.deep], .int .i64 x.2, undef, undef, undef, undef, undef, undef, undef, undef, undef, undef, undef], defers := [] })
      (fun x a' _ A A' row hs hg hr => by obtain ⟨Bx, h2, h3⟩ := hs; exact ⟨Bx, box3_grown h2 hg hr, h3⟩)
      ?assign ?body ?done ?stop
    case assign =>
      rintro l pre x W K ⟨⟨i1, i2, i3, iD⟩, i4, iB⟩ hK
      unfold encFE
      gi_wp2
      exact hK _ _ ((KeepsOthers.alloc _ _).from _) ⟨(Below.refl _ W).alloc iB.size _, fun v h => h.alloc _, fun v h => h.alloc _⟩ ⟨⟨i1.alloc _, i2.alloc _, i3.alloc _, iD.alloc _⟩, i4, iB.alloc iB.size _⟩ ⟨W.heap.size, Box3.new W _ _ _, rfl⟩
    case body =>
      rintro l pre ⟨⟨k, v, d⟩, z⟩ a' W hl ⟨r, hr'⟩ ⟨⟨i1, i2, i3, iD⟩, i4, iB⟩ ⟨Bx, bX, rfl⟩ hlt
      dsimp only at bX ⊢
      obtain ⟨x0, x1, x2⟩ := bX.cells
      by_cases hz : z = 0
      · subst hz
        have cD := iD.cell
        have fD := iD.frozen
        have em : deepest ((pre ++ [((⟨k, v, d⟩ : Item), (0 : Int))]).map Prod.fst) = max (deepest (pre.map Prod.fst)) d := by
          rw [List.map_append, deepest_append]
          have := deepest_nonneg (pre.map Prod.fst)
          simp [deepest]
          omega
        have H := Lib.hid em
        clear em
        generalize deepest (pre.map Prod.fst) = m at iD cD fD H
        have hfin : ∀ u, u = max m d → KeepsFrom W0.heap.size W (W.setCell ⟨w1.heap.size, 0, none⟩ (.int .i64 u)) ∧ KeepI w.heap.size (w1.heap.size + 1 + 1) (w1.heap.size + 1 + 1 + 1) W (W.setCell ⟨w1.heap.size, 0, none⟩ (.int .i64 u)) ∧
            (Boxed (W.setCell ⟨w1.heap.size, 0, none⟩ (.int .i64 u)) w.heap.size 3 (.int .i64 0) ∧ Boxed (W.setCell ⟨w1.heap.size, 0, none⟩ (.int .i64 u)) (w.heap.size + 1) 9 (.string ⟨#[]⟩) ∧ Boxed (W.setCell ⟨w1.heap.size, 0, none⟩ (.int .i64 u)) (w.heap.size + 1 + 1) 29 (.int .i64 0) ∧ Boxed (W.setCell ⟨w1.heap.size, 0, none⟩ (.int .i64 u)) w1.heap.size 3 (.int .i64 (deepest ((pre ++ [((⟨k, v, d⟩ : Item), (0 : Int))]).map Prod.fst)))) ∧ AllZero (pre ++ [((⟨k, v, d⟩ : Item), (0 : Int))]) ∧ Below w.heap.size w (W.setCell ⟨w1.heap.size, 0, none⟩ (.int .i64 u)) := by
          intro u hu
          refine ⟨(KeepsOthers.setCell _ _ _).from _, ⟨(Below.refl _ W).setCell (p := ⟨w1.heap.size, 0, none⟩) hb1s _, fun v h => h.other (by omega) _, fun v h => h.other (by omega) _⟩, ⟨i1.other (by omega) _, i2.other (by omega) _, i3.other (by omega) _, ?_⟩, ?_, iB.setCell (p := ⟨w1.heap.size, 0, none⟩) hb1s _⟩
          · rw [H.out, ← hu]; exact iD.set _
          · intro x hx
            rcases List.mem_append.1 hx with h | h
            · exact i4 x h
            · rw [List.mem_singleton.1 h]
        have HF := Lib.hid hfin
        clear hfin H iD i1 i2 i3 bX hsz
        by_cases hm : d ≤ m
        · gi_wp2
          exact HF.out m (by omega)
        · gi_wp2
          exact HF.out d (by omega)
      · have t1 : (z != 0) = true := by simpa using hz
        gi_wp2_with fail
        refine ⟨trivial, (CallsIn.inRound l (callsIn_wide.2 (wErr_any z W))).mono ?_⟩
        rintro e w3 ⟨rfl, rfl⟩
        have c1 := i1.cell
        have f1 := i1.frozen
        have s1 := i1.set (.int .i64 0)
        have k2 := i2.other (B' := w.heap.size) (by omega) (.int .i64 0)
        have c2 := k2.cell
        have f2 := k2.frozen
        have s2 := k2.set (.string ⟨#[]⟩)
        have k3 := (i3.other (B' := w.heap.size) (by omega) (.int .i64 0)).other (B' := w.heap.size + 1) (by omega) (.string ⟨#[]⟩)
        have c3 := k3.cell
        have f3 := k3.frozen
        have s3 := k3.set (.int .i64 (wErr z))
        have d1 := (s1.other (B' := w.heap.size + 1) (by omega) (.string ⟨#[]⟩)).other (B' := w.heap.size + 1 + 1) (by omega) (.int .i64 (wErr z))
        have d2 := s2.other (B' := w.heap.size + 1 + 1) (by omega) (.int .i64 (wErr z))
        have hb2 := ((iB.setCell (p := ⟨w.heap.size, 0, none⟩) (Nat.le_refl _) (.int .i64 0)).setCell (p := ⟨w.heap.size + 1, 0, none⟩) (by simp) (.string ⟨#[]⟩)).setCell (p := ⟨w.heap.size + 1 + 1, 0, none⟩) (by simp; omega) (.int .i64 (wErr z))
        have HZ := Lib.hid hz
        clear i1 i2 i3 iD k2 k3 s1 s2 hz
        generalize hu : wErr z = u at s3 d1 d2 hb2 ⊢
        have HU := Lib.hid hu
        clear hu
        gi_wp2
        refine ⟨(((KeepsOthers.setCell _ _ _).trans (KeepsOthers.setCell _ _ _)).trans (KeepsOthers.setCell _ _ _)).from _, rfl, ⟨pre, _, rfl, HZ.out, ?_⟩, ⟨d1, d2⟩, hb2⟩
        show Boxed _ _ _ (.int .i64 (wErr z))
        rw [HU.out]
        exact s3
    case done =>
      rintro D ys W hD rfl ⟨⟨i1, i2, i3, iD⟩, i4, iB⟩ hK
      obtain ⟨g1, g2⟩ := seqOf_ok i4
      obtain ⟨g3, -⟩ := items_good true body (room - 1) g1
      have g4 := deepest_nonneg (items true body (room - 1)).1
      have H := Lib.hid (HG.out g1)
      rw [g2] at iD
      clear HG HB g1 g2 i4
      generalize deepest (items true body (room - 1)).1 = m at g3 g4 iD H
      have cD := iD.cell
      have c1 := i1.cell
      have f1 := i1.frozen
      have s1 := i1.set (.int .i64 (m + 1))
      have k2 := i2.other (B' := w.heap.size) (by omega) (.int .i64 (m + 1))
      have c2 := k2.cell
      have f2 := k2.frozen
      have s2 := k2.set (.string rest)
      have k3 := (i3.other (B' := w.heap.size) (by omega) (.int .i64 (m + 1))).other (B' := w.heap.size + 1) (by omega) (.string rest)
      have c3 := k3.cell
      have f3 := k3.frozen
      have s3 := k3.set (.int .i64 0)
      have d1 := (s1.other (B' := w.heap.size + 1) (by omega) (.string rest)).other (B' := w.heap.size + 1 + 1) (by omega) (.int .i64 0)
      have d2 := s2.other (B' := w.heap.size + 1 + 1) (by omega) (.int .i64 0)
      have hb2 := ((iB.setCell (p := ⟨w.heap.size, 0, none⟩) (Nat.le_refl _) (.int .i64 (m + 1))).setCell (p := ⟨w.heap.size + 1, 0, none⟩) (by simp) (.string rest)).setCell (p := ⟨w.heap.size + 1 + 1, 0, none⟩) (by simp; omega) (.int .i64 0)
      have hK' := (((KeepsOthers.setCell W ⟨w.heap.size, 0, none⟩ (.int .i64 (m + 1))).trans (KeepsOthers.setCell _ ⟨w.heap.size + 1, 0, none⟩ (.string rest))).trans (KeepsOthers.setCell _ ⟨w.heap.size + 1 + 1, 0, none⟩ (.int .i64 0))).same D _ hK rfl
      clear i1 i2 i3 iD k2 k3 s1 s2
      gi_wp2
      refine ⟨by simp, .inl ⟨_, _, rfl, run_takeDeferred hK', ?_⟩⟩
      have e1 := boxed_put (.deferred none) d1 hK' rfl
      have e2 := boxed_put (.deferred none) d2 hK' rfl
      have e3 := boxed_put (.deferred none) s3 hK' rfl
      refine ⟨.tuple #[.int .i64 (m + 1), .string rest, .int .i64 0], ?_, by rw [H.out], hb2.trans (belowK_b (w := w) (Nat.le_refl _) _ D _ _ (by omega) hK' rfl rfl)⟩
      rw [results_ccc rfl]
      simp [asAddr, Result.andThen, go_sem, e1, e2, e3]
    case stop =>
      rintro D c pre W hD hpre ⟨rfl, ⟨p, x, rfl, hx, i3⟩, ⟨i1, i2⟩, iB⟩ hK
      have g1 := seqOf_err (hpre.subset (List.mem_append.2 (.inr (List.mem_singleton.2 rfl)))) hx
      have H := Lib.hid (HB.out (by rw [g1]; exact hx))
      rw [g1] at H
      clear HG HB g1
      gi_wp2
      refine ⟨by simp, .inl ⟨_, _, rfl, run_takeDeferred hK, ?_⟩⟩
      have e1 := boxed_put (.deferred none) i1 hK rfl
      have e2 := boxed_put (.deferred none) i2 hK rfl
      have e3 := boxed_put (.deferred none) i3 hK rfl
      refine ⟨.tuple #[.int .i64 0, .string ⟨#[]⟩, .int .i64 (wErr x.2)], ?_, by rw [H.out], iB.trans (belowK_b (w := w) (Nat.le_refl _) _ D _ _ (by omega) hK rfl rfl)⟩
      rw [results_ccc rfl]
      simp [asAddr, Result.andThen, go_sem, e1, e2, e3]
end Go.Proofs.YtkdiccedkjbpeaaGreatDoorR

/-
  The closures of a value and of a table answer as PTab says, for every text of fewer than 2^62 bytes: by induction on its size.
-/
namespace Go.Proofs.YtkdiccedkjbpeaaGreatDoorR
open Go.RowKit Go.Maps

theorem takeV_one {s : ByteArray} (h : takeOk s 1 = true) : takeV s 1 < 256 := by
  have := takeV_pow h
  have h0 := takeV_nonneg s 1
  simp at this
  omega
theorem wf_u8 {c : Int} (h0 : 0 ≤ c) (h1 : c < 256) : (Lit.int .u8 c).wf = true := by
  simp [Lit.wf]
  rw [show IntKind.u8.min = 0 from by decide, show IntKind.u8.max = 255 from by decide]
  omega
theorem kindV_le (c : Int) : kindV c ≤ 8 := by
  unfold kindV
  repeat' split
  all_goals omega

set_option maxRecDepth 100000 in
set_option maxHeartbeats 1000000 in
theorem valC_all : ∀ n : Nat, ValC n := by
  intro n
  induction n with
  | zero =>
    intro s room w M B hn hs h0 h32 tk
    have hk : takeOk s 1 = false := by simp [takeOk, isW]; omega
    have H := Lib.hid (val_more room hk)
    obtain ⟨t1, -⟩ := takeE_not hk
    have HE := Lib.hid (takeE_one hk)
    go_enter Tryz.func130, Tryz.ntmps130
    go_wp2_with fail
    refine (take_any s 1 w tk.wid).mono ?_
    rintro e w1 ⟨rfl, hb⟩
    clear hk
    generalize takeV s 1 = a
    generalize takeR s 1 = b
    generalize takeE s 1 = x at t1 HE ⊢
    go_wp2
    go_ret3
    exact ⟨by rw [H.out, HE.out]; rfl, hb⟩
  | succ n ih =>
    intro s room w M B hn hs h0 h32 tk
    go_enter Tryz.func130, Tryz.ntmps130
    go_wp2_with fail
    refine (take_any s 1 w tk.wid).mono ?_
    rintro e w1 ⟨rfl, hb⟩
    have tk1 := tk.below hb
    rcases Bool.eq_false_or_eq_true (takeOk s 1) with hk | hk
    rotate_left
    · have H := Lib.hid (val_more room hk)
      obtain ⟨t1, -⟩ := takeE_not hk
      have HE := Lib.hid (takeE_one hk)
      clear hk
      generalize takeV s 1 = a
      generalize takeR s 1 = b
      generalize takeE s 1 = x at t1 HE ⊢
      go_wp2
      go_ret3
      exact ⟨by rw [H.out, HE.out]; rfl, hb⟩
    · rw [takeE_of hk]
      have hsz := takeR_size hk
      have v0 := takeV_nonneg s 1
      have v1 := takeV_one hk
      have HN := Lib.hid (fun h => val_none room hk h)
      have HF := Lib.hid (fun h => val_flat room hk h)
      have HT := Lib.hid (fun h => val_nest room hk h)
      clear hk
      generalize takeV s 1 = c at v0 v1 HN HF HT ⊢
      generalize takeR s 1 = b at hsz HF HT ⊢
      obtain ⟨ka, kh⟩ := kinds_at c v0 v1
      have cm := tk1.bm.cell
      have hlook := tk1.map.look_ok (t := 162) (e := 3) (z := .int .i64 0) lawByte Tryz.underlying162 (zeroInt w1) (plainElem_int Tryz.underlying3 (by decide)) (keyOf_int_mk (q := .u8) (a := c) Tryz.underlying5 (wf_u8 v0 v1))
      rw [ka, kh] at hlook
      have hrun : (Instr.lookup 162 (.map (some M)) (.int .u8 c) true).run Tryz.prog w1 = .ok (.tuple #[.int .i64 (kindN c), .bool (decide (kindV c ≠ -4))]) w1 := by
        obtain ⟨v, ps, h1, h2⟩ := hlook
        obtain ⟨a, rfl, h3, -⟩ := plainElem_int_inv Tryz.underlying3 h2
        cases h3
        exact h1
      have k8 := kindV_le c
      clear hlook ka kh
      rcases kindV_cases c with hk | hk | hk | hk | hk
      · have H := Lib.hid (HN.out hk)
        rw [kindN, if_pos hk, hk] at hrun
        clear HN HF HT hk
        go_wp2
        go_ret3
        exact ⟨by rw [H.out]; rfl, hb⟩
      · have H := Lib.hid (HT.out (.inr hk))
        rw [kindN, if_neg (by omega), hk] at hrun
        rw [hk] at H
        clear HN HF HT hk k8
        have cb := tk1.bt.cell
        go_wp2_with fail
        refine (table_of n ih b room w1 M B (by omega) (by omega) h0 h32 tk1).mono ?_
        rintro e w2 ⟨rfl, hb2⟩
        have H2 : Hid (val s room = nest true b room) := H
        clear H
        generalize nest true b room = r at H2 ⊢
        obtain ⟨d, y, x⟩ := r
        go_wp2
        go_ret3
        exact ⟨by rw [H2.out]; rfl, hb.trans (hb2.mono hb.size)⟩
      · have H := Lib.hid (HT.out (.inl hk))
        rw [kindN, if_neg (by omega), hk] at hrun
        rw [hk] at H
        clear HN HF HT hk k8
        have cb := tk1.br.cell
        go_wp2_with fail
        refine (row_of n ih b room w1 M B (by omega) (by omega) h0 h32 tk1).mono ?_
        rintro e w2 ⟨rfl, hb2⟩
        have H2 : Hid (val s room = nest false b room) := H
        clear H
        generalize nest false b room = r at H2 ⊢
        obtain ⟨d, y, x⟩ := r
        go_wp2
        go_ret3
        exact ⟨by rw [H2.out]; rfl, hb.trans (hb2.mono hb.size)⟩
      · have H := Lib.hid (HF.out (.inl hk))
        rw [kindN, if_neg (by omega), hk] at hrun
        rw [hk] at H
        clear HN HF HT hk k8
        go_wp2_with fail
        refine (flat_any b (-1) w1 tk1.wid (by omega) (.inl rfl)).mono ?_
        rintro e w2 ⟨rfl, hb2⟩
        generalize flat b (-1) = r at H ⊢
        obtain ⟨d, y, x⟩ := r
        go_wp2
        go_ret3
        exact ⟨by rw [H.out]; rfl, hb.trans (hb2.mono hb.size)⟩
      · have H := Lib.hid (HF.out (.inr hk))
        have hne : kindV c ≠ -4 := by omega
        rw [kindN, if_neg (by omega), decide_eq_true hne] at hrun
        clear HN HF HT hne
        generalize kindV c = k at hrun H hk k8
        have t2 : (k == -2) = false := by rw [beq_eq_false_iff_ne]; omega
        have t3 : (k == -3) = false := by rw [beq_eq_false_iff_ne]; omega
        go_wp2_with fail
        refine (flat_any b k w1 tk1.wid (by omega) (.inr ⟨hk, k8⟩)).mono ?_
        rintro e w2 ⟨rfl, hb2⟩
        generalize flat b k = r at H ⊢
        obtain ⟨d, y, x⟩ := r
        go_wp2
        go_ret3
        exact ⟨by rw [H.out]; rfl, hb.trans (hb2.mono hb.size)⟩
theorem value_any (s : ByteArray) (room : Int) (w : World) (M B : Nat) (hs : s.size < 4611686018427387904) (h0 : 0 ≤ room) (h32 : room ≤ 32) (tk : Tk w M B) :
    Calls Tryz.prog 130 #[.string s, .int .i64 room, .pointer (some ⟨B, 0, none⟩), .pointer (some ⟨B + 2, 0, none⟩), .pointer (some ⟨B + 3, 0, none⟩)] w fun e w' => e = .returned (.tuple #[.int .i64 (val s room).deep, .string (val s room).rest, .int .i64 (val s room).err]) ∧ Below w.heap.size w w' :=
  valC_all s.size s room w M B (Nat.le_refl _) hs h0 h32 tk
theorem table_any (t : ByteArray) (room : Int) (w : World) (M B : Nat) (hs : t.size < 4611686018427387904) (h0 : 0 ≤ room) (h32 : room ≤ 32) (tk : Tk w M B) :
    Calls Tryz.prog 128 #[.string t, .int .i64 room, .pointer (some ⟨B + 1, 0, none⟩)] w fun e w' => e = .returned (.tuple #[.int .i64 (nest true t room).deep, .string (nest true t room).rest, .int .i64 (nest true t room).err]) ∧ Below w.heap.size w w' :=
  table_of t.size (valC_all _) t room w M B (Nat.le_refl _) hs h0 h32 tk
end Go.Proofs.YtkdiccedkjbpeaaGreatDoorR

/-
  table.Take, and what it leans on (taken), answer as the plain functions here say; nothing that was there is changed. Conditions: the package num's table of widths holds 1, 2, 4, 8; texts of fewer than 2^62 bytes.
-/
namespace Go.Proofs.YtkdiccedkjbpeaaGreatDoorR
open Go.RowKit Go.Maps

/-- what is taken of s, and the rest -/
def takenA (s : ByteArray) (r : Res) : ByteArray := if r.err = 0 then front s r.rest else ⟨#[]⟩
def takenB (r : Res) : ByteArray := if r.err = 0 then r.rest else ⟨#[]⟩
/-- how deep it is, if nothing stands behind it; the error -/
def aloneD (r : Res) : Int := if r.err = 0 ∧ r.rest.size = 0 then r.deep else 0
def aloneE (r : Res) : Int := if r.err = 0 then (if r.rest.size = 0 then 0 else 3) else r.err

theorem val_rest_le (s : ByteArray) (room : Int) : (val s room).rest.size ≤ s.size := by
  by_cases h : (val s room).err = 0
  · have := val_rest h; omega
  · rw [(val_deep_err h).2]; exact Nat.zero_le _
theorem nest_rest_le (kf : Bool) (s : ByteArray) (room : Int) : (nest kf s room).rest.size ≤ s.size := nest_rest _ _ _

theorem taken_val (s : ByteArray) (w : World) (M B : Nat) (hs : s.size < 4611686018427387904) (tk : Tk w M B) :
    Calls Tryz.prog 122 #[.string s, .func (.func 130) #[] #[.pointer (some ⟨B, 0, none⟩), .pointer (some ⟨B + 2, 0, none⟩), .pointer (some ⟨B + 3, 0, none⟩)]] w fun e w' => e = .returned (.tuple #[.string (takenA s (val s 32)), .string (takenB (val s 32)), .int .i64 (val s 32).err]) ∧ Below w.heap.size w w' := by
  have hle := val_rest_le s 32
  go_enter Tryz.func122, Tryz.ntmps122
  go_wp2_with fail
  refine (value_any s 32 w M B hs (by omega) (by omega) tk).mono ?_
  rintro e w1 ⟨rfl, hb⟩
  generalize hr : val s 32 = r at hle ⊢
  have HR := Lib.hid hr
  clear hr
  obtain ⟨d, y, x⟩ := r
  dsimp only at hle ⊢
  by_cases hx : x = 0
  · subst hx
    have H := Lib.hid (show takenA s ⟨d, y, 0⟩ = front s y ∧ takenB ⟨d, y, 0⟩ = y from ⟨rfl, rfl⟩)
    go_wp2_with fail
    refine (front_any s y w1 hle hs).mono ?_
    rintro e w2 ⟨rfl, rfl⟩
    generalize front s y = fr at H ⊢
    go_wp2
    go_ret3
    refine ⟨?_, hb⟩
    rw [HR.out, H.out.1, H.out.2]
    rfl
  · have H := Lib.hid (show takenA s ⟨d, y, x⟩ = ⟨#[]⟩ ∧ takenB ⟨d, y, x⟩ = ⟨#[]⟩ by simp [takenA, takenB, hx])
    have t1 : (x != 0) = true := by simpa using hx
    clear hx
    go_wp2
    go_ret3
    refine ⟨?_, hb⟩
    rw [HR.out, H.out.1, H.out.2]
    rfl
theorem taken_tab (s : ByteArray) (w : World) (M B : Nat) (hs : s.size < 4611686018427387904) (tk : Tk w M B) :
    Calls Tryz.prog 122 #[.string s, .func (.func 128) #[] #[.pointer (some ⟨B + 1, 0, none⟩)]] w fun e w' => e = .returned (.tuple #[.string (takenA s (nest true s 32)), .string (takenB (nest true s 32)), .int .i64 (nest true s 32).err]) ∧ Below w.heap.size w w' := by
  have hle := nest_rest_le true s 32
  go_enter Tryz.func122, Tryz.ntmps122
  go_wp2_with fail
  refine (table_any s 32 w M B hs (by omega) (by omega) tk).mono ?_
  rintro e w1 ⟨rfl, hb⟩
  generalize hr : nest true s 32 = r at hle ⊢
  have HR := Lib.hid hr
  clear hr
  obtain ⟨d, y, x⟩ := r
  dsimp only at hle ⊢
  by_cases hx : x = 0
  · subst hx
    have H := Lib.hid (show takenA s ⟨d, y, 0⟩ = front s y ∧ takenB ⟨d, y, 0⟩ = y from ⟨rfl, rfl⟩)
    go_wp2_with fail
    refine (front_any s y w1 hle hs).mono ?_
    rintro e w2 ⟨rfl, rfl⟩
    generalize front s y = fr at H ⊢
    go_wp2
    go_ret3
    refine ⟨?_, hb⟩
    rw [HR.out, H.out.1, H.out.2]
    rfl
  · have H := Lib.hid (show takenA s ⟨d, y, x⟩ = ⟨#[]⟩ ∧ takenB ⟨d, y, x⟩ = ⟨#[]⟩ by simp [takenA, takenB, hx])
    have t1 : (x != 0) = true := by simpa using hx
    clear hx
    go_wp2
    go_ret3
    refine ⟨?_, hb⟩
    rw [HR.out, H.out.1, H.out.2]
    rfl

theorem tabTake_any (s : ByteArray) (w : World) (hw : Wid w) (hs : s.size < 4611686018427387904) :
    Calls Tryz.prog 113 #[.string s] w fun e w' => e = .returned (.tuple #[.string (takenA s (nest true s 32)), .string (takenB (nest true s 32)), .int .i64 (nest true s 32).err]) ∧ Below w.heap.size w w' := by
  go_enter Tryz.func113, Tryz.ntmps113
  go_wp2_with fail
  refine (takers_any w hw).mono ?_
  rintro e w1 ⟨M, B, rfl, tk, hb⟩
  go_wp2_with fail
  refine (taken_tab s w1 M B hs tk).mono ?_
  rintro e w2 ⟨rfl, hb2⟩
  generalize h1 : takenA s (nest true s 32) = a
  generalize h2 : takenB (nest true s 32) = b
  generalize h3 : (nest true s 32).err = x
  have H := Lib.hid (And.intro h1 (And.intro h2 h3))
  clear h1 h2 h3
  go_wp2
  go_ret3
  refine ⟨?_, hb.trans (hb2.mono hb.size)⟩
  rw [H.out.1, H.out.2.1, H.out.2.2]
  rfl
end Go.Proofs.YtkdiccedkjbpeaaGreatDoorR
