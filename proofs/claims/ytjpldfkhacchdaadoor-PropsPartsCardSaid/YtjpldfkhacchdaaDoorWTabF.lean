/-
  table.takeField: if the closure of a value answers as PTab's val for every text that is no longer, takeField answers the field that bytes begin with.
-/
import Derived.Laws.ResultCell
import Derived.Test.YtjpldfkhacchdaaDoorJMem
import Derived.Test.YtjpldfkhacchdaaDoorWTabR
namespace Go.Proofs.YtjpldfkhacchdaaDoor
open Go.RowKit Go.Maps

def noItem : Item := ⟨⟨#[]⟩, ⟨#[]⟩, 0⟩
/-- the field that bytes begin with, the rest, the error -/
def fieldOf (s : ByteArray) (room : Int) : Item × ByteArray × Int :=
  if ttOk 1 s = true then
    if (val (ttR 1 s) room).err = 0 then (⟨ttA 1 s, front (ttR 1 s) (val (ttR 1 s) room).rest, (val (ttR 1 s) room).deep⟩, (val (ttR 1 s) room).rest, 0)
    else (noItem, ⟨#[]⟩, (val (ttR 1 s) room).err)
  else (noItem, ⟨#[]⟩, 2)
/-- a field as it stands in memory -/
def encF (i : Item) : Value := .agg #[.string i.key, .string i.value, .int .i64 i.deep]

/-- a field's three cells in a block of their own -/
def Box3 (W : World) (B : Nat) (a b c : Value) : Prop := W.heap[B]? = some (.cells #[a, b, c] 140 (0, 0))
theorem Box3.lt {W : World} {B : Nat} {a b c : Value} (h : Box3 W B a b c) : B < W.heap.size := (Array.getElem?_eq_some_iff.1 h).1
theorem Box3.cells {W : World} {B : Nat} {a b c : Value} (h : Box3 W B a b c) : W.cell? ⟨B, 0, none⟩ = some a ∧ W.cell? ⟨B, 1, none⟩ = some b ∧ W.cell? ⟨B, 2, none⟩ = some c := by
  simp [World.cell?, show W.heap[B]? = _ from h]
theorem Box3.frozen {W : World} {B : Nat} {a b c : Value} (h : Box3 W B a b c) : W.frozen? ⟨B, 0, none⟩ = false ∧ W.frozen? ⟨B, 1, none⟩ = false ∧ W.frozen? ⟨B, 2, none⟩ = false := by
  simp [World.frozen?, show W.heap[B]? = _ from h]
theorem Box3.new (W : World) (a b c : Value) : Box3 (W.alloc (.cells #[a, b, c] 140)) W.heap.size a b c := World.alloc_heap_new W _
theorem Box3.below {W W' : World} {n B : Nat} {a b c : Value} (h : Box3 W B a b c) (hb : Below n W W') (hn : B < n) : Box3 W' B a b c := (hb.block B hn).trans h
theorem Box3.set0 {W : World} {B : Nat} {a b c : Value} (v : Value) (h : Box3 W B a b c) : Box3 (W.setCell ⟨B, 0, none⟩ v) B v b c := by
  obtain ⟨hlt, hk⟩ := Array.getElem?_eq_some_iff.1 h
  show (W.heap.modify B _)[B]? = _
  rw [Array.getElem?_eq_getElem (by rw [Array.size_modify]; exact hlt), Array.getElem_modify_self, hk]
  rfl
theorem Box3.set1 {W : World} {B : Nat} {a b c : Value} (v : Value) (h : Box3 W B a b c) : Box3 (W.setCell ⟨B, 1, none⟩ v) B a v c := by
  obtain ⟨hlt, hk⟩ := Array.getElem?_eq_some_iff.1 h
  show (W.heap.modify B _)[B]? = _
  rw [Array.getElem?_eq_getElem (by rw [Array.size_modify]; exact hlt), Array.getElem_modify_self, hk]
  rfl
theorem Box3.set2 {W : World} {B : Nat} {a b c : Value} (v : Value) (h : Box3 W B a b c) : Box3 (W.setCell ⟨B, 2, none⟩ v) B a b v := by
  obtain ⟨hlt, hk⟩ := Array.getElem?_eq_some_iff.1 h
  show (W.heap.modify B _)[B]? = _
  rw [Array.getElem?_eq_getElem (by rw [Array.size_modify]; exact hlt), Array.getElem_modify_self, hk]
  rfl
/-- what a store of a whole field asks for, cell by cell -/
theorem Box3.store {W : World} {B : Nat} {a b c : Value} (h : Box3 W B a b c) (a' b' c' : Value) :
    W.cell? ⟨B, 0, none⟩ = some a ∧ W.frozen? ⟨B, 0, none⟩ = false ∧
    (W.setCell ⟨B, 0, none⟩ a').cell? ⟨B, 1, none⟩ = some b ∧ (W.setCell ⟨B, 0, none⟩ a').frozen? ⟨B, 1, none⟩ = false ∧
    ((W.setCell ⟨B, 0, none⟩ a').setCell ⟨B, 1, none⟩ b').cell? ⟨B, 2, none⟩ = some c ∧ ((W.setCell ⟨B, 0, none⟩ a').setCell ⟨B, 1, none⟩ b').frozen? ⟨B, 2, none⟩ = false ∧
    Box3 (((W.setCell ⟨B, 0, none⟩ a').setCell ⟨B, 1, none⟩ b').setCell ⟨B, 2, none⟩ c') B a' b' c' :=
  ⟨h.cells.1, h.frozen.1, (h.set0 a').cells.2.1, (h.set0 a').frozen.2.1, ((h.set0 a').set1 b').cells.2.2, ((h.set0 a').set1 b').frozen.2.2, ((h.set0 a').set1 b').set2 c'⟩
theorem below_store {n B : Nat} {w W : World} (h : Below n w W) (hn : n ≤ B) (a b c : Value) : Below n w (((W.setCell ⟨B, 0, none⟩ a).setCell ⟨B, 1, none⟩ b).setCell ⟨B, 2, none⟩ c) :=
  ((h.setCell (p := ⟨B, 0, none⟩) hn a).setCell (p := ⟨B, 1, none⟩) hn b).setCell (p := ⟨B, 2, none⟩) hn c

set_option maxRecDepth 100000 in
set_option maxHeartbeats 1000000 in
theorem takeField_of (n : Nat) (hv : ValC n) (s : ByteArray) (room : Int) (w : World) (M B : Nat) (hn : s.size ≤ n) (hs : s.size < 4611686018427387904) (h0 : 0 ≤ room) (h32 : room ≤ 32) (tk : Tk w M B) :
    Calls Tryd.prog 92 #[.string s, .int .i64 room, .func (.func 85) #[] #[.pointer (some ⟨B, 0, none⟩), .pointer (some ⟨B + 2, 0, none⟩), .pointer (some ⟨B + 3, 0, none⟩)]] w fun e w' => e = .returned (.tuple #[encF (fieldOf s room).1, .string (fieldOf s room).2.1, .int .i64 (fieldOf s room).2.2]) ∧ Below w.heap.size w w' := by
  have hle := ttR_le 1 s
  have x0 := Box3.new w (.string ⟨#[]⟩) (.string ⟨#[]⟩) (.int .i64 0)
  have hb0 : Below w.heap.size w (w.alloc (.cells #[.string ⟨#[]⟩, .string ⟨#[]⟩, .int .i64 0] 140)) := (Below.refl _ _).alloc (Nat.le_refl _) _
  go_enter Tryd.func92, Tryd.ntmps92
  go_wp2_with fail
  refine (takeShort_any s _ (tk.wid.below hb0) hs).mono ?_
  rintro e w1 ⟨rfl, hb⟩
  have x1 := x0.below hb x0.lt
  have hb1 := hb0.trans (hb.mono hb0.size)
  have tk1 := tk.below hb1
  clear x0 hb hb0 tk
  cases hok : ttOk 1 s
  · obtain ⟨t1, -⟩ := ttE_not hok
    have H := Lib.hid (show fieldOf s room = (noItem, ⟨#[]⟩, ttE 1 s) by rw [ttE_one hok]; simp [fieldOf, hok])
    clear hok
    generalize ttA 1 s = a
    generalize ttR 1 s = b at hle ⊢
    generalize ttE 1 s = x at t1 H ⊢
    obtain ⟨c0, f0, c1, f1, c2, f2, x2⟩ := x1.store (.string ⟨#[]⟩) (.string ⟨#[]⟩) (.int .i64 0)
    obtain ⟨d0, d1, d2⟩ := x2.cells
    have hb2 := below_store hb1 (Nat.le_refl _) (.string ⟨#[]⟩) (.string ⟨#[]⟩) (.int .i64 0)
    clear x1 x2 hb1
    go_wp2
    refine bodyPost_ret (v := .tuple #[encF noItem, .string ⟨#[]⟩, .int .i64 x]) ?_ rfl ⟨by rw [H.out], hb2⟩
    rw [results_ctt rfl]
    simp [asAddr, Result.andThen, go_sem, d0, d1, d2]
    rfl
  · rw [ttE_of hok]
    have HN := Lib.hid (show (val (ttR 1 s) room).err = 0 → fieldOf s room = (⟨ttA 1 s, front (ttR 1 s) (val (ttR 1 s) room).rest, (val (ttR 1 s) room).deep⟩, (val (ttR 1 s) room).rest, 0) by intro h; simp [fieldOf, hok, h])
    have HE := Lib.hid (show (val (ttR 1 s) room).err ≠ 0 → fieldOf s room = (noItem, ⟨#[]⟩, (val (ttR 1 s) room).err) by intro h; simp [fieldOf, hok, h])
    clear hok
    generalize ttA 1 s = a at HN ⊢
    generalize ttR 1 s = b at hle HN HE ⊢
    go_wp2_with fail
    refine (hv b room w1 M B (by omega) (by omega) h0 h32 tk1).mono ?_
    rintro e w2 ⟨rfl, hb2⟩
    have x2 := x1.below hb2 x1.lt
    have hb3 := hb1.trans (hb2.mono hb1.size)
    clear x1 hb1 hb2 tk1
    by_cases he : (val b room).err = 0
    · have H := Lib.hid (HN.out he)
      have hlt := val_rest he
      rw [he]
      clear he HN HE
      generalize (val b room).deep = d at H ⊢
      generalize (val b room).rest = r at H hlt ⊢
      go_wp2_with fail
      refine (front_any b r w2 (by omega) (by omega)).mono ?_
      rintro e w3 ⟨rfl, rfl⟩
      generalize front b r = fr at H ⊢
      obtain ⟨c0, f0, c1, f1, c2, f2, x3⟩ := x2.store (.string a) (.string fr) (.int .i64 d)
      obtain ⟨d0, d1, d2⟩ := x3.cells
      have hb4 := below_store hb3 (Nat.le_refl _) (.string a) (.string fr) (.int .i64 d)
      clear x2 x3 hb3
      go_wp2
      refine bodyPost_ret (v := .tuple #[encF ⟨a, fr, d⟩, .string r, .int .i64 0]) ?_ rfl ⟨by rw [H.out], hb4⟩
      rw [results_ctt rfl]
      simp [asAddr, Result.andThen, go_sem, d0, d1, d2]
      rfl
    · have H := Lib.hid (HE.out he)
      have t1 : ((val b room).err != 0) = true := by simpa using he
      clear he HN HE
      generalize (val b room).deep = d at H ⊢
      generalize (val b room).rest = r at H ⊢
      generalize (val b room).err = x at H t1 ⊢
      obtain ⟨c0, f0, c1, f1, c2, f2, x3⟩ := x2.store (.string ⟨#[]⟩) (.string ⟨#[]⟩) (.int .i64 0)
      obtain ⟨d0, d1, d2⟩ := x3.cells
      have hb4 := below_store hb3 (Nat.le_refl _) (.string ⟨#[]⟩) (.string ⟨#[]⟩) (.int .i64 0)
      clear x2 x3 hb3
      go_wp2
      refine bodyPost_ret (v := .tuple #[encF noItem, .string ⟨#[]⟩, .int .i64 x]) ?_ rfl ⟨by rw [H.out], hb4⟩
      rw [results_ctt rfl]
      simp [asAddr, Result.andThen, go_sem, d0, d1, d2]
      rfl
end Go.Proofs.YtjpldfkhacchdaaDoor
