/-
  table.fields makes an iterator; what it gives, and in which order: the right fields, then, if one isn't, its error.
-/
import Derived.Test.YtjpldfkhacchdaaDoorJMem
import Derived.Test.YtjpldfkhacchdaaDoorWTabF
namespace Go.Proofs.YtjpldfkhacchdaaDoor
open Go.RowKit Go.Maps Go.Shelf
attribute [local go_sem] Oper.semAt_some

/-- what a round is handed: a field and an error -/
abbrev FE := Item × Int
def encFE (x : FE) : Array Value := #[.agg #[.string x.1.key, .string x.1.value, .int .i64 x.1.deep], .int .i64 x.2]
/-- all that the iterator gives -/
def seqOf (b : ByteArray) (room : Int) : List FE := (items true b room).1.map (fun i => (i, (0 : Int))) ++ (if (items true b room).2 = 0 then [] else [(noItem, (items true b room).2)])

theorem seqOf_nil {b : ByteArray} (room : Int) (h : b.size = 0) : seqOf b room = [] := by simp [seqOf, items_nil true room h]
theorem seqOf_go {b : ByteArray} {room : Int} (h : b.size ≠ 0) (he : (fieldOf b room).2.2 = 0) : seqOf b room = ((fieldOf b room).1, 0) :: seqOf (fieldOf b room).2.1 room ∧ (fieldOf b room).2.1.size < b.size := by
  unfold fieldOf at he ⊢
  by_cases hk : ttOk 1 b = true
  · rw [if_pos hk] at he ⊢
    by_cases hv : (val (ttR 1 b) room).err = 0
    · rw [if_pos hv] at he ⊢
      have h1 := val_rest hv
      have h2 := ttR_le 1 b
      refine ⟨?_, by simp only; omega⟩
      have e := items_go true (b := b) (room := room) h (by simp [hk]) hv
      rw [behindKey_true] at e
      unfold seqOf
      rw [e]
      rfl
    · rw [if_neg hv] at he
      exact absurd he hv
  · rw [if_neg hk] at he
    cases he
theorem seqOf_bad {b : ByteArray} {room : Int} (h : b.size ≠ 0) (he : (fieldOf b room).2.2 ≠ 0) : seqOf b room = [((fieldOf b room).1, (fieldOf b room).2.2)] := by
  unfold fieldOf at he ⊢
  by_cases hk : ttOk 1 b = true
  · rw [if_pos hk] at he ⊢
    by_cases hv : (val (ttR 1 b) room).err = 0
    · rw [if_pos hv] at he
      exact absurd rfl he
    · rw [if_neg hv] at he ⊢
      have e := items_err true (b := b) (room := room) h (by simp [hk]) hv
      rw [behindKey_true] at e
      unfold seqOf
      rw [e]
      simp only at he ⊢
      rw [if_neg hv]
      rfl
  · rw [if_neg hk]
    have hk2 : ttOk 1 b = false := by simpa using hk
    unfold seqOf
    rw [items_key b room h hk2, ttE_one hk2]
    rfl

/-- what a round keeps: whatever lay below n0, and the iterator's two boxes -/
def KeepI (n0 Br Bf : Nat) (W W' : World) : Prop := Below n0 W W' ∧ (∀ v, Boxed W Br 3 v → Boxed W' Br 3 v) ∧ (∀ v, Boxed W Bf 124 v → Boxed W' Bf 124 v)
theorem KeepI.refl (n0 Br Bf : Nat) (W : World) : KeepI n0 Br Bf W W := ⟨Below.refl _ _, fun _ h => h, fun _ h => h⟩
theorem keepI_t {n0 Br Bf : Nat} {A B C : World} (h : KeepI n0 Br Bf A B) (k : KeepI n0 Br Bf B C) : KeepI n0 Br Bf A C := ⟨h.1.trans k.1, fun v hv => k.2.1 v (h.2.1 v hv), fun v hv => k.2.2 v (h.2.2 v hv)⟩
theorem keepI_b {n0 Br Bf : Nat} {w : World} (hn : n0 ≤ w.heap.size) (W : World) (l : Nat) (o o' : Obj) (hl : w.heap.size ≤ l) (h : W.heap[l]? = some o) (hc : o.isCells = false) (hw : o.isWalk = false) : KeepI n0 Br Bf W (W.putObj l o') :=
  ⟨belowK_b hn W l o o' hl h hc hw, fun _ hv => boxed_putObj o' h hc hv, fun _ hv => boxed_putObj o' h hc hv⟩

theorem Box3.alloc {W : World} {B : Nat} {a b c : Value} (h : Box3 W B a b c) (o : Obj) : Box3 (W.alloc o) B a b c := h.below ((Below.refl _ _).alloc (Nat.le_refl _) _) h.lt

set_option maxRecDepth 100000 in
set_option maxHeartbeats 2000000 in
theorem fields1_in (n : Nat) (hv : ValC n) (w0 : World) (M B : Nat) (tk : Tk w0 M B) (l Bs Br Bf : Nat) (body : ByteArray) (room : Int) (hbn : body.size ≤ n) (hs : body.size < 4611686018427387904) (h0 : 0 ≤ room) (h32 : room ≤ 32) (J Jx : List FE → World → Prop)
    (hJ : ∀ pre W W', J pre W → Below W.heap.size W W' → J pre W')
    (hY : ∀ pre x W, J pre W → pre.length < (seqOf body room).length → YieldAt Fence.wide 2 Tryd.prog l (encFE x) W fun e W' =>
      (e = .returned (.bool true) ∧ J (pre ++ [x]) W' ∧ KeepI w0.heap.size Br Bf W W') ∨ (e = .returned (.bool false) ∧ Jx (pre ++ [x]) W'))
    (W : World) (hbs : Boxed W Bs 9 (.string body)) (hbr : Boxed W Br 3 (.int .i64 room))
    (hbf : Boxed W Bf 124 (.func (.func 85) #[] #[.pointer (some ⟨B, 0, none⟩), .pointer (some ⟨B + 2, 0, none⟩), .pointer (some ⟨B + 3, 0, none⟩)]))
    (hW0 : Below w0.heap.size w0 W) (hJ0 : J [] W) :
    CallsIn Fence.wide 3 Tryd.prog 91 #[.func (.yield l) #[] #[], .pointer (some ⟨Bs, 0, none⟩), .pointer (some ⟨Br, 0, none⟩), .pointer (some ⟨Bf, 0, none⟩)] W fun e W' => (∃ v, e = .returned v) ∧
      ((∃ ys, ys = seqOf body room ∧ J ys W') ∨ (∃ pre, pre <+: seqOf body room ∧ Jx pre W')) := by
  have hcs := hbs.cell
  refine callsIn_of_wp Tryd.func91 rfl trivial ?_ rfl
  simp only [Tryd.ntmps91, List.size_toArray, List.length_cons, List.length_nil, Nat.reduceAdd, Nat.reduceSub, Array.replicate_succ, Array.replicate_zero, List.push_toArray, List.append_toArray, List.nil_append, List.cons_append]
  gi_wp2
  clear hcs
  gi_loopw [5] (fun p wr => ∃ (pre : List FE) (r : ByteArray), p = .string r ∧ r.size ≤ body.size ∧ Hid (seqOf body room = pre ++ seqOf r room) ∧ Boxed wr Br 3 (.int .i64 room) ∧ Boxed wr Bf 124 (.func (.func 85) #[] #[.pointer (some ⟨B, 0, none⟩), .pointer (some ⟨B + 2, 0, none⟩), .pointer (some ⟨B + 3, 0, none⟩)]) ∧ Below w0.heap.size w0 wr ∧ J pre wr)
    (fun p _ => tabLen p)
  case atStart =>
    exact ⟨[], body, rfl, Nat.le_refl _, Lib.hid rfl, hbr, hbf, hW0, hJ0⟩
  case round =>
    obtain ⟨pre, r, rfl, hle, HX, bR, bF, hWr, hJs⟩ := hrel
    by_cases hz : r.size = 0
    · obtain rfl := ba_nil hz
      gi_wp2
      go_end0
      exact ⟨⟨_, rfl⟩, .inl ⟨pre, by rw [HX.out, seqOf_nil room rfl, List.append_nil], hJs⟩⟩
    · have tne := ba_ne hz
      have cR := bR.cell
      have cF := bF.cell
      gi_wp2_with fail
      refine ⟨trivial, (callsIn_wide.2 (takeField_of n hv r room wr M B (by omega) (by omega) h0 h32 (tk.below hWr))).mono ?_⟩
      rintro e w2 ⟨rfl, hb2⟩
      have hWr2 := hWr.trans (hb2.mono hWr.size)
      have bR2 := boxed_below bR hb2 bR.lt
      have bF2 := boxed_below bF hb2 bF.lt
      have hJ2 := hJ pre wr w2 hJs hb2
      clear cR cF bR bF hJs hb2
      have HG := Lib.hid (fun he => seqOf_go (b := r) (room := room) hz he)
      have HB := Lib.hid (fun he => seqOf_bad (b := r) (room := room) hz he)
      generalize fieldOf r room = fo at HG HB ⊢
      obtain ⟨⟨k, v, d⟩, y, x⟩ := fo
      unfold encF
      have hJ3 := hJ pre w2 _ hJ2 ((Below.refl _ _).alloc (Nat.le_refl _) (.cells #[.string k, .string v, .int .i64 d] 140))
      have bR3 := bR2.alloc (.cells #[.string k, .string v, .int .i64 d] 140)
      have bF3 := bF2.alloc (.cells #[.string k, .string v, .int .i64 d] 140)
      have hWr3 := hWr2.alloc hWr2.size (.cells #[.string k, .string v, .int .i64 d] 140)
      by_cases he : x = 0
      · subst he
        obtain ⟨hq, hlt⟩ := HG.out rfl
        have hseq : seqOf body room = (pre ++ [(⟨k, v, d⟩, 0)]) ++ seqOf y room := by rw [HX.out, hq]; simp
        obtain ⟨fn, tmps, assign, body', hy, hR⟩ := hY pre (⟨k, v, d⟩, 0) _ hJ3 (by rw [hseq]; simp)
        have HS := Lib.hid hseq
        dsimp only [encFE] at hy
        clear HG HB hq hseq HX
        gi_wp2
        refine hR.mono ?_
        rintro e W3 (⟨rfl, hJ3, hk3⟩ | ⟨rfl, hJx3⟩)
        · gi_wp2
          go_roundw
          case rel => exact ⟨pre ++ [(⟨k, v, d⟩, 0)], y, rfl, by omega, HS, hk3.2.1 _ bR3, hk3.2.2 _ bF3, hWr3.trans hk3.1, hJ3⟩
          case measure => simp only [tabLen]; omega
        · gi_wp2
          refine bodyPost_ret (results_none rfl _ _ _) rfl ?_
          exact ⟨⟨_, rfl⟩, .inr ⟨pre ++ [(⟨k, v, d⟩, 0)], ⟨seqOf y room, HS.out.symm⟩, hJx3⟩⟩
      · have hq := HB.out he
        have hseq : seqOf body room = pre ++ [(⟨k, v, d⟩, x)] := by rw [HX.out, hq]
        obtain ⟨fn, tmps, assign, body', hy, hR⟩ := hY pre (⟨k, v, d⟩, x) _ hJ3 (by rw [hseq]; simp)
        have t1 : (x != 0) = true := by simpa using he
        have HS := Lib.hid hseq
        dsimp only [encFE] at hy
        clear HG HB hq hseq HX he
        gi_wp2
        refine hR.mono ?_
        rintro e W3 (⟨rfl, hJ3, hk3⟩ | ⟨rfl, hJx3⟩)
        · gi_wp2
          refine bodyPost_ret (results_none rfl _ _ _) rfl ?_
          exact ⟨⟨_, rfl⟩, .inl ⟨pre ++ [(⟨k, v, d⟩, x)], HS.out.symm, hJ3⟩⟩
        · gi_wp2
          refine bodyPost_ret (results_none rfl _ _ _) rfl ?_
          exact ⟨⟨_, rfl⟩, .inr ⟨pre ++ [(⟨k, v, d⟩, x)], ⟨[], by rw [HS.out]; simp⟩, hJx3⟩⟩
end Go.Proofs.YtjpldfkhacchdaaDoor
