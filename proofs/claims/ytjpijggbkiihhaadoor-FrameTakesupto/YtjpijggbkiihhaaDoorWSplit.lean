/-
  frame.frames goes through the frames that bytes begin with, and tells through a closure what is left, and why; its contract. Conditions: the tables of widths and kinds are as their texts lay them; the text has fewer than 2^62 bytes.
-/
import Derived.Shelf.Abstract
import Derived.Shelf.RegionOpen
import Derived.WalkKit
import Derived.OwnWalkIn
import Derived.TacticsInMore
import Derived.LoopNIn
import Derived.LoopIn
import Derived.Maps.AppendAt
import Derived.Laws.EntriesVeiled
import Derived.Test.YtjpijggbkiihhaaDoorMRange
import Derived.Test.YtjpijggbkiihhaaDoorMBoxed
import Derived.Test.YtjpijggbkiihhaaDoorWFTake
namespace Go.Proofs.YtjpijggbkiihhaaDoor
open Go.RowKit Go.Maps Go.Shelf
attribute [local go_sem] Oper.semAt_some

/-- what a round keeps: whatever lay below n0, and some boxes -/
def KeepS (n0 : Nat) (Ks : List Nat) (W W' : World) : Prop := Below n0 W W' ∧ ∀ k ∈ Ks, ∀ t v, t ≠ 23 → Boxed W k t v → Boxed W' k t v
theorem keepS_t {n0 : Nat} {Ks : List Nat} {A B C : World} (h : KeepS n0 Ks A B) (k : KeepS n0 Ks B C) : KeepS n0 Ks A C := ⟨h.1.trans k.1, fun i hi t v ht hv => k.2 i hi t v ht (h.2 i hi t v ht hv)⟩
theorem keepS_b {n0 : Nat} {Ks : List Nat} {w : World} (hn : n0 ≤ w.heap.size) (W : World) (l : Nat) (o o' : Obj) (hl : w.heap.size ≤ l) (h : W.heap[l]? = some o) (hc : o.isCells = false) (hw : o.isWalk = false) : KeepS n0 Ks W (W.putObj l o') :=
  ⟨belowK_b hn W l o o' hl h hc hw, fun _ _ _ _ _ hv => boxed_putObj o' h hc hv⟩

def strLen : Value → Nat
  | .string s => s.size
  | _ => 0

set_option maxHeartbeats 1000000 in
theorem ended_any (r : ByteArray) (x : Int) (Br Bw : Nat) (W : World) (u v : Value) (h1 : Boxed W Br 9 u) (h2 : Boxed W Bw 25 v) (hne : Bw ≠ Br) :
    Calls Tryd.prog 31 #[.string r, .int .i64 x, .pointer (some ⟨Br, 0, none⟩), .pointer (some ⟨Bw, 0, none⟩)] W fun e W' => e = .returned (.tuple #[]) ∧ W' = (W.setCell ⟨Br, 0, none⟩ (.string r)).setCell ⟨Bw, 0, none⟩ (.int .i64 x) := by
  have c1 := h1.cell
  have f1 := h1.frozen
  have k2 := h2.other hne (.string r)
  have c2 := k2.cell
  have f2 := k2.frozen
  go_enter Tryd.func31, Tryd.ntmps31
  go_wp2
  go_end0
  exact ⟨rfl, rfl⟩
theorem frames_in (s : ByteArray) (m : Int) (f : Fn) (a c : Array Value) (w : World) :
    CallsIn Fence.wide 3 Tryd.prog 32 #[.string s, .int .i64 m, .func f a c] w fun e w' => e = .returned (.func (.func 37) #[] #[.pointer (some ⟨w.heap.size, 0, none⟩), .pointer (some ⟨w.heap.size + 1, 0, none⟩), .pointer (some ⟨w.heap.size + 1 + 1, 0, none⟩)]) ∧ w' = ((w.alloc (.cells #[.string s] 9)).alloc (.cells #[.int .i64 m] 3)).alloc (.cells #[.func f a c] 64) := by
  have hmf : ∀ (p q r : Value) (w : World), (Instr.makeFunc (.func 37) #[] #[p, q, r]).run Tryd.prog w = .ok (.func (.func 37) #[] #[p, q, r]) w := fun _ _ _ _ => by kernel_rfl
  refine callsIn_of_wp Tryd.func32 rfl trivial ?_ rfl
  simp only [Tryd.ntmps32, List.size_toArray, List.length_cons, List.length_nil, Nat.reduceAdd, Nat.reduceSub, Array.replicate_succ, Array.replicate_zero, List.push_toArray, List.append_toArray, List.nil_append, List.cons_append]
  gi_wp2
  go_ret
  exact ⟨rfl, rfl⟩

set_option maxRecDepth 100000 in
set_option maxHeartbeats 2000000 in
theorem frames1_in (w0 : World) (hw : Wid w0) (hk : Kin w0) (l Bs Bm Bf Br Bw : Nat) (s : ByteArray) (m : Int) (hs : s.size < 4611686018427387904) (hne : Bw ≠ Br) (J : List Fr → World → Prop)
    (hJ : ∀ pre W W', J pre W → Below W.heap.size W W' → J pre W')
    (hY : ∀ pre x W, J pre W → pre.length < (frs s m).1.length → YieldAt Fence.wide 2 Tryd.prog l #[encFr x] W fun e W' => e = .returned (.bool true) ∧ J (pre ++ [x]) W' ∧ KeepS w0.heap.size [Bm, Bf, Br, Bw] W W')
    (W : World) (hbs : Boxed W Bs 9 (.string s)) (hbm : Boxed W Bm 3 (.int .i64 m))
    (hbf : Boxed W Bf 64 (.func (.func 31) #[] #[.pointer (some ⟨Br, 0, none⟩), .pointer (some ⟨Bw, 0, none⟩)]))
    (hbr : Boxed W Br 9 (.string s)) (hbw : Boxed W Bw 25 (.int .i64 0))
    (hW0 : Below w0.heap.size w0 W) (hJ0 : J [] W) :
    CallsIn Fence.wide 3 Tryd.prog 37 #[.func (.yield l) #[] #[], .pointer (some ⟨Bs, 0, none⟩), .pointer (some ⟨Bm, 0, none⟩), .pointer (some ⟨Bf, 0, none⟩)] W fun e W' => (∃ v, e = .returned v) ∧
      ∃ xs A, J xs A ∧ xs = (frs s m).1 ∧ W' = (A.setCell ⟨Br, 0, none⟩ (.string (frs s m).2.1)).setCell ⟨Bw, 0, none⟩ (.int .i64 (frs s m).2.2) := by
  have hcs := hbs.cell
  refine callsIn_of_wp Tryd.func37 rfl trivial ?_ rfl
  simp only [Tryd.ntmps37, List.size_toArray, List.length_cons, List.length_nil, Nat.reduceAdd, Nat.reduceSub, Array.replicate_succ, Array.replicate_zero, List.push_toArray, List.append_toArray, List.nil_append, List.cons_append]
  gi_wp2
  clear hcs
  gi_loopw [5] (fun p wr => ∃ (pre : List Fr) (r : ByteArray), p = .string r ∧ r.size ≤ s.size ∧ Hid (frs s m = (pre ++ (frs r m).1, (frs r m).2)) ∧ Boxed wr Bm 3 (.int .i64 m) ∧ Boxed wr Bf 64 (.func (.func 31) #[] #[.pointer (some ⟨Br, 0, none⟩), .pointer (some ⟨Bw, 0, none⟩)]) ∧ Boxed wr Br 9 (.string s) ∧ Boxed wr Bw 25 (.int .i64 0) ∧ Below w0.heap.size w0 wr ∧ J pre wr)
    (fun p _ => strLen p)
  case atStart =>
    exact ⟨[], s, rfl, Nat.le_refl _, Lib.hid rfl, hbm, hbf, hbr, hbw, hW0, hJ0⟩
  case round =>
    obtain ⟨pre, r, rfl, hle, HX, bM, bF, bR, bW, hWr, hJs⟩ := hrel
    have cM := bM.cell
    have cF := bF.cell
    gi_wp2_with fail
    refine ⟨trivial, (callsIn_wide.2 (frtake_any r m wr (hw.below hWr) (hk.below hWr) (by omega))).mono ?_⟩
    rintro e w2 ⟨rfl, hb2⟩
    have hWr2 := hWr.trans (hb2.mono hWr.size)
    have bM2 := boxed_below bM hb2 bM.lt
    have bF2 := boxed_below bF hb2 bF.lt
    have bR2 := boxed_below bR hb2 bR.lt
    have bW2 := boxed_below bW hb2 bW.lt
    have hJ2 := hJ pre wr w2 hJs hb2
    clear cM cF bM bF bR bW hJs hb2
    by_cases he : frE r m = 0
    · rw [frTakeV_ok he]
      have hq := frs_go he
      have hz := fr_sizes he
      have hseq : frs s m = ((pre ++ [frGot r]) ++ (frs (frRest r) m).1, (frs (frRest r) m).2) := by rw [HX.out, hq]; simp
      have HS := Lib.hid hseq
      have HG := Lib.hid (show frGot r = ⟨frCode r, frChan r, ttA 4 (fr2 r)⟩ from rfl)
      have HR : frRest r = takeR (frEnd r) 1 := rfl
      rw [HR] at hz HS hseq
      have hJ3 := hJ pre w2 _ hJ2 ((Below.refl _ _).alloc (Nat.le_refl _) (.cells #[.int .i64 (frCode r), .int .i64 (frChan r), .string (ttA 4 (fr2 r))] 23))
      have bM3 := bM2.alloc (.cells #[.int .i64 (frCode r), .int .i64 (frChan r), .string (ttA 4 (fr2 r))] 23)
      have bF3 := bF2.alloc (.cells #[.int .i64 (frCode r), .int .i64 (frChan r), .string (ttA 4 (fr2 r))] 23)
      have bR3 := bR2.alloc (.cells #[.int .i64 (frCode r), .int .i64 (frChan r), .string (ttA 4 (fr2 r))] 23)
      have bW3 := bW2.alloc (.cells #[.int .i64 (frCode r), .int .i64 (frChan r), .string (ttA 4 (fr2 r))] 23)
      have hWr3 := hWr2.alloc hWr2.size (.cells #[.int .i64 (frCode r), .int .i64 (frChan r), .string (ttA 4 (fr2 r))] 23)
      obtain ⟨fn, tmps, assign, body', hy, hR⟩ := hY pre (frGot r) _ hJ3 (by rw [hseq]; simp)
      rw [HG.out] at hy
      dsimp only [encFr] at hy
      clear hq hseq HX HR he bM2 bF2 bR2 bW2 hJ2 hJ3 hWr2
      generalize takeR (frEnd r) 1 = y at hz HS ⊢
      generalize frCode r = co at *
      generalize frChan r = ch at *
      generalize ttA 4 (fr2 r) = da at *
      gi_wp2
      refine hR.mono ?_
      rintro e W3 ⟨rfl, hJ3, hk3⟩
      gi_wp2
      go_roundw
      case rel => exact ⟨pre ++ [frGot r], y, rfl, by omega, HS, hk3.2 _ (by simp) _ _ (by decide) bM3, hk3.2 _ (by simp) _ _ (by decide) bF3, hk3.2 _ (by simp) _ _ (by decide) bR3, hk3.2 _ (by simp) _ _ (by decide) bW3, hWr3.trans hk3.1, hJ3⟩
      case measure => simp only [strLen]; omega
    · rw [frTakeV_bad rfl he]
      have hq := frs_stop he
      have hseq : frs s m = (pre, r, frE r m) := by rw [HX.out, hq]; simp
      have HS := Lib.hid hseq
      have t1 : (frE r m != 0) = true := by simpa using he
      clear hq hseq HX he
      generalize frE r m = x at t1 HS ⊢
      have hJ3 := hJ pre w2 _ hJ2 ((Below.refl _ _).alloc (Nat.le_refl _) (.cells #[.int .i64 0, .int .i64 0, .string ⟨#[]⟩] 23))
      have bF3 := bF2.alloc (.cells #[.int .i64 0, .int .i64 0, .string ⟨#[]⟩] 23)
      have bR3 := bR2.alloc (.cells #[.int .i64 0, .int .i64 0, .string ⟨#[]⟩] 23)
      have bW3 := bW2.alloc (.cells #[.int .i64 0, .int .i64 0, .string ⟨#[]⟩] 23)
      have cF := bF3.cell
      have E := ended_any r x Br Bw _ _ _ bR3 bW3 hne
      gi_wp2_with fail
      refine ⟨trivial, (callsIn_wide.2 E).mono ?_⟩
      rintro e w3 ⟨rfl, rfl⟩
      clear E
      gi_wp2
      refine bodyPost_ret (results_none rfl _ _ _) rfl ?_
      exact ⟨⟨_, rfl⟩, pre, _, hJ3, by rw [HS.out], by rw [HS.out]⟩
end Go.Proofs.YtjpijggbkiihhaaDoor
