/-
  A range over a function whose iterator, ahead of its return, writes what it was told to (a closure that keeps where it ended): the body never leaves the loop; behind the loop holds what the iterator has made of the caller's invariant. No condition.
-/
import Derived.RangeFuncNested
import Derived.RangeFuncBound
import Derived.RangeFuncCalls
import Derived.RangeFuncLeaves
import Derived.Test.YtjpijggbkiihhaaDoorRows
namespace Go.Proofs.YtjpijggbkiihhaaDoor
open Go.RowKit

/-- the loop's two blocks of its own -/
structure Books (B : Nat) (r : Loop) (W : World) : Prop where
  loop : W.heap[B + 1]? = some (.loop r)
  late : W.heap[B]? = some (.deferred (some []))
theorem Books.kept {B : Nat} {r : Loop} {W W' : World} (h : Books B r W) (k : KeepsFrom B W W') : Books B r W' := ⟨k.same _ _ (Nat.le_succ _) h.loop rfl, k.same _ _ (Nat.le_refl _) h.late rfl⟩
theorem Books.put {B : Nat} {r : Loop} {W : World} (h : Books B r W) (r' : Loop) : Books B r' (W.putObj (B + 1) (.loop r')) :=
  ⟨World.putObj_heap_same (Array.getElem?_eq_some_iff.1 h.loop).1, (World.putObj_heap_other (by omega)).trans h.late⟩
theorem Books.grown {B : Nat} {r : Loop} {W W' : World} {row : Option Nat} (h : Books B r W) (hg : W.grownBy W' row) (hr : ∀ k, row = some k → ∃ o : Obj, W.heap[k]? = some o ∧ o.isWalk = true) : Books B r W' :=
  ⟨(grownBy_keeps hg hr h.loop rfl).trans h.loop, (grownBy_keeps hg hr h.late rfl).trans h.late⟩

/-- how the body is left: off its end, and no other way -/
def goesOn {α : Type} (B : Nat) (Kp : World → World → Prop) (I : List α → World → Prop) (xs : List α) (W : World) : Exit → Act → World → Prop
  | .normal, _, W' => KeepsFrom B W W' ∧ Kp W W' ∧ I xs W'
  | _, _, _ => False

theorem wpIn_range_tells {F : Fence} {n : Nat} {P : Program} {α : Type} {g : Operand} {ps : Array Tmp} {assign body : Code} {Q : Exit → Act → World → Prop} {a : Act} {w : World}
    (hro : F.round = none) (h1 : 1 ≤ n) {gf : Nat} {lb : Array Value} (hg : a.eval g = .func (.func gf) #[] lb) (hF : F.fn gf) (he : ∀ args w, (callFunc gf args).run P w = .ok (.enter gf args) w)
    {encs : α → Array Value} {Kp : World → World → Prop} {N : Nat} {T : List α → World → World → Prop} (hps : ∀ x, (encs x).size = ps.size)
    (hKt : ∀ {A B C : World}, Kp A B → Kp B C → Kp A C)
    (hKb : ∀ (W : World) (l : Nat) (o o' : Obj), w.heap.size ≤ l → W.heap[l]? = some o → o.isCells = false → o.isWalk = false → Kp W (W.putObj l o'))
    (I I2 : List α → World → Prop) (hI : OwnFrom w.heap.size I) (hI2 : OwnFrom w.heap.size I2) (h0 : I [] w)
    (hT : ∀ xs A B, I xs A → T xs A B → I2 xs B ∧ KeepsFrom w.heap.size A B)
    (hseq : ∀ (l : Nat) (J : List α → World → Prop) (W : World), Below w.heap.size w W → AbidesFrom W.heap.size J →
      (∀ pre x W1, J pre W1 → pre.length < N → YieldAt F (n - 1 - 1) P l (encs x) W1 fun e W' => e = .returned (.bool true) ∧ J (pre ++ [x]) W' ∧ Kp W1 W') →
      J [] W → CallsIn F (n - 1) P gf (#[.func (.yield l) #[] #[]] ++ lb) W fun e W' => (∃ v, e = .returned v) ∧ ∃ xs A, J xs A ∧ T xs A W')
    (Ax : α → Act → World → Prop) (hAx : ∀ x a', OwnFrom w.heap.size (fun (_ : Unit) W => Ax x a' W))
    (hassign : ∀ (l : Nat) (pre : List α) (x : α) (W : World) (K : Act → World → Prop), I pre W → (∀ a' W', KeepsFrom w.heap.size W W' → Kp W W' → I pre W' → Ax x a' W' → K a' W') →
      assign.wpIn (F.inRound l) (n - 1 - 1) P (Exit.then K (fun _ _ _ => False)) { tmps := (ps.zip (encs x)).foldl (fun t (p, v) => t.setIfInBounds p v) a.tmps, defers := [] } W)
    (hbody : ∀ (l : Nat) (pre : List α) (x : α) (a' : Act) (W : World), I pre W → Ax x a' W → pre.length < N → body.wpIn (F.inRound l) (n - 1 - 1) P (goesOn w.heap.size Kp I (pre ++ [x]) W) a' W)
    (hdone : ∀ (D : Nat) (xs : List α) (W : World), w.heap.size ≤ D → I2 xs W → W.heap[D]? = some (.deferred (some [])) → Q .normal { a with defers := { target := .collected D, args := #[] } :: a.defers } W) :
    (Code.rangeFunc g ps assign body).wpIn F n P Q a w := by
  refine wpIn_rangeFunc fun fn hfn => ?_
  rw [hro]
  obtain ⟨r, hr⟩ : ∃ r : Loop, r = { state := .ready, pending := none, fn := fn, tmps := a.tmps, params := ps, assign := assign, body := body, defers := w.heap.size } := ⟨_, rfl⟩
  have hent := run_enterLoop_outer (P := P) (w := w) fn a.tmps ps assign body
  rw [← hr] at hent
  have hbk : Books w.heap.size r ((w.alloc (.deferred (some []))).alloc (.loop r)) := by
    have h := World.alloc_heap_new (w.alloc (.deferred (some []))) (.loop r)
    rw [World.size_alloc] at h
    exact ⟨h, (Below.heap_alloc _ _ _ (by simp)).trans (World.alloc_heap_new w _)⟩
  have hbl : Below w.heap.size w ((w.alloc (.deferred (some []))).alloc (.loop r)) := ((Below.refl _ w).alloc (Nat.le_refl _) _).alloc (by simp) _
  have hi1 : I [] ((w.alloc (.deferred (some []))).alloc (.loop r)) := hI.alloc _ (hI.alloc _ h0)
  have hsz : ((w.alloc (.deferred (some []))).alloc (.loop r)).heap.size = w.heap.size + 2 := by simp
  generalize (w.alloc (.deferred (some []))).alloc (.loop r) = W0 at hent hbk hbl hi1 hsz
  refine ⟨w.heap.size + 1, _, W0, { target := .fn (.func gf) lb, args := #[.func (.yield (w.heap.size + 1)) #[] #[]] }, W0, gf, #[.func (.yield (w.heap.size + 1)) #[] #[]] ++ lb, W0, hent, ?_, ?_, ?_, fun _ => h1, ?_⟩
  · simp only [resolve, hg]
    simp [go_sem]
  · intro f' hf'
    simp [Target.leads] at hf'
    subst hf'
    exact hF
  · simp [invoke, go_sem, he]
  refine (hseq (w.heap.size + 1) (fun pre W => I pre W ∧ Books w.heap.size r W) W0 hbl ?abide ?yield ⟨hi1, hbk⟩).mono ?_
  case abide =>
    rintro s A B row ⟨hs, hk⟩ hgr hrow
    refine ⟨hI s A B row hs hgr (fun k e => ?_), hk.grown hgr (fun k e => (hrow k e).2)⟩
    obtain ⟨hk1, o, ho, hw⟩ := hrow k e
    exact ⟨by omega, o, ho, Obj.not_cells_of_walk hw⟩
  case yield =>
    rintro pre x W ⟨hi, hk⟩ hlen
    have hy := run_yield (P := P) (args := encs x) hk.loop (by rw [hr]; exact hps x)
    have p1 : r.fn = fn := by rw [hr]
    have p2 : r.tmps = a.tmps := by rw [hr]
    have p3 : r.params = ps := by rw [hr]
    have p4 : r.assign = assign := by rw [hr]
    have p5 : r.body = body := by rw [hr]
    rw [p1, p2, p3, p4, p5] at hy
    refine ⟨_, _, _, _, hy, roundIn_of_wpIn hfn ?_⟩
    refine hassign _ pre x W _ hi ?_
    intro a' Wa k1 k2 hia hax
    have hka := hk.kept k1
    refine ⟨_, run_beginRound hka.loop (by rw [hr]), ?_⟩
    have hkb := hka.put { r with state := .busy }
    refine wpIn_mono (hbody _ pre x a' _ (hI.putObj _ hia (by omega) hka.loop rfl) ((hAx x a').putObj (s := ()) _ hax (by omega) hka.loop rfl) hlen) ?_
    rintro e a3 W3 hp
    cases e with
    | normal =>
      obtain ⟨k3, kp3, hi3⟩ := hp
      have hkc := hkb.kept k3
      have hend := run_endRound (P := P) none hkc.loop
      have hrr : ({ { r with state := .busy } with state := if (none : Option Code).isNone then LoopState.ready else LoopState.done, pending := none } : Loop) = r := by rw [hr]; rfl
      rw [hrr] at hend
      refine ⟨_, _, hend, rfl, ⟨hI.putObj _ hi3 (by omega) hkc.loop rfl, hkc.put r⟩, ?_⟩
      exact hKt k2 (hKt (hKb _ _ _ _ (by omega) hka.loop rfl rfl) (hKt kp3 (hKb _ _ _ _ (by omega) hkc.loop rfl rfl)))
    | ret => exact hp.elim
    | exit id => exact hp.elim
    | goto t => exact hp.elim
    | panic c => exact hp.elim
    | outgrown => exact hp.elim
  · rintro e W2 ⟨⟨v, rfl⟩, xs, A, ⟨hi, hk⟩, ht⟩
    obtain ⟨h2, hkk⟩ := hT xs A W2 hi ht
    have hk2 := hk.kept hkk
    have hend := run_endLoop (P := P) hk2.loop (by rw [hr]; simp)
    have p6 : r.pending = none := by rw [hr]
    rw [p6] at hend
    refine ⟨none, _, hend, ?_⟩
    refine hdone _ xs _ (Nat.le_refl _) (hI2.putObj _ h2 (by omega) hk2.loop rfl) ?_
    exact (World.putObj_heap_other (by omega)).trans hk2.late
end Go.Proofs.YtjpijggbkiihhaaDoor
