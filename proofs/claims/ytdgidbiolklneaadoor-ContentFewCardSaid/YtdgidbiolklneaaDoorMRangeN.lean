/-
  A range over a function whose iterator goes itself through another one: the body may leave the loop by a return; it keeps what the iterator asks for, also where it leaves. The caller's invariant abides what the iterator writes: blocks of its own that are no cells, or of a type that the caller doesn't lean on. No condition.
-/
import Derived.RangeFuncNested
import Derived.RangeFuncBound
import Derived.RangeFuncCalls
import Derived.RangeFuncLeaves
import Derived.Test.YtdgidbiolklneaaDoorJMem
namespace Go.Proofs.YtdgidbiolklneaaDoor
open Go.RowKit

/-- it abides the turn of a block from B on that is no cells, or cells of a type of which q holds -/
def Ab {β : Type} (q : TypeId → Bool) (B : Nat) (J : β → World → Prop) : Prop :=
  ∀ s X Y row, J s X → X.grownBy Y row → (∀ r, row = some r → B ≤ r ∧ ∃ o : Obj, X.heap[r]? = some o ∧ ∀ cs t fz, o = .cells cs t fz → q t = true) → J s Y
theorem Ab.mono {β : Type} {q : TypeId → Bool} {B B' : Nat} {J : β → World → Prop} (h : Ab q B J) (hB : B ≤ B') : Ab q B' J := fun s X Y row hs hg hr => h s X Y row hs hg (fun r e => ⟨Nat.le_trans hB (hr r e).1, (hr r e).2⟩)
theorem not_cells_q {q : TypeId → Bool} {o : Obj} (h : o.isCells = false) : ∀ cs t fz, o = .cells cs t fz → q t = true := fun cs t fz e => by subst e; cases h
theorem Ab.own {β : Type} {q : TypeId → Bool} {B : Nat} {J : β → World → Prop} (h : Ab q B J) : OwnFrom B J := fun s X Y row hs hg hr => h s X Y row hs hg (fun r e => by
  obtain ⟨h1, o, h2, h3⟩ := hr r e
  exact ⟨h1, o, h2, not_cells_q h3⟩)
theorem Ab.alloc {β : Type} {q : TypeId → Bool} {B : Nat} {J : β → World → Prop} (h : Ab q B J) {s : β} {W : World} (o : Obj) (hs : J s W) : J s (W.alloc o) :=
  h s W _ none hs (World.grownBy_alloc W o none) (fun r e => by cases e)
theorem Ab.set {β : Type} {q : TypeId → Bool} {B : Nat} {J : β → World → Prop} (h : Ab q B J) {s : β} {W : World} {b : Nat} {t : TypeId} {v : Value} (hs : J s W) (hb : Boxed W b t v) (hB : B ≤ b) (hq : q t = true) (u : Value) : J s (W.setCell ⟨b, 0, none⟩ u) :=
  h s W _ (some b) hs (grownBy_setCell' W b u) (fun r e => by
    obtain rfl : b = r := by simpa using e
    exact ⟨hB, _, hb, fun cs t' fz e' => by cases e'; exact hq⟩)
theorem Ab.and {β : Type} {q : TypeId → Bool} {B : Nat} {J J' : β → World → Prop} (h : Ab q B J) (h' : Ab q B J') : Ab q B (fun s W => J s W ∧ J' s W) := fun s X Y row hs hg hr => ⟨h s X Y row hs.1 hg hr, h' s X Y row hs.2 hg hr⟩

/-- what an iterator asks to be kept: blocks from B on that are no cells, and cells of a type of which p holds -/
structure Kept (B : Nat) (p : TypeId → Bool) (W W' : World) : Prop where
  size : W.heap.size ≤ W'.heap.size
  same : ∀ (g : Nat) (o : Obj), W.heap[g]? = some o → (o.isCells = false → B ≤ g) → (∀ cs t fz, o = .cells cs t fz → p t = true) → W'.heap[g]? = some o
theorem Kept.refl (B : Nat) (p : TypeId → Bool) (W : World) : Kept B p W W := ⟨Nat.le_refl _, fun _ _ h _ _ => h⟩
theorem Kept.trans {B : Nat} {p : TypeId → Bool} {X Y Z : World} (h : Kept B p X Y) (k : Kept B p Y Z) : Kept B p X Z := ⟨Nat.le_trans h.size k.size, fun g o h1 h2 h3 => k.same g o (h.same g o h1 h2 h3) h2 h3⟩
theorem Kept.of {B : Nat} {p : TypeId → Bool} {X Y : World} (hs : X.heap.size ≤ Y.heap.size) (h : Keeps p X Y) : Kept B p X Y := ⟨hs, fun g o h1 _ h3 => h g o h1 h3⟩
theorem Kept.below {B : Nat} {p : TypeId → Bool} {X Y : World} (h : Below X.heap.size X Y) : Kept B p X Y := .of h.size (Keeps.below h)
theorem Kept.put {B l : Nat} {p : TypeId → Bool} {X : World} {o : Obj} (hl : X.heap[l]? = some o) (ho : o.isCells = false) (hB : l < B) (o' : Obj) : Kept B p X (X.putObj l o') :=
  ⟨by simp, fun g q h1 h2 _ => (World.putObj_heap_other (fun e => by
    subst e
    rw [hl] at h1
    cases h1
    have := h2 ho
    omega)).trans h1⟩
theorem Kept.from {B B' : Nat} {p : TypeId → Bool} {X Y : World} (h : Kept B p X Y) (hB : B ≤ B') : KeepsFrom B' X Y := ⟨h.size, fun k o hk h1 h2 => h.same k o h1 (fun _ => by omega) (fun cs t fz e => by subst e; cases h2)⟩
theorem Kept.boxed {B b : Nat} {p : TypeId → Bool} {X Y : World} (h : Kept B p X Y) {t : TypeId} {v : Value} (hb : Boxed X b t v) (hp : p t = true) : Boxed Y b t v := h.same b _ hb (fun e => by cases e) (fun cs t' fz e => by cases e; exact hp)
theorem Kept.bx {B b : Nat} {p : TypeId → Bool} {X Y : World} (h : Kept B p X Y) {t : TypeId} {l : List Value} (hb : Bx X b t l) (hp : p t = true) : Bx Y b t l := h.same b _ hb (fun e => by cases e) (fun cs t' fz e => by cases e; exact hp)

/-- with no bound on the stack a round's room is any -/
theorem yield_room {P : Program} {m m' l : Nat} {args : Array Value} {W : World} {R : Ending → World → Prop} (h : YieldAt Fence.wide m P l args W R) : YieldAt Fence.wide m' P l args W R := by
  obtain ⟨fn, tmps, assign, body, hy, hR⟩ := h
  exact ⟨fn, tmps, assign, body, hy, hR.1, fun c cs _ => hR.2 c cs (room_wide _)⟩

/-- how the body of such a loop is left -/
def leaves {α : Type} (B : Nat) (Kp : World → World → Prop) (I Ix : List α → World → Prop) (xs : List α) (W : World) : Exit → Act → World → Prop
  | .normal, _, W' => KeepsFrom B W W' ∧ Kp W W' ∧ I xs W'
  | .ret, _, W' => KeepsFrom B W W' ∧ Kp W W' ∧ Ix xs W'
  | _, _, _ => False

/-- the contract of an iterator that goes through another one -/
def Through {α : Type} (P : Program) (gf : Nat) (lb : Array Value) (encs : α → Array Value) (q : TypeId → Bool) (Kp : Nat → World → World → Prop) (Ok : List α → α → Prop) (S Sp : List α → Prop) (w : World) : Prop :=
  ∀ (l : Nat) (J Jx : List α → World → Prop) (W : World), Below w.heap.size w W → Ab q W.heap.size J → Ab q W.heap.size Jx →
    (∀ pre x W1, J pre W1 → Ok pre x → YieldAt Fence.wide 0 P l (encs x) W1 fun e W' => (e = .returned (.bool true) ∧ J (pre ++ [x]) W' ∧ Kp W.heap.size W1 W') ∨ (e = .returned (.bool false) ∧ Jx (pre ++ [x]) W' ∧ Kp W.heap.size W1 W')) →
    J [] W → CallsIn Fence.wide 0 P gf (#[.func (.yield l) #[] #[]] ++ lb) W fun e W' => (∃ v, e = .returned v) ∧ ((∃ xs, S xs ∧ J xs W') ∨ (∃ pre, Sp pre ∧ Jx pre W'))

theorem callsIn_room {n m : Nat} {P : Program} {f : FuncId} {args : Array Value} {w : World} {R : Ending → World → Prop} (h : CallsIn Fence.wide n P f args w R) : CallsIn Fence.wide m P f args w R := callsIn_wide.2 (callsIn_wide.1 h)

theorem wpIn_range_through {n : Nat} {P : Program} {α : Type} {g : Operand} {ps : Array Tmp} {assign body : Code} {Q : Exit → Act → World → Prop} {a : Act} {w : World}
    (h1 : 1 ≤ n) {gf : Nat} {lb : Array Value} (hg : a.eval g = .func (.func gf) #[] lb) (he : ∀ args w, (callFunc gf args).run P w = .ok (.enter gf args) w)
    {encs : α → Array Value} {q : TypeId → Bool} {Kp : Nat → World → World → Prop} {Ok : List α → α → Prop} {S Sp : List α → Prop} {w0 : World} (hseq : Through P gf lb encs q Kp Ok S Sp w0) (hb0 : Below w0.heap.size w0 w) (hps : ∀ x, (encs x).size = ps.size)
    (hKt : ∀ {B : Nat} {X Y Z : World}, Kp B X Y → Kp B Y Z → Kp B X Z)
    (hKb : ∀ (B : Nat) (W : World) (l : Nat) (o o' : Obj), l < B → W.heap[l]? = some o → o.isCells = false → Kp B W (W.putObj l o'))
    (I Ix : List α → World → Prop) (hI : Ab q w.heap.size I) (hIx : Ab q w.heap.size Ix) (h0 : I [] w)
    (Ax : α → Act → Prop)
    (hassign : ∀ (l : Nat) (pre : List α) (x : α) (W : World) (K : Act → World → Prop), I pre W → (∀ a', Ax x a' → K a' W) →
      assign.wpIn (Fence.wide.inRound l) (n - 1 - 1) P (Exit.then K (fun _ _ _ => False)) { tmps := (ps.zip (encs x)).foldl (fun t (p, v) => t.setIfInBounds p v) a.tmps, defers := [] } W)
    (hbody : ∀ (l : Nat) (pre : List α) (x : α) (a' : Act) (W : World), I pre W → Ax x a' → Ok pre x → body.wpIn (Fence.wide.inRound l) (n - 1 - 1) P (leaves w.heap.size (Kp (w.heap.size + 2)) I Ix (pre ++ [x]) W) a' W)
    (hdone : ∀ (D : Nat) (xs : List α) (W : World), w.heap.size ≤ D → S xs → I xs W → W.heap[D]? = some (.deferred (some [])) → Q .normal { a with defers := { target := .collected D, args := #[] } :: a.defers } W)
    (hstop : ∀ (D : Nat) (pre : List α) (W : World), w.heap.size ≤ D → Sp pre → Ix pre W → W.heap[D]? = some (.deferred (some [])) → Code.ret.wpIn Fence.wide n P Q { a with defers := { target := .collected D, args := #[] } :: a.defers } W) :
    (Code.rangeFunc g ps assign body).wpIn Fence.wide n P Q a w := by
  refine wpIn_rangeFunc fun fn hfn => ?_
  rw [show Fence.wide.round = none from rfl]
  obtain ⟨rc, hrc⟩ : ∃ rc : LoopState → Option Code → Loop, rc = fun st pe => { state := st, pending := pe, fn := fn, tmps := a.tmps, params := ps, assign := assign, body := body, defers := w.heap.size } := ⟨_, rfl⟩
  have hent := run_enterLoop_outer (P := P) (w := w) fn a.tmps ps assign body
  have er : ({ state := .ready, pending := none, fn := fn, tmps := a.tmps, params := ps, assign := assign, body := body, defers := w.heap.size } : Loop) = rc .ready none := by rw [hrc]
  rw [er] at hent
  have hL : ((w.alloc (.deferred (some []))).alloc (.loop (rc .ready none))).heap[w.heap.size + 1]? = some (.loop (rc .ready none)) := by
    have h := World.alloc_heap_new (w.alloc (.deferred (some []))) (.loop (rc .ready none))
    rwa [World.size_alloc] at h
  have hD : ((w.alloc (.deferred (some []))).alloc (.loop (rc .ready none))).heap[w.heap.size]? = some (.deferred (some [])) := (Below.heap_alloc _ _ _ (by simp)).trans (World.alloc_heap_new w _)
  have hbl : Below w.heap.size w ((w.alloc (.deferred (some []))).alloc (.loop (rc .ready none))) := ((Below.refl _ w).alloc (Nat.le_refl _) _).alloc (by simp) _
  have hi1 : I [] ((w.alloc (.deferred (some []))).alloc (.loop (rc .ready none))) := hI.alloc _ (hI.alloc _ h0)
  have hsz : ((w.alloc (.deferred (some []))).alloc (.loop (rc .ready none))).heap.size = w.heap.size + 2 := by simp
  generalize (w.alloc (.deferred (some []))).alloc (.loop (rc .ready none)) = W0 at hent hL hD hbl hi1 hsz
  have hkeep : ∀ {X Y : World} {row : Option Nat} {k : Nat} {o : Obj}, X.grownBy Y row → (∀ r, row = some r → W0.heap.size ≤ r ∧ ∃ o : Obj, X.heap[r]? = some o ∧ ∀ cs t fz, o = .cells cs t fz → q t = true) → k < w.heap.size + 2 → X.heap[k]? = some o → Y.heap[k]? = some o := by
    intro X Y row k o hgr hr hk ho
    refine (hgr.block k (Array.getElem?_eq_some_iff.1 ho).1 (fun e => ?_)).trans ho
    have := (hr k e.symm).1
    omega
  have hlow : ∀ {X : World} {row : Option Nat}, (∀ r, row = some r → W0.heap.size ≤ r ∧ ∃ o : Obj, X.heap[r]? = some o ∧ ∀ cs t fz, o = .cells cs t fz → q t = true) → (∀ r, row = some r → w.heap.size ≤ r ∧ ∃ o : Obj, X.heap[r]? = some o ∧ ∀ cs t fz, o = .cells cs t fz → q t = true) := by
    intro X row hr r e
    obtain ⟨h1, h2⟩ := hr r e
    exact ⟨by omega, h2⟩
  refine ⟨w.heap.size + 1, _, W0, { target := .fn (.func gf) lb, args := #[.func (.yield (w.heap.size + 1)) #[] #[]] }, W0, gf, #[.func (.yield (w.heap.size + 1)) #[] #[]] ++ lb, W0, hent, ?_, ?_, ?_, fun _ => h1, ?_⟩
  · simp only [resolve, hg]
    simp [go_sem]
  · intro f' _
    trivial
  · simp [invoke, go_sem, he]
  refine (callsIn_room (hseq (w.heap.size + 1) (fun pre W => I pre W ∧ W.heap[w.heap.size + 1]? = some (.loop (rc .ready none)) ∧ W.heap[w.heap.size]? = some (.deferred (some [])))
    (fun pre W => Ix pre W ∧ W.heap[w.heap.size + 1]? = some (.loop (rc .done (some .ret))) ∧ W.heap[w.heap.size]? = some (.deferred (some []))) W0 (hb0.trans (hbl.mono hb0.size)) ?abJ ?abX ?yield ⟨hi1, hL, hD⟩)).mono ?_
  case abJ =>
    rintro s X Y row ⟨hs, hl, hd⟩ hgr hr
    exact ⟨hI s X Y row hs hgr (hlow hr), hkeep hgr hr (by omega) hl, hkeep hgr hr (by omega) hd⟩
  case abX =>
    rintro s X Y row ⟨hs, hl, hd⟩ hgr hr
    exact ⟨hIx s X Y row hs hgr (hlow hr), hkeep hgr hr (by omega) hl, hkeep hgr hr (by omega) hd⟩
  case yield =>
    rintro pre x W ⟨hi, hl, hd⟩ hlen
    refine yield_room (m := n - 1 - 1) ?_
    have hy := run_yield (P := P) (args := encs x) hl (by rw [hrc]; exact hps x)
    rw [hrc] at hy
    refine ⟨fn, _, assign, body, hy, roundIn_of_wpIn hfn (hassign _ pre x W _ hi ?_)⟩
    clear hy
    intro a' hax
    refine ⟨_, run_beginRound hl (by rw [hrc]), ?_⟩
    have hlt : w.heap.size + 1 < W.heap.size := (Array.getElem?_eq_some_iff.1 hl).1
    have hl2 : (W.putObj (w.heap.size + 1) (.loop { rc .ready none with state := .busy })).heap[w.heap.size + 1]? = some (.loop { rc .ready none with state := .busy }) := World.putObj_heap_same hlt
    have hd2 : (W.putObj (w.heap.size + 1) (.loop { rc .ready none with state := .busy })).heap[w.heap.size]? = some (.deferred (some [])) := (World.putObj_heap_other (by omega)).trans hd
    have hk2 := hKb (w.heap.size + 2) W (w.heap.size + 1) _ (.loop { rc .ready none with state := .busy }) (by omega) hl rfl
    refine wpIn_mono (hbody _ pre x a' _ (hI.own.putObj _ hi (by omega) hl rfl) hax hlen) ?_
    rw [hsz]
    rintro e a3 W3 hp
    cases e with
    | normal =>
      obtain ⟨k3, kp3, hi3⟩ := hp
      have hl3 := k3.same _ _ (by omega) hl2 rfl
      have hd3 := k3.same _ _ (Nat.le_refl _) hd2 rfl
      have hend := run_endRound (P := P) none hl3
      have hrr : ({ { rc .ready none with state := .busy } with state := if (none : Option Code).isNone then LoopState.ready else LoopState.done, pending := none } : Loop) = rc .ready none := by rw [hrc]; rfl
      rw [hrr] at hend
      exact ⟨_, _, hend, .inl ⟨rfl, ⟨hI.own.putObj _ hi3 (by omega) hl3 rfl, World.putObj_heap_same (Array.getElem?_eq_some_iff.1 hl3).1, (World.putObj_heap_other (by omega)).trans hd3⟩, hKt hk2 (hKt kp3 (hKb _ _ _ _ _ (by omega) hl3 rfl))⟩⟩
    | ret =>
      obtain ⟨k3, kp3, hi3⟩ := hp
      have hl3 := k3.same _ _ (by omega) hl2 rfl
      have hd3 := k3.same _ _ (Nat.le_refl _) hd2 rfl
      have hend := run_endRound (P := P) (some .ret) hl3
      have hrr : ({ { rc .ready none with state := .busy } with state := if (some Code.ret).isNone then LoopState.ready else LoopState.done, pending := some Code.ret } : Loop) = rc .done (some .ret) := by rw [hrc]; rfl
      rw [hrr] at hend
      exact ⟨_, _, hend, .inr ⟨rfl, ⟨hIx.own.putObj _ hi3 (by omega) hl3 rfl, World.putObj_heap_same (Array.getElem?_eq_some_iff.1 hl3).1, (World.putObj_heap_other (by omega)).trans hd3⟩, hKt hk2 (hKt kp3 (hKb _ _ _ _ _ (by omega) hl3 rfl))⟩⟩
    | exit id => exact hp.elim
    | goto t => exact hp.elim
    | panic c => exact hp.elim
    | outgrown => exact hp.elim
  · rintro e W2 ⟨⟨v, rfl⟩, (⟨xs, hS, hi, hl, hd⟩ | ⟨pre, hSp, hi, hl, hd⟩)⟩
    · have hend := run_endLoop (P := P) hl (by rw [hrc]; simp)
      rw [show (rc .ready none).pending = none by rw [hrc]] at hend
      exact ⟨none, _, hend, hdone _ xs _ (Nat.le_refl _) hS (hI.own.putObj _ hi (by omega) hl rfl) ((World.putObj_heap_other (by omega)).trans hd)⟩
    · have hend := run_endLoop (P := P) hl (by rw [hrc]; simp)
      rw [show (rc .done (some .ret)).pending = some .ret by rw [hrc]] at hend
      exact ⟨some .ret, _, hend, hstop _ pre _ (Nat.le_refl _) hSp (hIx.own.putObj _ hi (by omega) hl rfl) ((World.putObj_heap_other (by omega)).trans hd)⟩
end Go.Proofs.YtdgidbiolklneaaDoor
