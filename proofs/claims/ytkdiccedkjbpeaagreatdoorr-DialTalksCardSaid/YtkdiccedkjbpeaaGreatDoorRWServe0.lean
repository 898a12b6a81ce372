/-
  serve's small functions: refuse, silent, say, is, number, word; nothing that was there is changed. No condition.
-/
import Derived.Laws.ResultCell
import Derived.Deep.DeepCutAuto
import Derived.Test.YtkdiccedkjbpeaaGreatDoorRJMem
import Derived.Test.YtkdiccedkjbpeaaGreatDoorRKD
import Derived.Test.YtkdiccedkjbpeaaGreatDoorRKC
import Derived.Test.YtkdiccedkjbpeaaGreatDoorRKL
namespace Go.Proofs.YtkdiccedkjbpeaaGreatDoorR
open Go.RowKit

def cellsHd (h : Hd) : List Value := [.int .i64 h.st, .int .i64 h.ch, .int .i64 h.fr, .int .i64 h.bt, .string h.us, .string h.wo, .string h.ho]
def encHd (h : Hd) : Value := .agg #[.int .i64 h.st, .int .i64 h.ch, .int .i64 h.fr, .int .i64 h.bt, .string h.us, .string h.wo, .string h.ho]
def hd0 : Hd := ⟨0, 0, 0, 0, ⟨#[]⟩, ⟨#[]⟩, ⟨#[]⟩⟩
/-- a row of values in new memory -/
def RowAt (n : Nat) (w : World) (A : Option Addr) (l : List MV) : Prop := l = [] ∨ ∃ b, A = some ⟨b, 0, none⟩ ∧ n ≤ b ∧ Bx w b 51 (rowV l)
/-- what is said, in new memory -/
def SaidAt (n : Nat) (w : World) (A : Option Addr) (k : Nat) : Option Me → Prop
  | none => A = none ∧ k = 0
  | some m => k = 1 ∧ ∃ b A' c, A = some ⟨b, 0, none⟩ ∧ n ≤ b ∧ Bx w b 39 [.int .i64 m.c, .int .i64 m.i, .slice A' m.l.length c] ∧ RowAt n w A' m.l
theorem RowAt.map {n n' : Nat} {w w' : World} {A : Option Addr} {l : List MV} (h : RowAt n w A l) (hn : n' ≤ n) (hw : ∀ b t cs, n ≤ b → Bx w b t cs → Bx w' b t cs) : RowAt n' w' A l := by
  rcases h with h | ⟨b, h1, h2, h3⟩
  · exact .inl h
  · exact .inr ⟨b, h1, by omega, hw _ _ _ h2 h3⟩
theorem SaidAt.map {n n' : Nat} {w w' : World} {A : Option Addr} {k : Nat} {s : Option Me} (h : SaidAt n w A k s) (hn : n' ≤ n) (hw : ∀ b t cs, n ≤ b → Bx w b t cs → Bx w' b t cs) : SaidAt n' w' A k s := by
  cases s with
  | none => exact h
  | some m =>
    obtain ⟨h0, b, A', c, h1, h2, h3, h4⟩ := h
    exact ⟨h0, b, A', c, h1, by omega, hw _ _ _ h2 h3, h4.map hn hw⟩
theorem SaidAt.below {n n' : Nat} {w w' : World} {A : Option Addr} {k : Nat} {s : Option Me} (h : SaidAt n w A k s) (hn : n' ≤ n) (hb : Below w.heap.size w w') : SaidAt n' w' A k s := h.map hn (fun _ _ _ _ hx => hx.kept hb)
theorem SaidAt.store7 {n n' B : Nat} {w : World} {A : Option Addr} {k : Nat} {s : Option Me} (h : SaidAt n w A k s) (hn : n' ≤ n) (hB : B < n) (b0 b1 b2 b3 b4 b5 b6 : Value) : SaidAt n' (((((((w.setCell ⟨B, 0, none⟩ b0).setCell ⟨B, 1, none⟩ b1).setCell ⟨B, 2, none⟩ b2).setCell ⟨B, 3, none⟩ b3).setCell ⟨B, 4, none⟩ b4).setCell ⟨B, 5, none⟩ b5).setCell ⟨B, 6, none⟩ b6) A k s := h.map hn (fun _ _ _ hb hx => hx.other7 (by omega) b0 b1 b2 b3 b4 b5 b6)
theorem RowAt.vals {n : Nat} {w : World} {A : Option Addr} {l : List MV} (h : RowAt n w A l) : ValsAt w A (rowV l) := fun h0 => by
  rcases h with rfl | ⟨b, h1, -, h3⟩
  · simp [rowV] at h0
  · exact ⟨b, 0, h1, h3.lt, fun i hi => by rw [Nat.zero_add]; exact h3.cell i hi⟩

theorem sResults_ct {fn : Func} {p t : Tmp} {ty : TypeId} (h : fn.results = #[.cell p ty, .tmp t]) (tmps : Array Value) (P : Program) (w : World) :
    (results fn tmps).run P w = ((asAddr (tmps.getD p undef)).run P w).andThen fun a w₁ => ((loadVar ty a).run P w₁).andThen fun x w₂ => .ok (.tuple #[x, tmps.getD t undef]) w₂ := by
  simp only [results, h]
  simp [Sem.run_bind, Result.andThen]
theorem field_s (n : Int) (s : ByteArray) (w : World) : (Instr.field 51 (.agg #[.int .u64 n, .string s]) 1).run Tryz.prog w = .ok (.string s) w := by kernel_rfl
theorem field_n (n : Int) (s : ByteArray) (w : World) : (Instr.field 51 (.agg #[.int .u64 n, .string s]) 0).run Tryz.prog w = .ok (.int .u64 n) w := by kernel_rfl
set_option maxRecDepth 100000 in
set_option maxHeartbeats 1000000 in
theorem sNumber_any (n : Int) (w : World) : Calls Tryz.prog 19 #[.int .i64 n] w fun e w' => e = .returned (encV (numV n)) ∧ Below w.heap.size w w' := by
  obtain ⟨y0, y1⟩ := show _ ∧ _ from ⟨(Bx.new w 51 [.int .u64 (IntKind.u64.wrap n), .string ⟨#[]⟩]).cell 0 (by simp), (Bx.new w 51 [.int .u64 (IntKind.u64.wrap n), .string ⟨#[]⟩]).cell 1 (by simp)⟩
  have hb : Below w.heap.size w (w.alloc (.cells #[.int .u64 (IntKind.u64.wrap n), .string ⟨#[]⟩] 51)) := (Below.refl _ w).alloc (Nat.le_refl _) _
  go_enter Tryz.func19, Tryz.ntmps19
  go_wp2
  refine bodyPost_ret (v := encV (numV n)) ?_ rfl ⟨rfl, hb⟩
  rw [results_cell rfl]
  simp [asAddr, Result.andThen, go_sem, encV, numV]
set_option maxRecDepth 100000 in
set_option maxHeartbeats 1000000 in
theorem sWord_any (s : ByteArray) (w : World) : Calls Tryz.prog 20 #[.string s] w fun e w' => e = .returned (encV (wordV s)) ∧ Below w.heap.size w w' := by
  have hb : Below w.heap.size w (w.alloc (.cells #[.int .u64 0, .string s] 51)) := (Below.refl _ w).alloc (Nat.le_refl _) _
  go_enter Tryz.func20, Tryz.ntmps20
  go_wp2
  refine bodyPost_ret (v := encV (wordV s)) ?_ rfl ⟨rfl, hb⟩
  rw [results_cell rfl]
  simp [asAddr, Result.andThen, go_sem, encV, wordV]
theorem two_boxes (w : World) (l l' : List Value) (t t' : TypeId) : Bx ((w.alloc (.cells l.toArray t)).alloc (.cells l'.toArray t')) (w.heap.size + 1) t' l' ∧ Below w.heap.size w ((w.alloc (.cells l.toArray t)).alloc (.cells l'.toArray t')) := by
  have h := Bx.new (w.alloc (.cells l.toArray t)) t' l'
  rw [World.size_alloc] at h
  exact ⟨h, ((Below.refl _ w).alloc (Nat.le_refl _) _).alloc (by simp) _⟩
set_option maxRecDepth 100000 in
set_option maxHeartbeats 1000000 in
theorem refuse_any (h : Hd) (n : Int) (w : World) : Calls Tryz.prog 60 #[encHd h, .int .i64 n] w fun e w' => e = .returned (.tuple #[encHd h, .slice none 0 0, .int .i64 n]) ∧ Below w.heap.size w w' := by
  unfold encHd
  obtain ⟨st, ch, fr, bt, us, wo, ho⟩ := h
  dsimp only
  obtain ⟨bR, hb⟩ := two_boxes w [.int .i64 st, .int .i64 ch, .int .i64 fr, .int .i64 bt, .string us, .string wo, .string ho] [.int .i64 st, .int .i64 ch, .int .i64 fr, .int .i64 bt, .string us, .string wo, .string ho] 63 28
  obtain ⟨y0, y1, y2, y3, y4, y5, y6⟩ := bR.seven
  go_enter Tryz.func60, Tryz.ntmps60
  go_wp2
  refine bodyPost_ret (v := .tuple #[.agg #[.int .i64 st, .int .i64 ch, .int .i64 fr, .int .i64 bt, .string us, .string wo, .string ho], .slice none 0 0, .int .i64 n]) ?_ rfl ⟨rfl, hb⟩
  rw [results_ctt rfl]
  simp [asAddr, Result.andThen, go_sem]
set_option maxRecDepth 100000 in
set_option maxHeartbeats 1000000 in
theorem silent_any (h : Hd) (n : Int) (w : World) : Calls Tryz.prog 64 #[encHd h, .int .i64 n] w fun e w' => e = .returned (.tuple #[encHd { h with st := n }, .slice none 0 0, .int .i64 0]) ∧ Below w.heap.size w w' := by
  unfold encHd
  obtain ⟨st, ch, fr, bt, us, wo, ho⟩ := h
  dsimp only
  obtain ⟨bR, hb⟩ := two_boxes w [.int .i64 n, .int .i64 ch, .int .i64 fr, .int .i64 bt, .string us, .string wo, .string ho] [.int .i64 n, .int .i64 ch, .int .i64 fr, .int .i64 bt, .string us, .string wo, .string ho] 63 28
  obtain ⟨y0, y1, y2, y3, y4, y5, y6⟩ := bR.seven
  go_enter Tryz.func64, Tryz.ntmps64
  go_wp2
  refine bodyPost_ret (v := .tuple #[.agg #[.int .i64 n, .int .i64 ch, .int .i64 fr, .int .i64 bt, .string us, .string wo, .string ho], .slice none 0 0, .int .i64 0]) ?_ rfl ⟨rfl, hb⟩
  rw [results_ctt rfl]
  simp [asAddr, Result.andThen, go_sem]
set_option maxRecDepth 100000 in
set_option maxHeartbeats 1000000 in
theorem say_any (h : Hd) (st id : Int) (A : Option Addr) (l : List MV) (k c n : Nat) (w : World) (hk : k = l.length) (hA : RowAt n w A l) (hn : n ≤ w.heap.size) : Calls Tryz.prog 18 #[encHd h, .int .i64 st, .int .i64 id, .slice A k c] w fun e w' => ∃ B, e = .returned (.tuple #[encHd { h with st := st }, .slice (some ⟨B, 0, none⟩) 1 1, .int .i64 0]) ∧ SaidAt n w' (some ⟨B, 0, none⟩) 1 (some ⟨10, id, l⟩) ∧ Below w.heap.size w w' := by
  unfold encHd
  obtain ⟨st0, ch, fr, bt, us, wo, ho⟩ := h
  dsimp only
  obtain ⟨bR, hb⟩ := two_boxes w [.int .i64 st, .int .i64 ch, .int .i64 fr, .int .i64 bt, .string us, .string wo, .string ho] [.int .i64 st, .int .i64 ch, .int .i64 fr, .int .i64 bt, .string us, .string wo, .string ho] 28 28
  obtain ⟨W2, hW2⟩ : ∃ W2, W2 = ((w.alloc (.cells #[.int .i64 st, .int .i64 ch, .int .i64 fr, .int .i64 bt, .string us, .string wo, .string ho] 28)).alloc (.cells #[.int .i64 st, .int .i64 ch, .int .i64 fr, .int .i64 bt, .string us, .string wo, .string ho] 28)) := ⟨_, rfl⟩
  have hs : W2.heap.size = w.heap.size + 1 + 1 := by rw [hW2]; simp
  have hb2 : Below W2.heap.size W2 (W2.alloc (.cells #[.int .i64 10, .int .i64 id, .slice A k c] 39)) := (Below.refl _ W2).alloc (Nat.le_refl _) _
  have bM := Bx.new W2 39 [.int .i64 10, .int .i64 id, .slice A k c]
  have e1 : ((w.alloc (.cells [.int .i64 st, .int .i64 ch, .int .i64 fr, .int .i64 bt, .string us, .string wo, .string ho].toArray 28)).alloc (.cells [.int .i64 st, .int .i64 ch, .int .i64 fr, .int .i64 bt, .string us, .string wo, .string ho].toArray 28)) = W2 := hW2.symm
  rw [e1] at bR hb
  have bR2 := bR.kept hb2
  have hB2 := hb.trans (hb2.mono hb.size)
  have hA2 : RowAt n (W2.alloc (.cells #[.int .i64 10, .int .i64 id, .slice A k c] 39)) A l := hA.map (Nat.le_refl _) (fun _ _ _ _ hx => hx.kept hB2)
  have HS : Hid (SaidAt n (W2.alloc (.cells #[.int .i64 10, .int .i64 id, .slice A k c] 39)) (some ⟨W2.heap.size, 0, none⟩) 1 (some ⟨10, id, l⟩)) := Lib.hid ⟨rfl, W2.heap.size, A, c, rfl, by omega, by rw [← hk]; exact bM, hA2⟩
  rw [hs] at HS
  obtain ⟨y0, y1, y2, y3, y4, y5, y6⟩ := bR2.seven
  clear hA hA2 bM bR bR2 hb hb2 hk hn e1 hs
  subst hW2
  go_enter Tryz.func18, Tryz.ntmps18
  go_wp2
  refine bodyPost_ret (v := .tuple #[.agg #[.int .i64 st, .int .i64 ch, .int .i64 fr, .int .i64 bt, .string us, .string wo, .string ho], .slice (some ⟨w.heap.size + 1 + 1, 0, none⟩) 1 1, .int .i64 0]) ?_ rfl ⟨_, rfl, HS.out, hB2⟩
  rw [results_ctt rfl]
  simp [asAddr, Result.andThen, go_sem, y0, y1, y2, y3, y4, y5, y6]
set_option maxRecDepth 100000 in
set_option maxHeartbeats 1000000 in
theorem is_any (c i : Int) (A : Option Addr) (k cap : Nat) (id : Int) (w : World) : Calls Tryz.prog 61 #[.agg #[.int .i64 c, .int .i64 i, .slice A k cap], .int .i64 id] w fun e w' => e = .returned (.bool (c == 10 && i == id)) ∧ Below w.heap.size w w' := by
  have hb : Below w.heap.size w (w.alloc (.cells #[.int .i64 c, .int .i64 i, .slice A k cap] 39)) := (Below.refl _ w).alloc (Nat.le_refl _) _
  by_cases h : c = 10
  · subst h
    rw [show ((10 : Int) == 10 && i == id) = (i == id) by simp]
    go_enter Tryz.func61, Tryz.ntmps61
    go_wp2
    go_ret
    exact ⟨rfl, hb⟩
  · have e : (c == 10 && i == id) = false := by simp [h]
    rw [e]
    clear e
    go_enter Tryz.func61, Tryz.ntmps61
    go_wp2
    go_ret
    exact ⟨rfl, hb⟩
end Go.Proofs.YtkdiccedkjbpeaaGreatDoorR
