/-
  dial's small functions: refuse, say, is, conn, number, text; nothing that was there is changed. No condition.
-/
import Derived.Test.YtkdiccedkjbpeaaGreatDoorRWServe0
import Derived.Test.YtkdiccedkjbpeaaGreatDoorRKE
namespace Go.Proofs.YtkdiccedkjbpeaaGreatDoorR
open Go.RowKit

/-- what a broker's connection says, in new memory: at most two methods -/
def DSaid (n : Nat) (w : World) (A : Option Addr) (k : Nat) : List Me → Prop
  | [] => A = none ∧ k = 0
  | [m] => SaidAt n w A k (some m)
  | [m, m'] => k = 2 ∧ ∃ b A1 c1 A2 c2, A = some ⟨b, 0, none⟩ ∧ n ≤ b ∧ Bx w b 39 [.int .i64 m.c, .int .i64 m.i, .slice A1 m.l.length c1, .int .i64 m'.c, .int .i64 m'.i, .slice A2 m'.l.length c2] ∧ RowAt n w A1 m.l ∧ RowAt n w A2 m'.l
  | _ => False
theorem DSaid.map {n n' : Nat} {w w' : World} {A : Option Addr} {k : Nat} {l : List Me} (h : DSaid n w A k l) (hn : n' ≤ n) (hw : ∀ b t cs, n ≤ b → Bx w b t cs → Bx w' b t cs) : DSaid n' w' A k l := by
  match l, h with
  | [], h => exact h
  | [m], h => exact SaidAt.map (s := some m) (show SaidAt n w A k (some m) from h) hn hw
  | [m, m'], h =>
    obtain ⟨h0, b, A1, c1, A2, c2, h1, h2, h3, h4, h5⟩ := h
    exact ⟨h0, b, A1, c1, A2, c2, h1, by omega, hw _ _ _ h2 h3, h4.map hn hw, h5.map hn hw⟩
theorem DSaid.below {n n' : Nat} {w w' : World} {A : Option Addr} {k : Nat} {l : List Me} (h : DSaid n w A k l) (hn : n' ≤ n) (hb : Below w.heap.size w w') : DSaid n' w' A k l := h.map hn (fun _ _ _ _ hx => hx.kept hb)
theorem DSaid.store7 {n n' B : Nat} {w : World} {A : Option Addr} {k : Nat} {l : List Me} (h : DSaid n w A k l) (hn : n' ≤ n) (hB : B < n) (b0 b1 b2 b3 b4 b5 b6 : Value) : DSaid n' (((((((w.setCell ⟨B, 0, none⟩ b0).setCell ⟨B, 1, none⟩ b1).setCell ⟨B, 2, none⟩ b2).setCell ⟨B, 3, none⟩ b3).setCell ⟨B, 4, none⟩ b4).setCell ⟨B, 5, none⟩ b5).setCell ⟨B, 6, none⟩ b6) A k l := h.map hn (fun _ _ _ hb hx => hx.other7 (by omega) b0 b1 b2 b3 b4 b5 b6)
theorem DSaid.of {n : Nat} {w : World} {A : Option Addr} {k : Nat} {s : Option Me} (h : SaidAt n w A k s) : DSaid n w A k s.toList := by
  cases s <;> exact h
/-- what a state's taking answers -/
def DnPost (r : Dn) (w : World) (e : Ending) (w' : World) : Prop := ∃ A k c, e = .returned (.tuple #[encHd r.k, .slice A k c, .int .i64 r.e]) ∧ DSaid w.heap.size w' A k r.s ∧ Below w.heap.size w w'
set_option maxRecDepth 100000 in
set_option maxHeartbeats 2000000 in
theorem dNumber_any (n : Int) (w : World) : Calls Tryz.prog 59 #[.int .i64 n] w fun e w' => e = .returned (encV (numV n)) ∧ Below w.heap.size w w' := by
  obtain ⟨y0, y1⟩ := show _ ∧ _ from ⟨(Bx.new w 51 [.int .u64 (IntKind.u64.wrap n), .string ⟨#[]⟩]).cell 0 (by simp), (Bx.new w 51 [.int .u64 (IntKind.u64.wrap n), .string ⟨#[]⟩]).cell 1 (by simp)⟩
  have hb : Below w.heap.size w (w.alloc (.cells #[.int .u64 (IntKind.u64.wrap n), .string ⟨#[]⟩] 51)) := (Below.refl _ w).alloc (Nat.le_refl _) _
  go_enter Tryz.func59, Tryz.ntmps59
  go_wp2
  refine bodyPost_ret (v := encV (numV n)) ?_ rfl ⟨rfl, hb⟩
  rw [results_cell rfl]
  simp [asAddr, Result.andThen, go_sem, encV, numV]
set_option maxRecDepth 100000 in
set_option maxHeartbeats 2000000 in
theorem dText_any (s : ByteArray) (w : World) : Calls Tryz.prog 56 #[.string s] w fun e w' => e = .returned (encV (wordV s)) ∧ Below w.heap.size w w' := by
  have hb : Below w.heap.size w (w.alloc (.cells #[.int .u64 0, .string s] 51)) := (Below.refl _ w).alloc (Nat.le_refl _) _
  go_enter Tryz.func56, Tryz.ntmps56
  go_wp2
  refine bodyPost_ret (v := encV (wordV s)) ?_ rfl ⟨rfl, hb⟩
  rw [results_cell rfl]
  simp [asAddr, Result.andThen, go_sem, encV, wordV]
set_option maxRecDepth 100000 in
set_option maxHeartbeats 2000000 in
theorem dConn_any (id : Int) (A : Option Addr) (k c : Nat) (w : World) : Calls Tryz.prog 55 #[.int .i64 id, .slice A k c] w fun e w' => e = .returned (.agg #[.int .i64 10, .int .i64 id, .slice A k c]) ∧ Below w.heap.size w w' := by
  have hb : Below w.heap.size w (w.alloc (.cells #[.int .i64 10, .int .i64 id, .slice A k c] 39)) := (Below.refl _ w).alloc (Nat.le_refl _) _
  go_enter Tryz.func55, Tryz.ntmps55
  go_wp2
  refine bodyPost_ret (v := .agg #[.int .i64 10, .int .i64 id, .slice A k c]) ?_ rfl ⟨rfl, hb⟩
  rw [results_cell rfl]
  simp [asAddr, Result.andThen, go_sem]
set_option maxRecDepth 100000 in
set_option maxHeartbeats 2000000 in
theorem dRefuse_any (h : Hd) (n : Int) (w : World) : Calls Tryz.prog 53 #[encHd h, .int .i64 n] w fun e w' => e = .returned (.tuple #[encHd h, .slice none 0 0, .int .i64 n]) ∧ Below w.heap.size w w' := by
  unfold encHd
  obtain ⟨st, ch, fr, bt, us, wo, ho⟩ := h
  dsimp only
  obtain ⟨bR, hb⟩ := two_boxes w [.int .i64 st, .int .i64 ch, .int .i64 fr, .int .i64 bt, .string us, .string wo, .string ho] [.int .i64 st, .int .i64 ch, .int .i64 fr, .int .i64 bt, .string us, .string wo, .string ho] 59 28
  obtain ⟨y0, y1, y2, y3, y4, y5, y6⟩ := bR.seven
  go_enter Tryz.func53, Tryz.ntmps53
  go_wp2
  refine bodyPost_ret (v := .tuple #[.agg #[.int .i64 st, .int .i64 ch, .int .i64 fr, .int .i64 bt, .string us, .string wo, .string ho], .slice none 0 0, .int .i64 n]) ?_ rfl ⟨rfl, hb⟩
  rw [results_ctt rfl]
  simp [asAddr, Result.andThen, go_sem]
set_option maxRecDepth 100000 in
set_option maxHeartbeats 2000000 in
theorem dSay_any (h : Hd) (n : Int) (A : Option Addr) (k c : Nat) (w : World) : Calls Tryz.prog 54 #[encHd h, .int .i64 n, .slice A k c] w fun e w' => e = .returned (.tuple #[encHd { h with st := n }, .slice A k c, .int .i64 0]) ∧ Below w.heap.size w w' := by
  unfold encHd
  obtain ⟨st, ch, fr, bt, us, wo, ho⟩ := h
  dsimp only
  obtain ⟨bR, hb⟩ := two_boxes w [.int .i64 n, .int .i64 ch, .int .i64 fr, .int .i64 bt, .string us, .string wo, .string ho] [.int .i64 n, .int .i64 ch, .int .i64 fr, .int .i64 bt, .string us, .string wo, .string ho] 59 28
  obtain ⟨y0, y1, y2, y3, y4, y5, y6⟩ := bR.seven
  go_enter Tryz.func54, Tryz.ntmps54
  go_wp2
  refine bodyPost_ret (v := .tuple #[.agg #[.int .i64 n, .int .i64 ch, .int .i64 fr, .int .i64 bt, .string us, .string wo, .string ho], .slice A k c, .int .i64 0]) ?_ rfl ⟨rfl, hb⟩
  rw [results_ctt rfl]
  simp [asAddr, Result.andThen, go_sem]
set_option maxRecDepth 100000 in
set_option maxHeartbeats 2000000 in
theorem dIs_any (c i : Int) (A : Option Addr) (k cap : Nat) (id : Int) (w : World) : Calls Tryz.prog 50 #[.agg #[.int .i64 c, .int .i64 i, .slice A k cap], .int .i64 id] w fun e w' => e = .returned (.bool (c == 10 && i == id)) ∧ Below w.heap.size w w' := by
  have hb : Below w.heap.size w (w.alloc (.cells #[.int .i64 c, .int .i64 i, .slice A k cap] 39)) := (Below.refl _ w).alloc (Nat.le_refl _) _
  by_cases h : c = 10
  · subst h
    rw [show ((10 : Int) == 10 && i == id) = (i == id) by simp]
    go_enter Tryz.func50, Tryz.ntmps50
    go_wp2
    go_ret
    exact ⟨rfl, hb⟩
  · have e : (c == 10 && i == id) = false := by simp [h]
    rw [e]
    clear e
    go_enter Tryz.func50, Tryz.ntmps50
    go_wp2
    go_ret
    exact ⟨rfl, hb⟩
end Go.Proofs.YtkdiccedkjbpeaaGreatDoorR
