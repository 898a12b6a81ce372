/-
  What is dropped: the functions that tell it; slices.Clone, IndexFunc and DeleteFunc of rows of what is due. Nothing that was there is changed, but for the row that is given to DeleteFunc. Conditions: the row has less than a million places; the function that tells answers as a plain one does.
-/
import Derived.Laws.OwnMore
import Derived.Laws.IdiomCopy
import Derived.Test.YtlbmkokdoigcnaaWQPush
import Derived.Test.YtlbmkokdoigcnaaJMem
namespace Go.Proofs.Ytlbmkokdoigcnaa
open Go.RowKit

/-- the function g, with what it has caught, answers as p does, as long as the block B is as it was in w -/
def Tells (g : Nat) (lb : Array Value) (p : DP → Bool) (B : Option Nat) (w : World) : Prop :=
  (∀ k, B = some k → k < w.heap.size) ∧ ∀ (W : World) (d : DP), (∀ k, B = some k → W.heap[k]? = w.heap[k]?) → Calls Try.prog g (#[encD d] ++ lb) W fun e W' => e = .returned (.bool (p d)) ∧ Below W.heap.size W W'
theorem Tells.kept {g : Nat} {lb : Array Value} {p : DP → Bool} {B : Option Nat} {w w' : World} (h : Tells g lb p B w) (hs : w.heap.size ≤ w'.heap.size) (hb : ∀ k, B = some k → w'.heap[k]? = w.heap[k]?) : Tells g lb p B w' :=
  ⟨fun k hk => Nat.lt_of_lt_of_le (h.1 k hk) hs, fun W d hW => h.2 W d (fun k hk => (hW k hk).trans (hb k hk))⟩
theorem Tells.below {g : Nat} {lb : Array Value} {p : DP → Bool} {B : Option Nat} {w w' : World} (h : Tells g lb p B w) (hb : Below w.heap.size w w') : Tells g lb p B w' := h.kept hb.size (fun k hk => hb.block k (h.1 k hk))

theorem none_tells (w : World) : Tells 26 #[] (fun _ => false) none w := by
  refine ⟨fun k hk => (by cases hk), fun W d _ => ?_⟩
  obtain ⟨da, di⟩ := d
  show Calls Try.prog 26 #[.agg #[.int .i64 da, .int .i64 di]] W _
  go_enter Try.func26, Try.ntmps26
  go_wp2
  go_ret
  exact ⟨rfl, (Below.refl _ W).alloc (Nat.le_refl _) _⟩
theorem bx_cell0 {W : World} {B : Nat} {t : TypeId} {v : Value} (h : Bx W B t [v]) : W.cell? ⟨B, 0, none⟩ = some v := h.cell 0 (by simp)
theorem of_tells (id : Int) (B : Nat) (w : World) (hB : Bx w B 3 [.int .i64 id]) : Tells 43 #[.pointer (some ⟨B, 0, none⟩)] (fun d => d.i == id) (some B) w := by
  refine ⟨fun k hk => by cases hk; exact hB.lt, fun W d hW => ?_⟩
  have c0 := bx_cell0 (W := W) (B := B) ((hW B rfl).trans hB)
  have hlt : B < W.heap.size := by
    have := (hW B rfl).trans hB
    exact (Array.getElem?_eq_some_iff.1 this).1
  obtain ⟨da, di⟩ := d
  show Calls Try.prog 43 #[.agg #[.int .i64 da, .int .i64 di], .pointer (some ⟨B, 0, none⟩)] W _
  go_enter Try.func43, Try.ntmps43
  go_wp2
  go_ret
  exact ⟨rfl, (Below.refl _ W).alloc (Nat.le_refl _) _⟩
theorem later_tells (now : Int) (B : Nat) (w : World) (hB : Bx w B 3 [.int .i64 now]) : Tells 27 #[.pointer (some ⟨B, 0, none⟩)] (fun d => decide (now < d.a)) (some B) w := by
  refine ⟨fun k hk => by cases hk; exact hB.lt, fun W d hW => ?_⟩
  have c0 := bx_cell0 (W := W) (B := B) ((hW B rfl).trans hB)
  have hlt : B < W.heap.size := by
    have := (hW B rfl).trans hB
    exact (Array.getElem?_eq_some_iff.1 this).1
  obtain ⟨da, di⟩ := d
  show Calls Try.prog 27 #[.agg #[.int .i64 da, .int .i64 di], .pointer (some ⟨B, 0, none⟩)] W _
  go_enter Try.func27, Try.ntmps27
  go_wp2
  go_ret
  exact ⟨rfl, (Below.refl _ W).alloc (Nat.le_refl _) _⟩

theorem own_emptyD (w : World) (e : TypeId) (size : Nat) : (w.alloc (.cells #[] e)).ownsRow w.heap.size e size (.slice (some ⟨w.heap.size, 0, none⟩) 0 0) 0 [] :=
  ⟨by simp, .inr ⟨w.heap.size, 0, #[], rfl, Nat.le_refl _, World.alloc_heap_new w _, Nat.le_refl _, Nat.zero_le _, by simp, by simp⟩⟩

set_option maxRecDepth 100000 in
set_option maxHeartbeats 1000000 in
theorem clone_any (A : Option Addr) (cap : Nat) (l : List DP) (w : World) (hA : ValsAt w A (rowD l)) (h0 : A = none → l.length = 0 ∧ cap = 0) (hl : l.length < 1000000) :
    Calls Try.prog 38 #[.slice A l.length cap] w fun e w' => ∃ v, e = .returned v ∧ w'.ownsRow w.heap.size 24 2 v l.length (rowD l) ∧ Below w.heap.size w w' := by
  obtain ⟨i0, hi, hz0, hz1, hz2⟩ := info_partsD infoDue
  cases A with
  | none =>
    obtain ⟨e1, rfl⟩ := h0 rfl
    obtain rfl : l = [] := List.eq_nil_of_length_eq_zero e1
    clear h0 hA hl e1
    dsimp only [List.length_nil]
    have hq : ∀ w, (binOp BinOp.eql 22 (.slice none 0 0) (.slice none 0 0)).run Try.prog w = .ok (.bool true) w := fun _ => by kernel_rfl
    go_enter Try.func38, Try.ntmps38
    go_wp2
    go_ret
    exact ⟨_, rfl, World.ownsRow_nil _ _ _ _, Below.refl _ _⟩
  | some ad =>
    have hrl := Lib.hid (rowD_length l)
    have h1c := Lib.hid (rowD_one l)
    clear h0
    have HA : Hid (ValsAt (w.alloc (.cells #[] 24)) (some ad) (rowD l)) := Lib.hid (hA.below ((Below.refl _ w).alloc (Nat.le_refl _) _))
    generalize rowD l = row at hrl h1c HA ⊢
    generalize l.length = n at hrl hl ⊢
    clear hA
    have hq : ∀ w, (binOp BinOp.eql 22 (.slice (some ad) n cap) (.slice none 0 0)).run Try.prog w = .ok (.bool false) w := fun _ => by kernel_rfl
    go_enter Try.func38, Try.ntmps38
    go_wp2_with (at_builtin; refine wpList_append_row rfl _ _ 22 rfl w.heap.size 24 i0 (.agg #[.int .i64 0, .int .i64 0]) 2 16 Try.underlying22 hi hz0 hz1 hz2 rfl (by decide) (.slice (some ⟨w.heap.size, 0, none⟩) 0 0) 0 [] rfl (own_emptyD w 24 2) (some ad) n cap row rfl hrl.out HA.out (fun e => by cases e) h1c.out ?s4 ?s5 ?s6 ?s7)
    case s4 => unfold maxLen; omega
    case s5 => omega
    case s6 => simp
    case s7 =>
      intro v1 w1 hown hgrow
      have hB := ((Below.refl w.heap.size w).alloc (Nat.le_refl _) (.cells #[] 24)).grown hgrow (by simp) (fun q hq => ((own_emptyD w 24 2).lt q hq).1)
      have Hown : Hid (w1.ownsRow w.heap.size 24 2 v1 n row) := Lib.hid (by simpa using hown)
      clear hown hgrow HA
      go_wp2
      go_ret
      exact ⟨_, rfl, Hown.out, hB⟩

/-- how many stand ahead of the first one of which p holds -/
def aheadOf (p : DP → Bool) (l : List DP) : Nat := (l.takeWhile fun d => !p d).length
theorem ahead_none {p : DP → Bool} : ∀ {l : List DP}, (∀ j, j < l.length → p (atD l j) = false) → aheadOf p l = l.length
  | [], _ => rfl
  | x :: l, h => by
    have h0 : p x = false := h 0 (by simp)
    have ih := ahead_none (p := p) (l := l) (fun j hj => h (j + 1) (by simpa using hj))
    unfold aheadOf at ih ⊢
    rw [List.takeWhile_cons, h0]
    simpa using ih
theorem ahead_at {p : DP → Bool} : ∀ {l : List DP} {k : Nat}, k < l.length → (∀ j, j < k → p (atD l j) = false) → p (atD l k) = true → aheadOf p l = k
  | [], k, h, _, _ => by simp at h
  | x :: l, 0, _, _, h2 => by
    have h0 : p x = true := h2
    unfold aheadOf
    rw [List.takeWhile_cons, h0]
    simp
  | x :: l, k + 1, h, h1, h2 => by
    have h0 : p x = false := h1 0 (by omega)
    have ih := ahead_at (p := p) (l := l) (k := k) (by simpa using h) (fun j hj => h1 (j + 1) (by omega)) h2
    unfold aheadOf at ih ⊢
    rw [List.takeWhile_cons, h0]
    simpa using ih

set_option maxRecDepth 100000 in
set_option maxHeartbeats 2000000 in
theorem index_any (g cap n : Nat) (l : List DP) (f : Nat) (lb : Array Value) (p : DP → Bool) (B : Option Nat) (w : World) (hf : Tells f lb p B w) (he : ∀ args w, (callFunc f args).run Try.prog w = .ok (.enter f args) w)
    (hR : RowD w g cap l) (hl : l.length = n) (hn : n < 1000000) :
    Calls Try.prog 46 #[.slice (some ⟨g, 0, none⟩) n cap, .func (.func f) #[] lb] w fun e w' =>
      e = .returned (.int .i64 (if aheadOf p l < n then (aheadOf p l : Int) else -1)) ∧ Below w.heap.size w w' := by
  obtain ⟨z, hz⟩ : ∃ z : Int, z = (if aheadOf p l < n then (aheadOf p l : Int) else -1) := ⟨_, rfl⟩
  rw [← hz]
  have HZ := Lib.hid hz
  clear hz
  go_enter Try.func46, Try.ntmps46
  go_wp2_with fail
  go_loopw [8] (fun v wr => ∃ k : Nat, v = .int .i64 k ∧ k ≤ n ∧ Below w.heap.size w wr ∧ Hid (∀ j, j < k → p (atD l j) = false)) (fun v _ => n - (intOf v).toNat)
  case atStart => exact ⟨0, rfl, Nat.zero_le _, Below.refl _ _, Lib.hid (fun j hj => absurd hj (Nat.not_lt_zero _))⟩
  case round =>
    obtain ⟨k, rfl, hk, hb, HK⟩ := hrel
    by_cases hlt : k < n
    · have hRr := hR.kept (hb.block g hR.lt)
      obtain ⟨c1, c2, -⟩ := hRr.at k (by omega)
      have hC := (hf.below hb).2 wr (atD l k) (fun _ _ => rfl)
      have HP : Hid (∀ q, p (atD l k) = q → p (atD l k) = q) := Lib.hid (fun _ h => h)
      have t0 : (0 : Int) ≤ (k : Int) := by omega
      have t1 : (k : Int) < (n : Int) := by omega
      have e1 : IntKind.i64.wrap ((k : Int) + 1) = ((k + 1 : Nat) : Int) := by simp only [IntKind.wrap_i64]; omega
      obtain ⟨d, hd⟩ : ∃ d, d = atD l k := ⟨_, rfl⟩
      rw [← hd] at hC c1 c2 HP
      have HD := Lib.hid hd
      clear hd hRr
      obtain ⟨da, di⟩ := d
      unfold encD at hC
      dsimp only at hC c1 c2
      generalize hq : p ⟨da, di⟩ = q at hC
      have HQ := Lib.hid hq
      clear hq HP
      have HR := Lib.hid hR
      clear hR
      go_wp2_with fail
      refine hC.mono ?_
      rintro e w2 ⟨rfl, hb2⟩
      have hb3 := hb.trans (hb2.mono hb.size)
      clear hC c1 c2 hb hb2
      cases q
      · have HK2 : Hid (∀ j, j < k + 1 → p (atD l j) = false) := Lib.hid (fun j hj => by
          rcases Nat.lt_or_ge j k with h | h
          · exact HK.out j h
          · obtain rfl : j = k := by omega
            rw [← HD.out]; exact HQ.out)
        clear HK HQ HD
        go_wp2
        go_roundw
        case rel => exact ⟨k + 1, rfl, hlt, hb3, HK2⟩
        case measure => simp only [intOf]; omega
      · have HE : Hid (z = (k : Int)) := Lib.hid (by
          have ha : aheadOf p l = k := ahead_at (by omega) HK.out (by rw [← HD.out]; exact HQ.out)
          rw [HZ.out, ha, if_pos hlt])
        clear HK HQ HD HZ
        go_wp2
        go_ret
        exact ⟨by rw [HE.out]; rfl, hb3⟩
    · obtain rfl : k = n := by omega
      have HE : Hid (z = -1) := Lib.hid (by
        have ha : aheadOf p l = l.length := ahead_none (fun j hj => HK.out j (by omega))
        rw [HZ.out, ha, if_neg (by omega)])
      clear HK HZ hR hf
      go_wp2
      go_ret
      exact ⟨by rw [HE.out]; rfl, hb⟩
end Go.Proofs.Ytlbmkokdoigcnaa
