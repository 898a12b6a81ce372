/-
  Several texts joined in one file: each says at its own head, below, what it proves, and its conditions.
-/
import Derived.Test.YtjpldfkhacchdaaDoorWPBytes
import Derived.Laws.StructEq
import Derived.Test.YtjpldfkhacchdaaDoorMVals
import Derived.BigQuiet
import Derived.Deep.QuietTactic
import Derived.Test.YtjpldfkhacchdaaDoorJMem
import Derived.Test.YtjpldfkhacchdaaDoorWPShape
/-
  props.Right and Letters, and the document's example, answer as the plain functions say; nothing that was there is changed. Conditions: as for props.Bytes.
-/
namespace Go.Proofs.YtjpldfkhacchdaaDoor
open Go.RowKit

set_option maxHeartbeats 1000000 in
theorem pright_any (h : He) (A : Option Addr) (cap : Nat) (w : World) (hw : Wid w) (hh : wfH h) (hA : ValsAt w A (rowV h.l)) :
    Calls Tryd.prog 15 #[encH h A cap] w fun e w' => e = .returned (.int .i64 (hE h)) ∧ Below w.heap.size w w' := by
  have hb0 : Below w.heap.size w (w.alloc (.cells #[.int .i64 h.c, .int .u64 h.z, .int .u64 h.f, .slice A h.l.length cap] 25)) := (Below.refl _ w).alloc (Nat.le_refl _) _
  have hBy := pbytes_any h A cap _ (hw.below hb0) hh (hA.below hb0)
  generalize hB h = r at hBy
  generalize hE h = x at hBy ⊢
  obtain ⟨c, z, f, l⟩ := h
  unfold encH at hBy ⊢
  dsimp only at *
  clear hh hA
  go_enter Tryd.func15, Tryd.ntmps15
  go_wp2_with fail
  refine hBy.mono ?_
  rintro e w1 ⟨rfl, hb1⟩
  clear hBy
  go_wp2
  go_ret
  exact ⟨rfl, hb0.trans (hb1.mono hb0.size)⟩
theorem shown_hE : hE ⟨60, 5, 0, []⟩ = 0 ∧ hB ⟨60, 5, 0, []⟩ = ⟨#[0, 60, 0, 0, 0, 0, 0, 0, 0, 0, 0, 5, 0, 0]⟩ := by
  have e : hE ⟨60, 5, 0, []⟩ = 0 := by kernel_rfl
  refine ⟨e, ?_⟩
  rw [hB, if_pos e]
  kernel_rfl
theorem pshown_any (w : World) (hw : Wid w) : Calls Tryd.prog 9 #[] w fun e w' => e = .returned (.bool true) ∧ Below w.heap.size w w' := by
  have hBy := pbytes_any ⟨60, 5, 0, []⟩ none 0 w hw ⟨by dsimp only; omega, by dsimp only; omega, fun v hv => by cases hv⟩ (fun h => by simp [rowV] at h)
  rw [shown_hE.1, shown_hE.2] at hBy
  unfold encH at hBy
  dsimp only [List.length_nil] at hBy
  go_enter Tryd.func9, Tryd.ntmps9
  go_wp2_with fail
  refine hBy.mono ?_
  rintro e w1 ⟨rfl, hb1⟩
  clear hBy
  go_wp2
  go_ret
  exact ⟨rfl, hb1⟩
end Go.Proofs.YtjpldfkhacchdaaDoor

/-
  Values and rows of values that are the same. No condition.
-/
namespace Go.Proofs.YtjpldfkhacchdaaDoor
open Go.RowKit

def sameV (x y : MV) : Bool := x.n == y.n && x.s.toList == y.s.toList
def sameL : List MV → List MV → Bool
  | x :: l, y :: m => sameV x y && sameL l m
  | [], [] => true
  | _, _ => false
theorem sameV_iff (x y : MV) : sameV x y = true ↔ x = y := by
  obtain ⟨n, s⟩ := x
  obtain ⟨n', s'⟩ := y
  simp only [sameV, Bool.and_eq_true, beq_iff_eq, MV.mk.injEq]
  constructor
  · rintro ⟨h1, h2⟩
    exact ⟨h1, ba_ext (by rw [ByteArray.toList_eq, ByteArray.toList_eq] at h2; exact h2)⟩
  · rintro ⟨rfl, rfl⟩; exact ⟨rfl, rfl⟩
theorem sameL_iff : ∀ l m : List MV, sameL l m = true ↔ l = m
  | [], [] => by simp [sameL]
  | [], _ :: _ => by simp [sameL]
  | _ :: _, [] => by simp [sameL]
  | x :: l, y :: m => by
    rw [sameL, Bool.and_eq_true, sameV_iff, sameL_iff l m]
    simp
theorem sameL_len {l m : List MV} (h : l.length ≠ m.length) : sameL l m = false := by
  cases hs : sameL l m
  · rfl
  · rw [sameL_iff] at hs; rw [hs] at h; exact absurd rfl h
theorem sameL_drop {l m : List MV} (k : Nat) (hl : k < l.length) (hm : k < m.length) : sameL (l.drop k) (m.drop k) = (sameV l[k] m[k] && sameL (l.drop (k + 1)) (m.drop (k + 1))) := by
  rw [List.drop_eq_getElem_cons hl, List.drop_eq_getElem_cons hm, sameL]
theorem eqV (a b : MV) (w : World) : (Op.equalIn 10000 40 (.agg #[.int .u64 a.n, .string a.s]) (.agg #[.int .u64 b.n, .string b.s])).run Tryd.prog w = .ok (sameV a b) w := by
  have u9 := Tryd.underlying9
  have a9 := Tryd.isAgg9
  have z9 := Tryd.sizeOf9
  have u25 := Tryd.underlying22
  have a25 := Tryd.isAgg22
  have z25 := Tryd.sizeOf22
  have u27 := Tryd.underlying40
  rw [show (10000 : Nat) = 9999 + 1 from rfl, run_equalIn_struct w 9999 40 _ _ (by kernel_rfl) (by kernel_rfl)]
  unfold sameV
  go_simp
  by_cases h1 : a.n = b.n <;> by_cases h2 : a.s.toList = b.s.toList <;> simp [h1, h2]

end Go.Proofs.YtjpldfkhacchdaaDoor

/-
  The document's own Same of chapter 7 answers as the plain function says; nothing that was there is changed. Conditions: the values lie in old memory.
-/
namespace Go.Proofs.YtjpldfkhacchdaaDoor
open Go.RowKit

def sameH (a b : He) : Bool := a.c == b.c && a.z == b.z && a.f == b.f && sameL a.l b.l
theorem sameH_iff (a b : He) : sameH a b = true ↔ a = b := by
  obtain ⟨c, z, f, l⟩ := a
  obtain ⟨c', z', f', l'⟩ := b
  simp only [sameH, Bool.and_eq_true, beq_iff_eq, sameL_iff, He.mk.injEq, and_assoc]

set_option maxRecDepth 100000 in
set_option maxHeartbeats 2000000 in
theorem rpsame_any (a b : He) (A B : Option Addr) (ca cb : Nat) (w : World) (hA : ValsAt w A (rowV a.l)) (hB : ValsAt w B (rowV b.l)) (hl : a.l.length ≤ 9223372036854775807) :
    Calls Tryd.prog 14 #[encH a A ca, encH b B cb] w fun e w' => e = .returned (.bool (sameH a b)) ∧ Below w.heap.size w w' := by
  obtain ⟨c, z, f, l⟩ := a
  obtain ⟨c', z', f', m⟩ := b
  unfold encH sameH
  dsimp only at *
  obtain ⟨W0, hW0⟩ : ∃ W0, W0 = (w.alloc (.cells #[.int .i64 c, .int .u64 z, .int .u64 f, .slice A l.length ca] 25)).alloc (.cells #[.int .i64 c', .int .u64 z', .int .u64 f', .slice B m.length cb] 25) := ⟨_, rfl⟩
  have hb0 : Below w.heap.size w W0 := by rw [hW0]; exact ((Below.refl _ w).alloc (Nat.le_refl _) _).alloc (by simp) _
  have hx : Bx W0 w.heap.size 25 [.int .i64 c, .int .u64 z, .int .u64 f, .slice A l.length ca] := by rw [hW0]; exact (Bx.new w 25 [.int .i64 c, .int .u64 z, .int .u64 f, .slice A l.length ca]).alloc _
  have hy : Bx W0 (w.heap.size + 1) 25 [.int .i64 c', .int .u64 z', .int .u64 f', .slice B m.length cb] := by
    have h := Bx.new (w.alloc (.cells #[.int .i64 c, .int .u64 z, .int .u64 f, .slice A l.length ca] 25)) 25 [.int .i64 c', .int .u64 z', .int .u64 f', .slice B m.length cb]
    rw [World.size_alloc] at h
    rw [hW0]
    exact h
  have keep : ∀ w', Below W0.heap.size W0 w' → (w'.cell? ⟨w.heap.size, 0, none⟩ = some (.int .i64 c) ∧ w'.cell? ⟨w.heap.size, 1, none⟩ = some (.int .u64 z) ∧ w'.cell? ⟨w.heap.size, 2, none⟩ = some (.int .u64 f) ∧ w'.cell? ⟨w.heap.size, 3, none⟩ = some (.slice A l.length ca)) ∧ w'.cell? ⟨w.heap.size + 1, 0, none⟩ = some (.int .i64 c') ∧ w'.cell? ⟨w.heap.size + 1, 1, none⟩ = some (.int .u64 z') ∧ w'.cell? ⟨w.heap.size + 1, 2, none⟩ = some (.int .u64 f') ∧ w'.cell? ⟨w.heap.size + 1, 3, none⟩ = some (.slice B m.length cb) := fun w' h => ⟨⟨(hx.kept h).cell 0 (by simp), (hx.kept h).cell 1 (by simp), (hx.kept h).cell 2 (by simp), (hx.kept h).cell 3 (by simp)⟩, (hy.kept h).cell 0 (by simp), (hy.kept h).cell 1 (by simp), (hy.kept h).cell 2 (by simp), (hy.kept h).cell 3 (by simp)⟩
  obtain ⟨⟨x0, x1, x2, x3⟩, y0, y1, y2, y3⟩ := keep W0 (Below.refl _ _)
  have hA0 := hA.below hb0
  have hB0 := hB.below hb0
  clear hx hy hA hB
  cases t1 : (c == c')
  · have t1' : (c != c') = true := by rw [bne, t1]; rfl
    simp only [Bool.false_and]
    clear t1 hA0 hB0 keep
    go_enter Tryd.func14, Tryd.ntmps14
    go_wp2
    go_ret
    rw [← hW0]
    exact ⟨rfl, hb0⟩
  · have t1' : (c != c') = false := by rw [bne, t1]; rfl
    clear t1
    cases t2 : (z == z')
    · have t2' : (z != z') = true := by rw [bne, t2]; rfl
      simp only [Bool.false_and, Bool.true_and]
      clear t2 hA0 hB0 keep
      go_enter Tryd.func14, Tryd.ntmps14
      go_wp2
      go_ret
      rw [← hW0]
      exact ⟨rfl, hb0⟩
    · have t2' : (z != z') = false := by rw [bne, t2]; rfl
      clear t2
      cases t3 : (f == f')
      · have t3' : (f != f') = true := by rw [bne, t3]; rfl
        simp only [Bool.and_false, Bool.false_and]
        clear t3 hA0 hB0 keep
        go_enter Tryd.func14, Tryd.ntmps14
        go_wp2
        go_ret
        rw [← hW0]
        exact ⟨rfl, hb0⟩
      · have t3' : (f != f') = false := by rw [bne, t3]; rfl
        clear t3
        try simp only [Bool.true_and]
        by_cases hlm : l.length = m.length
        · have t3' : ((l.length : Int) != (m.length : Int)) = false := by simp; omega
          obtain ⟨q, hq⟩ : ∃ q, q = sameL l m := ⟨_, rfl⟩
          rw [← hq]
          have HQ := Lib.hid hq
          clear hq
          obtain ⟨n, hn⟩ : ∃ n, l.length = n := ⟨_, rfl⟩
          have HN := Lib.hid hn
          have HM : Hid (m.length = n) := Lib.hid (by rw [← hlm]; exact hn)
          rw [hn] at keep x3 hW0 hl t3' ⊢
          rw [HM.out] at keep y3 hW0 t3' ⊢
          clear hlm hn
          go_enter Tryd.func14, Tryd.ntmps14
          go_wp2_with fail
          rw [← hW0]
          clear hW0
          go_loopw [5] (fun v wr => ∃ k : Nat, k ≤ n ∧ v = .int .i64 k ∧ Below W0.heap.size W0 wr ∧ Hid (q = sameL (l.drop k) (m.drop k))) (fun v _ => n - (intOf v).toNat)
          case atStart => exact ⟨0, Nat.zero_le _, rfl, Below.refl _ _, Lib.hid HQ.out⟩
          case round =>
            obtain ⟨k, hk, rfl, hb, HK⟩ := hrel
            obtain ⟨⟨p0, p1, p2, p3⟩, q0, q1, q2, q3⟩ := keep wr hb
            clear keep x0 x1 x2 x3 y0 y1 y2 y3
            by_cases hlt : k < n
            · have hkl : k < l.length := by rw [HN.out]; exact hlt
              have hkm : k < m.length := by rw [HM.out]; exact hlt
              obtain ⟨b1, o1, rfl, hl1, g1⟩ := vals_v hA0 (by omega)
              obtain ⟨b2, o2, rfl, hl2, g2⟩ := vals_v hB0 (by omega)
              obtain ⟨c1, c2⟩ := g1 k hkl
              obtain ⟨d1, d2⟩ := g2 k hkm
              have c1 := (hb.cell (p := ⟨b1, o1 + k * 2, none⟩) hl1).trans c1
              have c2 := (hb.cell (p := ⟨b1, o1 + k * 2 + 1, none⟩) hl1).trans c2
              have d1 := (hb.cell (p := ⟨b2, o2 + k * 2, none⟩) hl2).trans d1
              have d2 := (hb.cell (p := ⟨b2, o2 + k * 2 + 1, none⟩) hl2).trans d2
              have HS := Lib.hid (sameL_drop k hkl hkm)
              have hE := eqV l[k] m[k]
              have e1 : IntKind.i64.wrap ((k : Int) + 1) = ((k + 1 : Nat) : Int) := by simp only [IntKind.wrap_i64]; omega
              clear g1 g2 hA0 hB0
              generalize l[k] = u at *
              generalize m[k] = v at *
              generalize sameV u v = z at hE HS
              obtain ⟨un, us⟩ := u
              obtain ⟨vn, vs⟩ := v
              dsimp only at *
              cases z
              · have HF : Hid (q = false) := Lib.hid (by rw [HK.out, HS.out]; rfl)
                clear HK HS
                go_wp2
                go_quiet (fail)
                go_wp2
                go_ret
                exact ⟨by rw [HF.out]; rfl, below_drewN (hb0.trans (hb.mono hb0.size)) _⟩
              · have HF : Hid (q = sameL (l.drop (k + 1)) (m.drop (k + 1))) := Lib.hid (by rw [HK.out, HS.out, Bool.true_and])
                clear HK HS
                go_wp2
                go_quiet (fail)
                go_wp2
                go_roundw
                case rel => exact ⟨k + 1, hlt, rfl, below_drewN hb _, HF⟩
                case measure => simp only [intOf]; omega
            · obtain rfl : k = n := by omega
              have HF : Hid (q = true) := Lib.hid (by rw [HK.out, List.drop_of_length_le (by rw [HN.out]; exact Nat.le_refl _), List.drop_of_length_le (by rw [HM.out]; exact Nat.le_refl _)]; rfl)
              clear HK hA0 hB0
              go_wp2
              go_ret
              exact ⟨by rw [HF.out]; rfl, hb0.trans (hb.mono hb0.size)⟩
        · have t3' : ((l.length : Int) != (m.length : Int)) = true := by simp; omega
          rw [sameL_len hlm]
          clear hlm hA0 hB0 keep
          go_enter Tryd.func14, Tryd.ntmps14
          go_wp2
          go_ret
          rw [← hW0]
          exact ⟨rfl, hb0⟩
end Go.Proofs.YtjpldfkhacchdaaDoor

/-
  slices.Equal of two rows of values, and props.Same, answer as the plain functions say; nothing that was there is changed. Conditions: the values lie in old memory.
-/
namespace Go.Proofs.YtjpldfkhacchdaaDoor
open Go.RowKit

set_option maxRecDepth 100000 in
set_option maxHeartbeats 2000000 in
theorem equalV_any (l m : List MV) (A B : Option Addr) (ca cb : Nat) (w : World) (hA : ValsAt w A (rowV l)) (hB : ValsAt w B (rowV m)) (hl : l.length ≤ 9223372036854775807) :
    Calls Tryd.prog 38 #[.slice A l.length ca, .slice B m.length cb] w fun e w' => e = .returned (.bool (sameL l m)) ∧ Below w.heap.size w w' := by
  by_cases hlm : l.length = m.length
  · have t3' : ((l.length : Int) != (m.length : Int)) = false := by simp; omega
    obtain ⟨q, hq⟩ : ∃ q, q = sameL l m := ⟨_, rfl⟩
    rw [← hq]
    have HQ := Lib.hid hq
    clear hq
    obtain ⟨n, hn⟩ : ∃ n, l.length = n := ⟨_, rfl⟩
    have HN := Lib.hid hn
    have HM : Hid (m.length = n) := Lib.hid (by rw [← hlm]; exact hn)
    rw [hn] at hl t3' ⊢
    rw [HM.out] at t3' ⊢
    clear hlm hn
    go_enter Tryd.func38, Tryd.ntmps38
    go_wp2_with fail
    go_loopw [13] (fun v wr => ∃ k : Nat, k ≤ n ∧ v = .int .i64 k ∧ Below w.heap.size w wr ∧ Hid (q = sameL (l.drop k) (m.drop k))) (fun v _ => n - (intOf v).toNat)
    case atStart => exact ⟨0, Nat.zero_le _, rfl, Below.refl _ _, Lib.hid HQ.out⟩
    case round =>
      obtain ⟨k, hk, rfl, hb, HK⟩ := hrel
      by_cases hlt : k < n
      · have hkl : k < l.length := by rw [HN.out]; exact hlt
        have hkm : k < m.length := by rw [HM.out]; exact hlt
        obtain ⟨b1, o1, rfl, hl1, g1⟩ := vals_v hA (by omega)
        obtain ⟨b2, o2, rfl, hl2, g2⟩ := vals_v hB (by omega)
        obtain ⟨c1, c2⟩ := g1 k hkl
        obtain ⟨d1, d2⟩ := g2 k hkm
        have c1 := (hb.cell (p := ⟨b1, o1 + k * 2, none⟩) hl1).trans c1
        have c2 := (hb.cell (p := ⟨b1, o1 + k * 2 + 1, none⟩) hl1).trans c2
        have d1 := (hb.cell (p := ⟨b2, o2 + k * 2, none⟩) hl2).trans d1
        have d2 := (hb.cell (p := ⟨b2, o2 + k * 2 + 1, none⟩) hl2).trans d2
        have HS := Lib.hid (sameL_drop k hkl hkm)
        have hE := eqV l[k] m[k]
        have e1 : IntKind.i64.wrap ((k : Int) + 1) = ((k + 1 : Nat) : Int) := by simp only [IntKind.wrap_i64]; omega
        clear g1 g2 hA hB
        generalize l[k] = u at *
        generalize m[k] = v at *
        generalize sameV u v = z at hE HS
        obtain ⟨un, us⟩ := u
        obtain ⟨vn, vs⟩ := v
        dsimp only at *
        cases z
        · have HF : Hid (q = false) := Lib.hid (by rw [HK.out, HS.out]; rfl)
          clear HK HS
          go_wp2
          go_quiet (fail)
          go_wp2
          go_ret
          exact ⟨by rw [HF.out]; rfl, below_drewN hb _⟩
        · have HF : Hid (q = sameL (l.drop (k + 1)) (m.drop (k + 1))) := Lib.hid (by rw [HK.out, HS.out, Bool.true_and])
          clear HK HS
          go_wp2
          go_quiet (fail)
          go_wp2
          go_roundw
          case rel => exact ⟨k + 1, hlt, rfl, below_drewN hb _, HF⟩
          case measure => simp only [intOf]; omega
      · obtain rfl : k = n := by omega
        have HF : Hid (q = true) := Lib.hid (by rw [HK.out, List.drop_of_length_le (by rw [HN.out]; exact Nat.le_refl _), List.drop_of_length_le (by rw [HM.out]; exact Nat.le_refl _)]; rfl)
        clear HK hA hB
        go_wp2
        go_ret
        exact ⟨by rw [HF.out]; rfl, hb⟩
  · have t3' : ((l.length : Int) != (m.length : Int)) = true := by simp; omega
    rw [sameL_len hlm]
    clear hlm hA hB
    go_enter Tryd.func38, Tryd.ntmps38
    go_wp2
    go_ret
    exact ⟨rfl, Below.refl _ _⟩

set_option maxRecDepth 100000 in
set_option maxHeartbeats 2000000 in
theorem psame_any (a b : He) (A B : Option Addr) (ca cb : Nat) (w : World) (hA : ValsAt w A (rowV a.l)) (hB : ValsAt w B (rowV b.l)) (hl : a.l.length ≤ 9223372036854775807) :
    Calls Tryd.prog 16 #[encH a A ca, encH b B cb] w fun e w' => e = .returned (.bool (sameH a b)) ∧ Below w.heap.size w w' := by
  obtain ⟨c, z, f, l⟩ := a
  obtain ⟨c', z', f', m⟩ := b
  unfold encH sameH
  dsimp only at *
  obtain ⟨W0, hW0⟩ : ∃ W0, W0 = (w.alloc (.cells #[.int .i64 c, .int .u64 z, .int .u64 f, .slice A l.length ca] 25)).alloc (.cells #[.int .i64 c', .int .u64 z', .int .u64 f', .slice B m.length cb] 25) := ⟨_, rfl⟩
  have hb0 : Below w.heap.size w W0 := by rw [hW0]; exact ((Below.refl _ w).alloc (Nat.le_refl _) _).alloc (by simp) _
  have hx : Bx W0 w.heap.size 25 [.int .i64 c, .int .u64 z, .int .u64 f, .slice A l.length ca] := by rw [hW0]; exact (Bx.new w 25 [.int .i64 c, .int .u64 z, .int .u64 f, .slice A l.length ca]).alloc _
  have hy : Bx W0 (w.heap.size + 1) 25 [.int .i64 c', .int .u64 z', .int .u64 f', .slice B m.length cb] := by
    have h := Bx.new (w.alloc (.cells #[.int .i64 c, .int .u64 z, .int .u64 f, .slice A l.length ca] 25)) 25 [.int .i64 c', .int .u64 z', .int .u64 f', .slice B m.length cb]
    rw [World.size_alloc] at h
    rw [hW0]
    exact h
  have x0 := hx.cell 0 (by simp)
  have x1 := hx.cell 1 (by simp)
  have x2 := hx.cell 2 (by simp)
  have x3 := hx.cell 3 (by simp)
  have y0 := hy.cell 0 (by simp)
  have y1 := hy.cell 1 (by simp)
  have y2 := hy.cell 2 (by simp)
  have y3 := hy.cell 3 (by simp)
  dsimp only [List.getElem_cons_zero, List.getElem_cons_succ] at x0 x1 x2 x3 y0 y1 y2 y3
  have hE := equalV_any l m A B ca cb W0 (hA.below hb0) (hB.below hb0) hl
  clear hx hy hA hB
  cases t1 : (c == c')
  · simp only [Bool.false_and]
    clear hE
    go_enter Tryd.func16, Tryd.ntmps16
    go_wp2_with fail
    rw [← hW0]
    go_wp2
    go_ret
    exact ⟨rfl, hb0⟩
  · cases t2 : (z == z')
    · simp only [Bool.false_and, Bool.true_and]
      clear hE
      go_enter Tryd.func16, Tryd.ntmps16
      go_wp2_with fail
      rw [← hW0]
      go_wp2
      go_ret
      exact ⟨rfl, hb0⟩
    · cases t3 : (f == f')
      · simp only [Bool.and_false, Bool.false_and]
        clear hE
        go_enter Tryd.func16, Tryd.ntmps16
        go_wp2_with fail
        rw [← hW0]
        go_wp2
        go_ret
        exact ⟨rfl, hb0⟩
      · simp only [Bool.true_and]
        generalize sameL l m = q at *
        go_enter Tryd.func16, Tryd.ntmps16
        go_wp2_with fail
        rw [← hW0]
        go_wp2_with fail
        refine hE.mono ?_
        rintro e w1 ⟨rfl, hb1⟩
        go_wp2
        go_ret
        exact ⟨rfl, hb0.trans (hb1.mono hb0.size)⟩
end Go.Proofs.YtjpldfkhacchdaaDoor

/-
  props.Get answers as the plain function says; nothing that was there is changed. Conditions: as for props.Bytes.
-/
namespace Go.Proofs.YtjpldfkhacchdaaDoor
open Go.RowKit Go.Shelf
attribute [local go_sem] Oper.semAt_some

/-- the property that is asked for, among those that a head has -/
def whF (h : He) (i : Int) : Option (Fin 14 × Nat) := (wh h.f).zipIdx.find? (fun x => (x.1.1 : Int) == i)
def gotV (h : He) (i : Int) : Option MV := if hE h = 0 then (whF h i).map (fun x => h.l.getD x.2 noV) else none
def gV (h : He) (i : Int) : MV := (gotV h i).getD noV
def gIs (h : He) (i : Int) : Bool := (gotV h i).isSome

theorem whF_none {h : He} {i : Int} (hn : ∀ x ∈ (wh h.f).zipIdx, ((x.1.1 : Int) == i) = false) : whF h i = none := by
  unfold whF
  rw [List.find?_eq_none]
  intro x hx
  rw [hn x hx]
  decide
theorem whF_some {h : He} {i : Int} {k : List (Fin 14 × Nat)} {x : Fin 14 × Nat} (hp : k ++ [x] <+: (wh h.f).zipIdx) (hk : ∀ y ∈ k, ((y.1.1 : Int) == i) = false) (hx : ((x.1.1 : Int) == i) = true) : whF h i = some x := by
  obtain ⟨t, ht⟩ := hp
  unfold whF
  have h0 : k.find? (fun x => (x.1.1 : Int) == i) = none := by
    rw [List.find?_eq_none]
    intro y hy
    rw [hk y hy]
    decide
  rw [← ht, List.append_assoc, List.find?_append, h0]
  simp [hx]
/-- between rounds -/
structure GI (w : World) (i : Int) (pre : List (Fin 14 × Nat)) (X : World) : Prop where
  no : ∀ x ∈ pre, ((x.1.1 : Int) == i) = false
  idx : Boxed X (w.heap.size + 1) 3 (.int .i64 i)
  val : Bx X (w.heap.size + 1 + 1) 40 [.int .u64 0, .string ⟨#[]⟩]
  is : Boxed X (w.heap.size + 1 + 1 + 1) 4 (.bool false)
  bel : Below w.heap.size w X
/-- where a round left the loop -/
structure GX (h : He) (w : World) (i : Int) (pre : List (Fin 14 × Nat)) (X : World) : Prop where
  yes : ∃ k x, pre = k ++ [x] ∧ (∀ y ∈ k, ((y.1.1 : Int) == i) = false) ∧ ((x.1.1 : Int) == i) = true ∧ Bx X (w.heap.size + 1 + 1) 40 (cellsV (h.l.getD x.2 noV))
  is : Boxed X (w.heap.size + 1 + 1 + 1) 4 (.bool true)
  bel : Below w.heap.size w X
theorem low_cells {X Y : World} {row : Option Nat} {g B : Nat} {o : Obj} (hg : X.grownBy Y row) (hr : ∀ r, row = some r → B ≤ r) (h : X.heap[g]? = some o) (hlt : g < B) : Y.heap[g]? = some o := by
  refine (hg.block g (Array.getElem?_eq_some_iff.1 h).1 (fun e => ?_)).trans h
  have := hr g e.symm
  omega
theorem GI_ab {w : World} {i : Int} {N : Nat} (hN : w.heap.size + 4 ≤ N) : Ab notInt N (fun pre Y => GI w i pre Y) := fun pre X Y row hs hg hr =>
  ⟨hs.no, low_cells hg (fun r e => (hr r e).1) hs.idx (by omega), low_cells hg (fun r e => (hr r e).1) hs.val (by omega), low_cells hg (fun r e => (hr r e).1) hs.is (by omega), hs.bel.grown hg hs.bel.size (fun k e => by have := (hr k e).1; omega)⟩
theorem GX_ab {h : He} {w : World} {i : Int} {N : Nat} (hN : w.heap.size + 4 ≤ N) : Ab notInt N (fun pre Y => GX h w i pre Y) := fun pre X Y row hs hg hr => by
  obtain ⟨k, x, e, h1, h2, h3⟩ := hs.yes
  exact ⟨⟨k, x, e, h1, h2, low_cells hg (fun r e => (hr r e).1) h3 (by omega)⟩, low_cells hg (fun r e => (hr r e).1) hs.is (by omega), hs.bel.grown hg hs.bel.size (fun k e => by have := (hr k e).1; omega)⟩
theorem bx_put {W : World} {D B : Nat} {t : TypeId} {l : List Value} {o : Obj} (o' : Obj) (h : Bx W B t l) (hK : W.heap[D]? = some o) (hc : o.isCells = false) : Bx (W.putObj D o') B t l :=
  (World.putObj_heap_other (fun e => by
    subst e
    rw [show W.heap[_]? = _ from h] at hK
    cases hK
    cases hc)).trans h
/-- at the end: what is answered lies in its boxes -/
structure GZ (w : World) (D : Nat) (v : MV) (x : Bool) (X : World) : Prop where
  val : Bx X (w.heap.size + 1 + 1) 40 (cellsV v)
  is : Boxed X (w.heap.size + 1 + 1 + 1) 4 (.bool x)
  bel : Below w.heap.size w X
  late : X.heap[D]? = some (.deferred (some []))
theorem keeps_store2 {p : TypeId → Bool} {W : World} {B : Nat} {t : TypeId} {a b : Value} (h : Bx W B t [a, b]) (hp : p t = false) (a' b' : Value) : Keeps p W ((W.setCell ⟨B, 0, none⟩ a').setCell ⟨B, 1, none⟩ b') :=
  (Keeps.setCell h hp 0 _).trans (Keeps.setCell (h.set 0 a') hp 1 _)
theorem boxed_store2 {W : World} {B b : Nat} {t : TypeId} {v : Value} (h : Boxed W b t v) (hne : B ≠ b) (a' b' : Value) : Boxed ((W.setCell ⟨B, 0, none⟩ a').setCell ⟨B, 1, none⟩ b') b t v :=
  (Below.heap_setCell _ ⟨B, 1, none⟩ b' b hne.symm).trans ((Below.heap_setCell W ⟨B, 0, none⟩ a' b hne.symm).trans h)

set_option maxRecDepth 100000 in
set_option maxHeartbeats 400000 in
theorem pget_any (h : He) (A : Option Addr) (cap : Nat) (i : Int) (w : World) (hw : Wid w) (hh : wfH h) (hA : ValsAt w A (rowV h.l)) :
    Calls Tryd.prog 17 #[encH h A cap, .int .i64 i] w fun e w' => e = .returned (.tuple #[encV (gV h i), .bool (gIs h i)]) ∧ Below w.heap.size w w' := by
  refine (callsIn_wide (n := 6)).1 ?_
  obtain ⟨w0, hw0⟩ : ∃ w0, (((w.alloc (.cells (cellsH h A cap).toArray 25)).alloc (.cells #[.int .i64 i] 3)).alloc (.cells #[.int .u64 0, .string ⟨#[]⟩] 40)).alloc (.cells #[.bool false] 4) = w0 := ⟨_, rfl⟩
  have bH : Bx w0 w.heap.size 25 (cellsH h A cap) := by rw [← hw0]; exact bx_alloc (bx_alloc (bx_alloc (Bx.new w _ _) _) _) _
  have bI : Boxed w0 (w.heap.size + 1) 3 (.int .i64 i) := by
    have h := ((Boxed.new (w.alloc (.cells (cellsH h A cap).toArray 25)) 3 (.int .i64 i)).alloc (.cells #[.int .u64 0, .string ⟨#[]⟩] 40)).alloc (.cells #[.bool false] 4)
    rw [World.size_alloc] at h
    rw [← hw0]; exact h
  have bV : Bx w0 (w.heap.size + 1 + 1) 40 [.int .u64 0, .string ⟨#[]⟩] := by
    have h := bx_alloc (Bx.new ((w.alloc (.cells (cellsH h A cap).toArray 25)).alloc (.cells #[.int .i64 i] 3)) 40 [.int .u64 0, .string ⟨#[]⟩]) (.cells #[.bool false] 4)
    rw [World.size_alloc, World.size_alloc] at h
    rw [← hw0]; exact h
  have bB : Boxed w0 (w.heap.size + 1 + 1 + 1) 4 (.bool false) := by
    have h := Boxed.new (((w.alloc (.cells (cellsH h A cap).toArray 25)).alloc (.cells #[.int .i64 i] 3)).alloc (.cells #[.int .u64 0, .string ⟨#[]⟩] 40)) 4 (.bool false)
    rw [World.size_alloc, World.size_alloc, World.size_alloc] at h
    rw [← hw0]; exact h
  have hB0 : Below w.heap.size w w0 := by rw [← hw0]; exact ((((Below.refl _ w).alloc (Nat.le_refl _) _).alloc (by simp) _).alloc (by simp; omega) _).alloc (by simp; omega) _
  have hsz : w0.heap.size = w.heap.size + 4 := by rw [← hw0]; simp
  have hRt := pright_any h A cap w0 (hw.below hB0) hh (hA.below hB0)
  have hPr := fun W => properties_in 5 h A cap W
  have x0 := bH.cell 0 (by simp [cellsH])
  have x1 := bH.cell 1 (by simp [cellsH])
  have x2 := bH.cell 2 (by simp [cellsH])
  have x3 := bH.cell 3 (by simp [cellsH])
  simp only [cellsH, List.getElem_cons_zero, List.getElem_cons_succ] at x0 x1 x2 x3
  unfold encH at hRt hPr ⊢
  unfold cellsH at hw0
  refine callsIn_of_wp_marks Tryd.func17 rfl trivial ?_ rfl
  simp only [Tryd.ntmps17, List.size_toArray, List.length_cons, List.length_nil, Nat.reduceAdd, Nat.reduceSub, Array.replicate_succ, Array.replicate_zero, List.push_toArray, List.append_toArray, List.nil_append, List.cons_append]
  gi_wp2_with fail
  refine ⟨trivial, (callsIn_wide.2 hRt).mono ?_⟩
  rintro e w1 ⟨rfl, hb1⟩
  have hB1 := hB0.trans (hb1.mono hB0.size)
  have bH1 := bH.kept hb1
  have bI1 := boxed_underP bI hb1
  have bV1 := bV.kept hb1
  have bB1 := boxed_underP bB hb1
  have hs1 : w.heap.size + 4 ≤ w1.heap.size := by have := hb1.size; omega
  clear hRt hw0 x0 x1 x2 x3 hb1 bH bI bV bB hB0 hsz
  by_cases hs : hE h = 0
  · rw [hs]
    have hok : shOk h := by
      by_cases hk : shOk h
      · exact hk
      · rw [hE, shE, if_neg hk, if_neg (by decide)] at hs; cases hs
    have HOk : Hid ((wh h.f).length = h.l.length) := Lib.hid hok.2.2.2
    have HG : Hid (gotV h i = (whF h i).map (fun x => h.l.getD x.2 noV)) := Lib.hid (by rw [gotV, if_pos hs])
    clear hs hok
    have x0 := bH1.cell 0 (by simp [cellsH])
    have x1 := bH1.cell 1 (by simp [cellsH])
    have x2 := bH1.cell 2 (by simp [cellsH])
    have x3 := bH1.cell 3 (by simp [cellsH])
    simp only [cellsH, List.getElem_cons_zero, List.getElem_cons_succ] at x0 x1 x2 x3
    gi_wp2_with fail
    refine ⟨trivial, (hPr w1).mono ?_⟩
    rintro e w' ⟨rfl, rfl⟩
    clear hPr x0 x1 x2 x3
    obtain ⟨w5, hw5⟩ : ∃ w5, w1.alloc (.cells (cellsH h A cap).toArray 25) = w5 := ⟨_, rfl⟩
    have bP : Bx w5 w1.heap.size 25 (cellsH h A cap) := by rw [← hw5]; exact Bx.new w1 _ _
    have hb5 : Below w1.heap.size w1 w5 := by rw [← hw5]; exact (Below.refl _ w1).alloc (Nat.le_refl _) _
    have hB5 := hB1.trans (hb5.mono hB1.size)
    have bI5 := boxed_underP bI1 hb5
    have bV5 := bV1.kept hb5
    have bB5 := boxed_underP bB1 hb5
    have hs5 : w.heap.size + 4 ≤ w5.heap.size := by have := hb5.size; omega
    rw [hw5]
    clear hw5 hb5 hB1 bI1 bV1 bB1 bH1 hs1
    gi_wp2_with fail
    have hf := hh.2.1
    refine wpIn_range_through (by decide) (gf := 48) (lb := #[.pointer (some ⟨w1.heap.size, 0, none⟩)]) rfl (enters_of Tryd.func48 (by kernel_rfl) rfl)
      (props1_through h A cap w1.heap.size w5 hf.1 hf.2 HOk.out bP) (Below.refl _ _) (fun _ => rfl) (fun h k => h.trans k) (fun B W l o o' hl ho hc => Kept.put ho hc hl o')
      (fun pre Y => GI w i pre Y) (fun pre Y => GX h w i pre Y)
      (GI_ab hs5) (GX_ab hs5)
      ⟨(fun x hx => by cases hx), bI5, bV5, bB5, hB5⟩
      (fun x a' => a' = { tmps := #[.agg #[.int .i64 h.c, .int .u64 h.z, .int .u64 h.f, .slice A h.l.length cap], .int .i64 i, .pointer (some ⟨w.heap.size, 0, none⟩), .pointer (some ⟨w.heap.size + 1, 0, none⟩), .pointer (some ⟨w.heap.size + 1 + 1, 0, none⟩), .pointer (some ⟨w.heap.size + 1 + 1 + 1, 0, none⟩), .int .i64 (x.1.1 : Int), .func (.func 50) #[encP h A cap x.2] #[], .agg #[.int .i64 h.c, .int .u64 h.z, .int .u64 h.f, .slice A h.l.length cap], .int .i64 0, .bool false, undef, .agg #[.int .i64 h.c, .int .u64 h.z, .int .u64 h.f, .slice A h.l.length cap], .func (.func 48) #[] #[.pointer (some ⟨w1.heap.size, 0, none⟩)], .int .i64 (x.1.1 : Int), .func (.func 50) #[encP h A cap x.2] #[], undef, undef, undef, undef, undef, undef], defers := [] }) ?assign ?body ?done ?stop
    case assign =>
      intro l pre x W K _ hK
      have hKk := hK _ rfl
      clear hK
      unfold encsP
      gi_wp2
      exact hKk
    case body =>
      rintro l pre x a' X hI rfl ⟨hx1, hx2⟩
      have HP := Lib.hid hI
      have hBX := hI.bel
      have cI := hI.idx.cell
      clear hx1
      cases ht : ((x.1.1 : Int) == i)
      · have HN : Hid (∀ y ∈ pre ++ [x], ((y.1.1 : Int) == i) = false) := Lib.hid (by
          intro y hy
          rcases List.mem_append.1 hy with h1 | h1
          · exact hI.no y h1
          · obtain rfl : y = x := by simpa using h1
            exact ht)
        unfold encP
        clear hI
        gi_wp2
        exact ⟨⟨Nat.le_refl _, fun _ _ _ h1 _ => h1⟩, Kept.refl _ _ _, ⟨HN.out, HP.out.idx, HP.out.val, HP.out.is, HP.out.bel⟩⟩
      · have hV := pvalue_any h A cap x.2 hx2 X (hA.below hBX)
        have HT := Lib.hid ht
        have HE : Hid (h.l.getD x.2 noV = h.l[x.2]) := Lib.hid (by rw [List.getD_eq_getElem?_getD, List.getElem?_eq_getElem hx2]; rfl)
        unfold encV at hV
        generalize h.l[x.2] = vv at hV HE
        obtain ⟨vn, vs⟩ := vv
        dsimp only at hV
        unfold encP at hV ⊢
        clear hI
        gi_wp2_with fail
        refine ⟨trivial, (CallsIn.inRound l (callsIn_wide.2 hV)).mono ?_⟩
        rintro e w6 ⟨rfl, hb6⟩
        have v6 := HP.out.val.kept hb6
        have b6 := boxed_underP HP.out.is hb6
        have hB6 := hBX.trans (hb6.mono hBX.size)
        obtain ⟨a0, f0, a1, f1, bR⟩ := v6.store2 (.int .u64 vn) (.string vs)
        have b7 := boxed_store2 b6 (B := w.heap.size + 1 + 1) (by omega) (.int .u64 vn) (.string vs)
        have c7 := b7.cell
        have d7 := b7.frozen
        have HX : Hid (GX h w i (pre ++ [x]) (((w6.setCell ⟨w.heap.size + 1 + 1, 0, none⟩ (.int .u64 vn)).setCell ⟨w.heap.size + 1 + 1, 1, none⟩ (.string vs)).setCell ⟨w.heap.size + 1 + 1 + 1, 0, none⟩ (.bool true))) := Lib.hid
          ⟨⟨pre, x, rfl, HP.out.no, HT.out, by rw [HE.out]; exact bx_other bR (by omega) _⟩, b7.set _, (below_store2 hB6 (by omega) _ _).setCell (p := ⟨w.heap.size + 1 + 1 + 1, 0, none⟩) (by simp; omega) _⟩
        have hkk : Keeps itTypes X (((w6.setCell ⟨w.heap.size + 1 + 1, 0, none⟩ (.int .u64 vn)).setCell ⟨w.heap.size + 1 + 1, 1, none⟩ (.string vs)).setCell ⟨w.heap.size + 1 + 1 + 1, 0, none⟩ (.bool true)) :=
          ((Keeps.below hb6).trans (keeps_store2 v6 (by decide) _ _)).trans (Keeps.setCell b7 (by decide) 0 _)
        have hss : X.heap.size ≤ (((w6.setCell ⟨w.heap.size + 1 + 1, 0, none⟩ (.int .u64 vn)).setCell ⟨w.heap.size + 1 + 1, 1, none⟩ (.string vs)).setCell ⟨w.heap.size + 1 + 1 + 1, 0, none⟩ (.bool true)).heap.size := by simpa using hb6.size
        clear hV v6 b6 bR b7 hB6 hb6
        gi_wp2
        exact ⟨⟨hss, fun k o _ h1 h2 => hkk k o h1 (not_cells_q h2)⟩, Kept.of hss hkk, HX.out⟩
    case done =>
      rintro D xs Y hD rfl hI hK
      have HG0 : Hid (gV h i = noV ∧ gIs h i = false) := Lib.hid (by
        have e : gotV h i = none := by rw [HG.out, whF_none hI.no]; rfl
        exact ⟨by rw [gV, e]; rfl, by rw [gIs, e]; rfl⟩)
      have hv := hI.val
      have hb := hI.is
      obtain ⟨a0, f0, a1, f1, bR⟩ := hv.store2 (.int .u64 0) (.string ⟨#[]⟩)
      have b7 := boxed_store2 hb (B := w.heap.size + 1 + 1) (by omega) (.int .u64 0) (.string ⟨#[]⟩)
      have c7 := b7.cell
      have d7 := b7.frozen
      have HZ : Hid (GZ w D noV false (((Y.setCell ⟨w.heap.size + 1 + 1, 0, none⟩ (.int .u64 0)).setCell ⟨w.heap.size + 1 + 1, 1, none⟩ (.string ⟨#[]⟩)).setCell ⟨w.heap.size + 1 + 1 + 1, 0, none⟩ (.bool false))) := Lib.hid
        ⟨bx_other bR (by omega) _, b7.set _, (below_store2 hI.bel (by omega) _ _).setCell (p := ⟨w.heap.size + 1 + 1 + 1, 0, none⟩) (by simp; omega) _, ((keeps_store2 (p := fun _ => false) hv rfl _ _).trans (Keeps.setCell b7 rfl 0 _)) D _ hK (fun _ _ _ e => by cases e)⟩
      clear bR b7 hv hb hI hK
      gi_wp2
      refine ⟨by simp, .inl ⟨_, _, rfl, run_takeDeferred HZ.out.late, ?_⟩⟩
      refine ⟨.tuple #[encV noV, .bool false], ?_, by rw [HG0.out.1, HG0.out.2], HZ.out.bel.trans (belowK_b (w := w) (Nat.le_refl _) _ D _ _ (by omega) HZ.out.late rfl rfl)⟩
      have r1 := bx_put (.deferred none) HZ.out.val HZ.out.late rfl
      have y0 := r1.cell 0 (by simp [cellsV])
      have y1 := r1.cell 1 (by simp [cellsV])
      simp only [cellsV, List.getElem_cons_zero, List.getElem_cons_succ] at y0 y1
      have r2 := boxed_put (.deferred none) HZ.out.is HZ.out.late rfl
      rw [results_cc rfl]
      simp [asAddr, Result.andThen, go_sem, y0, y1, r2, encV]
    case stop =>
      rintro D pre Y hD hSp hX hK
      obtain ⟨k, x, rfl, hn, hy, hv⟩ := hX.yes
      have HG0 : Hid (gV h i = h.l.getD x.2 noV ∧ gIs h i = true) := Lib.hid (by
        have e : gotV h i = some (h.l.getD x.2 noV) := by rw [HG.out, whF_some hSp hn hy]; rfl
        exact ⟨by rw [gV, e]; rfl, by rw [gIs, e]; rfl⟩)
      generalize h.l.getD x.2 noV = vv at HG0 hv
      gi_wp2
      refine ⟨by simp, .inl ⟨_, _, rfl, run_takeDeferred hK, ?_⟩⟩
      refine ⟨.tuple #[encV vv, .bool true], ?_, by rw [HG0.out.1, HG0.out.2], hX.bel.trans (belowK_b (w := w) (Nat.le_refl _) _ D _ _ (by omega) hK rfl rfl)⟩
      have r1 := bx_put (.deferred none) hv hK rfl
      have y0 := r1.cell 0 (by simp [cellsV])
      have y1 := r1.cell 1 (by simp [cellsV])
      simp only [cellsV, List.getElem_cons_zero, List.getElem_cons_succ] at y0 y1
      have r2 := boxed_put (.deferred none) hX.is hK rfl
      rw [results_cc rfl]
      simp [asAddr, Result.andThen, go_sem, y0, y1, r2, encV]
  · have ts : (hE h != 0) = true := by simpa using hs
    have HF : Hid (gV h i = noV ∧ gIs h i = false) := Lib.hid (by
      have e : gotV h i = none := by rw [gotV, if_neg hs]
      exact ⟨by rw [gV, e]; rfl, by rw [gIs, e]; rfl⟩)
    obtain ⟨a0, f0, a1, f1, bR⟩ := bV1.store2 (.int .u64 0) (.string ⟨#[]⟩)
    have b7 := boxed_store2 bB1 (B := w.heap.size + 1 + 1) (by omega) (.int .u64 0) (.string ⟨#[]⟩)
    have c7 := b7.cell
    have d7 := b7.frozen
    have HZ : Hid (Bx (((w1.setCell ⟨w.heap.size + 1 + 1, 0, none⟩ (.int .u64 0)).setCell ⟨w.heap.size + 1 + 1, 1, none⟩ (.string ⟨#[]⟩)).setCell ⟨w.heap.size + 1 + 1 + 1, 0, none⟩ (.bool false)) (w.heap.size + 1 + 1) 40 (cellsV noV) ∧ Boxed (((w1.setCell ⟨w.heap.size + 1 + 1, 0, none⟩ (.int .u64 0)).setCell ⟨w.heap.size + 1 + 1, 1, none⟩ (.string ⟨#[]⟩)).setCell ⟨w.heap.size + 1 + 1 + 1, 0, none⟩ (.bool false)) (w.heap.size + 1 + 1 + 1) 4 (.bool false) ∧ Below w.heap.size w (((w1.setCell ⟨w.heap.size + 1 + 1, 0, none⟩ (.int .u64 0)).setCell ⟨w.heap.size + 1 + 1, 1, none⟩ (.string ⟨#[]⟩)).setCell ⟨w.heap.size + 1 + 1 + 1, 0, none⟩ (.bool false))) := Lib.hid
      ⟨bx_other bR (by omega) _, b7.set _, (below_store2 hB1 (by omega) _ _).setCell (p := ⟨w.heap.size + 1 + 1 + 1, 0, none⟩) (by simp; omega) _⟩
    clear hPr hs bR b7 bV1 bB1 bI1 bH1
    gi_wp2
    refine ⟨.tuple #[encV noV, .bool false], ?_, by rw [HF.out.1, HF.out.2], HZ.out.2.2⟩
    have y0 := HZ.out.1.cell 0 (by simp [cellsV])
    have y1 := HZ.out.1.cell 1 (by simp [cellsV])
    simp only [cellsV, List.getElem_cons_zero, List.getElem_cons_succ] at y0 y1
    have r2 := HZ.out.2.1.cell
    rw [results_cc rfl]
    simp [asAddr, Result.andThen, go_sem, y0, y1, r2, encV]
end Go.Proofs.YtjpldfkhacchdaaDoor
