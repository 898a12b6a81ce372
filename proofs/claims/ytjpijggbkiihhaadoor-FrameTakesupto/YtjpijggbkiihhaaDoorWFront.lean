/-
  frame.front answers what stands ahead of a frame's data, or why not; nothing that was there is changed. Conditions: the tables of widths and kinds are as their texts lay them.
-/
import Derived.Test.YtjpijggbkiihhaaDoorMBoxed
import Derived.Test.YtjpijggbkiihhaaDoorWTake
import Derived.Test.YtjpijggbkiihhaaDoorWRight
import Derived.Test.YtjpijggbkiihhaaDoorWRoom
namespace Go.Proofs.YtjpijggbkiihhaaDoor
open Go.RowKit

/-- what front answers -/
def frontV (s : ByteArray) : Value := if frontE s = 0 then .tuple #[.agg #[.int .i64 (frCode s), .int .i64 (frChan s), .string ⟨#[]⟩], .int .u64 (frSize s), .string (takeR (fr2 s) 4), .int .i64 0] else .tuple #[.agg #[.int .i64 0, .int .i64 0, .string ⟨#[]⟩], .int .u64 0, .string ⟨#[]⟩, .int .i64 (frontE s)]
theorem takeE_two {s : ByteArray} {n : Int} (hn : isW n = true) (h : takeOk s n = false) : takeE s n = 2 := by
  simp [takeE, hn, h]
theorem takeV_small {s : ByteArray} {n : Int} {k : Nat} (hk : n = k) (h : takeOk s n = true) : 0 ≤ takeV s n ∧ takeV s n < ((256 ^ k : Nat) : Int) := by
  subst hk
  have h1 := takeV_pow h
  have h2 := takeV_nonneg s k
  have e : (k : Int).toNat = k := by omega
  rw [e] at h1
  refine ⟨h2, ?_⟩
  have h3 : ((takeV s k).toNat : Int) < ((256 ^ k : Nat) : Int) := by exact_mod_cast h1
  omega

set_option maxRecDepth 100000 in
set_option maxHeartbeats 4000000 in
theorem front_any (s : ByteArray) (w : World) (hw : Wid w) (hk : Kin w) :
    Calls Tryd.prog 26 #[.string s] w fun e w' => e = .returned (frontV s) ∧ Below w.heap.size w w' := by
  have x0 := Bx.new w 23 [.int .i64 0, .int .i64 0, .string ⟨#[]⟩]
  have hb0 : Below w.heap.size w (w.alloc (.cells [.int .i64 0, .int .i64 0, .string ⟨#[]⟩].toArray 23)) := (Below.refl _ _).alloc (Nat.le_refl _) _
  go_enter Tryd.func26, Tryd.ntmps26
  go_wp2_with fail
  refine (take_any s 1 _ (hw.below hb0)).mono ?_
  rintro e w1 ⟨rfl, hb⟩
  have x1 := x0.kept hb
  have hb1 := hb0.trans (hb.mono hb0.size)
  clear x0 hb0 hb
  cases h1 : takeOk s 1
  · have H := Lib.hid (show frontV s = .tuple #[.agg #[.int .i64 0, .int .i64 0, .string ⟨#[]⟩], .int .u64 0, .string ⟨#[]⟩, .int .i64 2] by simp [frontV, frontE, h1])
    rw [takeE_two (by decide) h1]
    clear h1
    generalize takeV s 1 = v
    generalize takeR s 1 = r
    obtain ⟨c0, f0, c1, f1, c2, f2, y⟩ := x1.store3 (.int .i64 0) (.int .i64 0) (.string ⟨#[]⟩)
    have d0 := y.cell 0 (by simp)
    have d1 := y.cell 1 (by simp)
    have d2 := y.cell 2 (by simp)
    dsimp only [List.getElem_cons_zero, List.getElem_cons_succ] at d0 d1 d2
    have hbz := below_store3 hb1 (Nat.le_refl _) (.int .i64 0) (.int .i64 0) (.string ⟨#[]⟩)
    clear y x1 hb1
    go_wp2
    refine bodyPost_ret (v := .tuple #[.agg #[.int .i64 0, .int .i64 0, .string ⟨#[]⟩], .int .u64 0, .string ⟨#[]⟩, .int .i64 2]) ?_ rfl ⟨by rw [H.out], hbz⟩
    rw [results_cttt rfl]
    simp [asAddr, Result.andThen, go_sem, d0, d1, d2]
  have hv := takeV_small (k := 1) rfl h1
  rw [takeE_of h1]
  cases h2 : kOk (takeV s 1)
  · have H := Lib.hid (show frontV s = .tuple #[.agg #[.int .i64 0, .int .i64 0, .string ⟨#[]⟩], .int .u64 0, .string ⟨#[]⟩, .int .i64 6] by simp [frontV, frontE, h1, frCode, h2])
    have K := kindOf_any (takeV s 1) w1 (hk.below hb1)
    rw [h2] at K
    clear h1 h2
    generalize takeV s 1 = v at hv K ⊢
    generalize takeR s 1 = r
    go_wp2_with fail
    refine K.mono ?_
    rintro e w2 ⟨rfl, hb⟩
    unfold encK
    have x2 := (x1.kept hb).alloc (.cells #[.int .i64 (if kOk v = true then v else 0), .int .i64 (kLast v), .int .i64 (kLeast v), .int .i64 (kMost v)] 71)
    have hb1' := hb1.trans (hb.mono hb1.size)
    have hb2 := hb1'.alloc hb1'.size (.cells #[.int .i64 (if kOk v = true then v else 0), .int .i64 (kLast v), .int .i64 (kLeast v), .int .i64 (kMost v)] 71)
    clear x1 hb1 hb1' hb K
    generalize (if kOk v = true then v else 0) = kc at x2 hb2 ⊢
    generalize kLast v = la at x2 hb2 ⊢
    generalize kLeast v = le at x2 hb2 ⊢
    generalize kMost v = mo at x2 hb2 ⊢
    obtain ⟨c0, f0, c1, f1, c2, f2, y⟩ := x2.store3 (.int .i64 0) (.int .i64 0) (.string ⟨#[]⟩)
    have d0 := y.cell 0 (by simp)
    have d1 := y.cell 1 (by simp)
    have d2 := y.cell 2 (by simp)
    dsimp only [List.getElem_cons_zero, List.getElem_cons_succ] at d0 d1 d2
    have hbz := below_store3 hb2 (Nat.le_refl _) (.int .i64 0) (.int .i64 0) (.string ⟨#[]⟩)
    clear y x2 hb2
    go_wp2
    refine bodyPost_ret (v := .tuple #[.agg #[.int .i64 0, .int .i64 0, .string ⟨#[]⟩], .int .u64 0, .string ⟨#[]⟩, .int .i64 6]) ?_ rfl ⟨by rw [H.out], hbz⟩
    rw [results_cttt rfl]
    simp [asAddr, Result.andThen, go_sem, d0, d1, d2]
  have K := kindOf_any (takeV s 1) w1 (hk.below hb1)
  have H2 := Lib.hid h2
  rw [h2] at K
  clear h2
  have e1 : fr1 s = takeR s 1 := rfl
  have e2 : frCode s = takeV s 1 := rfl
  have E1 := Lib.hid e1
  have E2 := Lib.hid e2
  have H1 := Lib.hid h1
  clear e1 e2 h1
  generalize takeV s 1 = v at hv K H2 E2 ⊢
  generalize takeR s 1 = r at E1 ⊢
  go_wp2_with fail
  refine K.mono ?_
  rintro e w2 ⟨rfl, hb⟩
  unfold encK
  have x2 := (x1.kept hb).alloc (.cells #[.int .i64 (if kOk v = true then v else 0), .int .i64 (kLast v), .int .i64 (kLeast v), .int .i64 (kMost v)] 71)
  have hb1' := hb1.trans (hb.mono hb1.size)
  have hb2 := hb1'.alloc hb1'.size (.cells #[.int .i64 (if kOk v = true then v else 0), .int .i64 (kLast v), .int .i64 (kLeast v), .int .i64 (kMost v)] 71)
  clear x1 hb1 hb1' hb K
  generalize (if kOk v = true then v else 0) = kc at x2 hb2 ⊢
  generalize kLast v = la at x2 hb2 ⊢
  generalize kLeast v = le at x2 hb2 ⊢
  generalize kMost v = mo at x2 hb2 ⊢
  go_wp2_with fail
  refine (take_any r 2 _ (hw.below hb2)).mono ?_
  rintro e w3 ⟨rfl, hb⟩
  have x3 := x2.kept hb
  have hb3 := hb2.trans (hb.mono hb2.size)
  clear x2 hb2 hb
  cases h3 : takeOk r 2
  · have H := Lib.hid (show frontV s = .tuple #[.agg #[.int .i64 0, .int .i64 0, .string ⟨#[]⟩], .int .u64 0, .string ⟨#[]⟩, .int .i64 2] by simp [frontV, frontE, H1.out, E1.out, E2.out, H2.out, h3])
    rw [takeE_two (by decide) h3]
    clear h3
    generalize takeV r 2 = v2
    generalize takeR r 2 = r2
    obtain ⟨c0, f0, c1, f1, c2, f2, y⟩ := x3.store3 (.int .i64 0) (.int .i64 0) (.string ⟨#[]⟩)
    have d0 := y.cell 0 (by simp)
    have d1 := y.cell 1 (by simp)
    have d2 := y.cell 2 (by simp)
    dsimp only [List.getElem_cons_zero, List.getElem_cons_succ] at d0 d1 d2
    have hbz := below_store3 hb3 (Nat.le_refl _) (.int .i64 0) (.int .i64 0) (.string ⟨#[]⟩)
    clear y x3 hb3
    go_wp2
    refine bodyPost_ret (v := .tuple #[.agg #[.int .i64 0, .int .i64 0, .string ⟨#[]⟩], .int .u64 0, .string ⟨#[]⟩, .int .i64 2]) ?_ rfl ⟨by rw [H.out], hbz⟩
    rw [results_cttt rfl]
    simp [asAddr, Result.andThen, go_sem, d0, d1, d2]
  have hv2 := takeV_small (k := 2) rfl h3
  rw [takeE_of h3]
  have H3 := Lib.hid h3
  have E3 := Lib.hid (show frChan s = takeV r 2 by rw [frChan, E1.out])
  have E4 := Lib.hid (show fr2 s = takeR r 2 by rw [fr2, E1.out])
  clear h3
  generalize takeV r 2 = v2 at hv2 E3 ⊢
  generalize takeR r 2 = r2 at E4 ⊢
  go_wp2_with fail
  refine (take_any r2 4 _ (hw.below hb3)).mono ?_
  rintro e w4 ⟨rfl, hb⟩
  have x4 := x3.kept hb
  have hb4 := hb3.trans (hb.mono hb3.size)
  clear x3 hb3 hb
  cases h4 : takeOk r2 4
  · have H := Lib.hid (show frontV s = .tuple #[.agg #[.int .i64 0, .int .i64 0, .string ⟨#[]⟩], .int .u64 0, .string ⟨#[]⟩, .int .i64 2] by simp [frontV, frontE, H1.out, E1.out, E2.out, H2.out, H3.out, E4.out, h4])
    rw [takeE_two (by decide) h4]
    clear h4
    generalize takeV r2 4 = v3
    generalize takeR r2 4 = r3
    obtain ⟨c0, f0, c1, f1, c2, f2, y⟩ := x4.store3 (.int .i64 0) (.int .i64 0) (.string ⟨#[]⟩)
    have d0 := y.cell 0 (by simp)
    have d1 := y.cell 1 (by simp)
    have d2 := y.cell 2 (by simp)
    dsimp only [List.getElem_cons_zero, List.getElem_cons_succ] at d0 d1 d2
    have hbz := below_store3 hb4 (Nat.le_refl _) (.int .i64 0) (.int .i64 0) (.string ⟨#[]⟩)
    clear y x4 hb4
    go_wp2
    refine bodyPost_ret (v := .tuple #[.agg #[.int .i64 0, .int .i64 0, .string ⟨#[]⟩], .int .u64 0, .string ⟨#[]⟩, .int .i64 2]) ?_ rfl ⟨by rw [H.out], hbz⟩
    rw [results_cttt rfl]
    simp [asAddr, Result.andThen, go_sem, d0, d1, d2]
  rw [takeE_of h4]
  have H := Lib.hid (show frontV s = .tuple #[.agg #[.int .i64 v, .int .i64 v2, .string ⟨#[]⟩], .int .u64 (takeV r2 4), .string (takeR r2 4), .int .i64 0] by simp [frontV, frontE, H1.out, E1.out, E2.out, H2.out, H3.out, E3.out, E4.out, h4, frSize])
  clear h4
  generalize takeV r2 4 = v3 at H ⊢
  generalize takeR r2 4 = r3 at H ⊢
  obtain ⟨c0, f0, c1, f1, c2, f2, y⟩ := x4.store3 (.int .i64 v) (.int .i64 v2) (.string ⟨#[]⟩)
  have d0 := y.cell 0 (by simp)
  have d1 := y.cell 1 (by simp)
  have d2 := y.cell 2 (by simp)
  dsimp only [List.getElem_cons_zero, List.getElem_cons_succ] at d0 d1 d2
  have hbz := below_store3 hb4 (Nat.le_refl _) (.int .i64 v) (.int .i64 v2) (.string ⟨#[]⟩)
  clear y x4 hb4
  go_wp2
  refine bodyPost_ret (v := .tuple #[.agg #[.int .i64 v, .int .i64 v2, .string ⟨#[]⟩], .int .u64 v3, .string r3, .int .i64 0]) ?_ rfl ⟨by rw [H.out], hbz⟩
  rw [results_cttt rfl]
  simp [asAddr, Result.andThen, go_sem, d0, d1, d2]
end Go.Proofs.YtjpijggbkiihhaaDoor
