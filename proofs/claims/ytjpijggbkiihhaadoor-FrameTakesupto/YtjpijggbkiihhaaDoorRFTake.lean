/-
  The document's own Take of chapter 4 answers as the program's; nothing that was there is changed. Condition: the text has fewer than 2^62 bytes.
-/
import Derived.Deep.DeepCutAuto
import Derived.Test.YtjpijggbkiihhaaDoorRFRight
import Derived.Test.YtjpijggbkiihhaaDoorRTake
import Derived.Test.YtjpijggbkiihhaaDoorPFRef
namespace Go.Proofs.YtjpijggbkiihhaaDoor
open Go.RowKit

theorem byte_small (b : UInt8) : (b.toNat : Int) < 256 := by have := UInt8.toNat_lt b; omega
/-- the first byte is there, and no type -/
def noType (s : ByteArray) : Bool := if h : 0 < s.size then !kOk ((s[0]'h).toNat : Int) else false

set_option maxRecDepth 100000 in
set_option maxHeartbeats 8000000 in
theorem rftake_any (s : ByteArray) (m : Int) (w : World) (hs : s.size < 4611686018427387904) :
    Calls Tryd.prog 14 #[.string s, .int .i64 m] w fun e w' => e = .returned (frTakeV s m) ∧ Below w.heap.size w w' := by
  go_enter Tryd.func14, Tryd.ntmps14
  go_upto_if 16 with fail
  go_cut [1] (fun v wx => v = .int .i64 (max m 4096) ∧ wx = w.alloc (.cells #[.int .i64 0, .int .i64 0, .string ⟨#[]⟩] 23))
  case first =>
    by_cases h1 : m < 4096
    · go_wp2
      go_meet
      case rel => exact ⟨by rw [show max m 4096 = 4096 by omega], rfl⟩
    · go_wp2
      go_meet
      case rel => exact ⟨by rw [show max m 4096 = m by omega], rfl⟩
  obtain ⟨rfl, rfl⟩ := hcut
  go_upto_if 18 with fail
  go_cut [1] (fun v wx => v = .int .i64 (min (max m 4096) 131072) ∧ wx = w.alloc (.cells #[.int .i64 0, .int .i64 0, .string ⟨#[]⟩] 23))
  case first =>
    by_cases h1 : 131072 < max m 4096
    · go_wp2
      go_meet
      case rel => exact ⟨by rw [show min (max m 4096) 131072 = 131072 by omega], rfl⟩
    · go_wp2
      go_meet
      case rel => exact ⟨by rw [show min (max m 4096) 131072 = max m 4096 by omega], rfl⟩
  obtain ⟨rfl, rfl⟩ := hcut
  obtain ⟨mm, hmm⟩ : ∃ mm, min (max m 4096) 131072 = mm := ⟨_, rfl⟩
  have hmb : 4096 ≤ mm ∧ mm ≤ 131072 := by omega
  have HM := Lib.hid (show roomOf m + 8 = mm by unfold roomOf; omega)
  rw [hmm]
  clear hmm
  go_upto_region 5 with fail
  go_cut [41] (fun v wx => v = .bool (noType s) ∧ wx = w.alloc (.cells #[.int .i64 0, .int .i64 0, .string ⟨#[]⟩] 23))
  case first =>
    by_cases p0 : 0 < s.size
    · cases hk : kOk ((s[0]'p0).toNat : Int)
      · have H := Lib.hid (show noType s = true by rw [noType, dif_pos p0, hk]; rfl)
        have t1 : (((s[0]'p0).toNat : Int) != 1) = true ∧ (((s[0]'p0).toNat : Int) != 2) = true ∧ (((s[0]'p0).toNat : Int) != 3) = true ∧ (((s[0]'p0).toNat : Int) != 8) = true := by
          simp only [kOk, Bool.or_eq_false_iff, beq_eq_false_iff_ne] at hk
          simp only [bne_iff_ne]
          omega
        obtain ⟨t1, t2, t3, t8⟩ := t1
        clear hk
        go_wp2
        go_meet
        case rel => exact ⟨by rw [H.out], rfl⟩
      · have H := Lib.hid (show noType s = false by rw [noType, dif_pos p0, hk]; rfl)
        have t0 : (((s[0]'p0).toNat : Int) = 1 ∨ ((s[0]'p0).toNat : Int) = 2 ∨ ((s[0]'p0).toNat : Int) = 3 ∨ ((s[0]'p0).toNat : Int) = 8) := by
          simp only [kOk, Bool.or_eq_true, beq_iff_eq] at hk
          omega
        clear hk
        rcases t0 with t | t | t | t
        · have t1 : (((s[0]'p0).toNat : Int) != 1) = false := by rw [t]; rfl
          clear t
          go_wp2
          go_meet
          case rel => exact ⟨by rw [H.out], rfl⟩
        · have t1 : (((s[0]'p0).toNat : Int) != 1) = true := by rw [t]; rfl
          have t2 : (((s[0]'p0).toNat : Int) != 2) = false := by rw [t]; rfl
          clear t
          go_wp2
          go_meet
          case rel => exact ⟨by rw [H.out], rfl⟩
        · have t1 : (((s[0]'p0).toNat : Int) != 1) = true := by rw [t]; rfl
          have t2 : (((s[0]'p0).toNat : Int) != 2) = true := by rw [t]; rfl
          have t3 : (((s[0]'p0).toNat : Int) != 3) = false := by rw [t]; rfl
          clear t
          go_wp2
          go_meet
          case rel => exact ⟨by rw [H.out], rfl⟩
        · have t1 : (((s[0]'p0).toNat : Int) != 1) = true := by rw [t]; rfl
          have t2 : (((s[0]'p0).toNat : Int) != 2) = true := by rw [t]; rfl
          have t3 : (((s[0]'p0).toNat : Int) != 3) = true := by rw [t]; rfl
          have t8 : (((s[0]'p0).toNat : Int) != 8) = false := by rw [t]; rfl
          clear t
          go_wp2
          go_meet
          case rel => exact ⟨by rw [H.out], rfl⟩
    · have H := Lib.hid (show noType s = false by rw [noType, dif_neg p0])
      go_wp2
      go_meet
      case rel => exact ⟨by rw [H.out], rfl⟩
  obtain ⟨rfl, rfl⟩ := hcut
  have x0 := Bx.new w 23 [.int .i64 0, .int .i64 0, .string ⟨#[]⟩]
  have hb0 : Below w.heap.size w (w.alloc (.cells [.int .i64 0, .int .i64 0, .string ⟨#[]⟩].toArray 23)) := (Below.refl _ _).alloc (Nat.le_refl _) _
  cases hnt : noType s
  case true =>
    have H : Hid (frTakeV s m = .tuple #[.agg #[.int .i64 0, .int .i64 0, .string ⟨#[]⟩], .string ⟨#[]⟩, .int .i64 6]) := by
      unfold noType at hnt
      split at hnt
      · rename_i p0
        exact Lib.hid (frTakeV_bad (ref_type p0 m (by simpa using hnt)) (by decide))
      · cases hnt
    clear hnt
    go_wp2
    refine bodyPost_ret (v := .tuple #[.agg #[.int .i64 0, .int .i64 0, .string ⟨#[]⟩], .string ⟨#[]⟩, .int .i64 6]) ?_ rfl ⟨by rw [H.out], hb0⟩
    rw [results_ctt rfl]
    simp [asAddr, Result.andThen, go_sem]
  by_cases h7 : s.size < 7
  · have H : Hid (frTakeV s m = .tuple #[.agg #[.int .i64 0, .int .i64 0, .string ⟨#[]⟩], .string ⟨#[]⟩, .int .i64 2]) := by
      by_cases p0 : 0 < s.size
      · rw [noType, dif_pos p0] at hnt
        exact Lib.hid (frTakeV_bad ((ref_few h7 m).2 p0 (by simpa using hnt)) (by decide))
      · exact Lib.hid (frTakeV_bad ((ref_few h7 m).1 (by omega)) (by decide))
    clear hnt
    go_wp2
    refine bodyPost_ret (v := .tuple #[.agg #[.int .i64 0, .int .i64 0, .string ⟨#[]⟩], .string ⟨#[]⟩, .int .i64 2]) ?_ rfl ⟨by rw [H.out], hb0⟩
    rw [results_ctt rfl]
    simp [asAddr, Result.andThen, go_sem]
  have p0 : 0 < s.size := by omega
  have HK : Hid (kOk ((s[0]'p0).toNat : Int) = true) := by
    rw [noType, dif_pos p0] at hnt
    exact Lib.hid (by simpa using hnt)
  clear hnt
  have h7' : 7 ≤ s.size := by omega
  obtain ⟨g1, g2, g3, g4, g5, g6, -⟩ := ref_front h7'
  have F0 := Lib.hid (frontE_of g1 (by rw [g2]; exact HK.out) g3 g4)
  have v2 : 0 ≤ takeV (fr1 s) 2 ∧ takeV (fr1 s) 2 < 65536 := takeV_small (k := 2) rfl g3
  have v4 : 0 ≤ takeV (fr2 s) 4 ∧ takeV (fr2 s) 4 < 4294967296 := takeV_small (k := 4) rfl g4
  obtain ⟨n, hn⟩ : ∃ n : Nat, frSize s = n := ⟨(frSize s).toNat, by unfold frSize; omega⟩
  have HP := Lib.hid (ref_parts h7' hn)
  have HN := Lib.hid hn
  have n4 : n < 4294967296 := by have : takeV (fr2 s) 4 = n := hn; omega
  have HC := Lib.hid g2
  rw [hn] at g6
  have HG5 := Lib.hid g5
  have c16 : 0 ≤ takeV (s.extract 1 3) 2 ∧ takeV (s.extract 1 3) 2 < 65536 := by rw [← g5]; exact v2
  have HG6 := Lib.hid g6
  clear g1 g2 g3 g4 g5 g6 v2 v4 hn h7 HK
  go_wp2_with fail
  refine (rtake_any (s.extract 1 3) 2 _).mono ?_
  rintro e w1 ⟨rfl, hb⟩
  have x1 := x0.kept hb
  have hb1 := hb0.trans (hb.mono hb0.size)
  clear x0 hb0 hb
  generalize takeV (s.extract 1 3) 2 = ch at c16 HG5 ⊢
  generalize takeR (s.extract 1 3) 2 = ra
  generalize takeE (s.extract 1 3) 2 = ea
  go_wp2_with fail
  refine (rtake_any (s.extract 3 7) 4 _).mono ?_
  rintro e w2 ⟨rfl, hb⟩
  have x2 := x1.kept hb
  have hb2 := hb1.trans (hb.mono hb1.size)
  clear x1 hb1 hb
  rw [← HG6.out]
  generalize takeR (s.extract 3 7) 4 = rb
  generalize takeE (s.extract 3 7) 4 = eb
  clear HG6
  by_cases hbig : mm < (n : Int) + 8
  · have H := Lib.hid (frTakeV_bad (s := s) (m := m) (e := 6) (by rw [frE, if_pos F0.out, if_neg (by rw [HN.out]; have := HM.out; omega)]) (by decide))
    obtain ⟨c0, f0, c1, f1, c2, f2, y⟩ := x2.store3 (.int .i64 0) (.int .i64 0) (.string ⟨#[]⟩)
    have d0 := y.cell 0 (by simp)
    have d1 := y.cell 1 (by simp)
    have d2 := y.cell 2 (by simp)
    dsimp only [List.getElem_cons_zero, List.getElem_cons_succ] at d0 d1 d2
    have hbz := below_store3 hb2 (Nat.le_refl _) (.int .i64 0) (.int .i64 0) (.string ⟨#[]⟩)
    clear y x2 hb2
    go_wp2
    refine bodyPost_ret (v := .tuple #[.agg #[.int .i64 0, .int .i64 0, .string ⟨#[]⟩], .string ⟨#[]⟩, .int .i64 6]) ?_ rfl ⟨by rw [H.out], hbz⟩
    rw [results_ctt rfl]
    simp [asAddr, Result.andThen, go_sem, d0, d1, d2]
  have HR := Lib.hid (show frSize s ≤ roomOf m by rw [HN.out]; have := HM.out; omega)
  by_cases hfew : s.size < n + 8
  · have H := Lib.hid (frTakeV_bad (s := s) (m := m) (e := 2) (by
      rw [frE, if_pos F0.out, if_pos HR.out]
      obtain ⟨q1, -, q3⟩ := HP.out
      by_cases h9 : n + 7 ≤ s.size
      · rw [if_pos (q1.1 h9), if_neg (by rw [q3 (by omega) h9]; simp)]
      · rw [if_neg (fun h => h9 (q1.2 h))]) (by decide))
    have hfew' : (s.size : Int) < (n : Int) + 8 := by omega
    obtain ⟨c0, f0, c1, f1, c2, f2, y⟩ := x2.store3 (.int .i64 0) (.int .i64 0) (.string ⟨#[]⟩)
    have d0 := y.cell 0 (by simp)
    have d1 := y.cell 1 (by simp)
    have d2 := y.cell 2 (by simp)
    dsimp only [List.getElem_cons_zero, List.getElem_cons_succ] at d0 d1 d2
    have hbz := below_store3 hb2 (Nat.le_refl _) (.int .i64 0) (.int .i64 0) (.string ⟨#[]⟩)
    clear y x2 hb2
    go_wp2
    refine bodyPost_ret (v := .tuple #[.agg #[.int .i64 0, .int .i64 0, .string ⟨#[]⟩], .string ⟨#[]⟩, .int .i64 2]) ?_ rfl ⟨by rw [H.out], hbz⟩
    rw [results_ctt rfl]
    simp [asAddr, Result.andThen, go_sem, d0, d1, d2]
  have h8 : n + 8 ≤ s.size := by omega
  obtain ⟨q1, q2, -⟩ := HP.out
  obtain ⟨q2, q3, q4, q5⟩ := q2 h8
  have Q0 := Lib.hid (q1.1 (by omega))
  have QA := Lib.hid q2
  have QO := Lib.hid q3
  have QV := Lib.hid q4
  have QR := Lib.hid q5
  have b7 : 7 + n < s.size := by omega
  have b0 : ((s[0]'p0).toNat : Int) < 256 := byte_small _
  clear q1 q2 q3 q4 q5 HP
  have xf := Bx.new w2 23 [.int .i64 (s[0]'p0).toNat, .int .i64 ch, .string (s.extract 7 (7 + n))]
  go_wp2
  go_region
  have x3 : Bx (w2.alloc (.cells #[.int .i64 (s[0]'p0).toNat, .int .i64 ch, .string (s.extract 7 (7 + n))] 23)).drew w.heap.size 23 [.int .i64 0, .int .i64 0, .string ⟨#[]⟩] := x2.alloc _
  have xf3 : Bx (w2.alloc (.cells #[.int .i64 (s[0]'p0).toNat, .int .i64 ch, .string (s.extract 7 (7 + n))] 23)).drew w2.heap.size 23 [.int .i64 (s[0]'p0).toNat, .int .i64 ch, .string (s.extract 7 (7 + n))] := xf
  have hb3 := (hb2.alloc hb2.size (.cells #[.int .i64 (s[0]'p0).toNat, .int .i64 ch, .string (s.extract 7 (7 + n))] 23)).drew
  have HLT := Lib.hid x2.lt
  have R := rright_any ⟨((s[0]'p0).toNat : Int), ch, s.extract 7 (7 + n)⟩ (w2.alloc (.cells #[.int .i64 (s[0]'p0).toNat, .int .i64 ch, .string (s.extract 7 (7 + n))] 23)).drew
  have HGot := Lib.hid (show frGot s = ⟨((s[0]'p0).toNat : Int), ch, s.extract 7 (7 + n)⟩ by rw [frGot, HC.out, HG5.out, QA.out])
  clear x2 xf hb2
  unfold encFr at R
  dsimp only at R
  generalize (w2.alloc (.cells #[.int .i64 (s[0]'p0).toNat, .int .i64 ch, .string (s.extract 7 (7 + n))] 23)).drew = w3 at x3 xf3 hb3 R ⊢
  have k0 := xf3.cell 0 (by simp)
  have k1 := xf3.cell 1 (by simp)
  have k2 := xf3.cell 2 (by simp)
  dsimp only [List.getElem_cons_zero, List.getElem_cons_succ] at k0 k1 k2
  go_wp2_with fail
  refine R.mono ?_
  rintro e w4 ⟨rfl, hb⟩
  have x4 := x3.kept hb
  have xf4 := xf3.kept hb
  have hb4 := hb3.trans (hb.mono hb3.size)
  clear x3 xf3 hb3 hb R k0 k1 k2
  by_cases h6 : ((s[7 + n]'b7).toNat : Int) = 206
  case neg =>
    have H := Lib.hid (frTakeV_bad (s := s) (m := m) (e := 6) (by
      rw [frE, if_pos F0.out, if_pos HR.out, if_pos Q0.out, if_pos QO.out, QV.out, if_neg]
      simp [h6]) (by decide))
    have t6 : (((s[7 + n]'b7).toNat : Int) != 206) = true := by simpa using h6
    generalize frRight ⟨((s[0]'p0).toNat : Int), ch, s.extract 7 (7 + n)⟩ = rr
    clear xf4 h6
    obtain ⟨c0, f0, c1, f1, c2, f2, y⟩ := x4.store3 (.int .i64 0) (.int .i64 0) (.string ⟨#[]⟩)
    have d0 := y.cell 0 (by simp)
    have d1 := y.cell 1 (by simp)
    have d2 := y.cell 2 (by simp)
    dsimp only [List.getElem_cons_zero, List.getElem_cons_succ] at d0 d1 d2
    have hbz := below_store3 hb4 (Nat.le_refl _) (.int .i64 0) (.int .i64 0) (.string ⟨#[]⟩)
    clear y x4 hb4
    go_wp2
    refine bodyPost_ret (v := .tuple #[.agg #[.int .i64 0, .int .i64 0, .string ⟨#[]⟩], .string ⟨#[]⟩, .int .i64 6]) ?_ rfl ⟨by rw [H.out], hbz⟩
    rw [results_ctt rfl]
    simp [asAddr, Result.andThen, go_sem, d0, d1, d2]
  have t6 : (((s[7 + n]'b7).toNat : Int) != 206) = false := by simp [h6]
  cases hr : frRight ⟨((s[0]'p0).toNat : Int), ch, s.extract 7 (7 + n)⟩
  case false =>
    have H := Lib.hid (frTakeV_bad (s := s) (m := m) (e := 6) (by
      rw [frE, if_pos F0.out, if_pos HR.out, if_pos Q0.out, if_pos QO.out, HGot.out, hr, if_neg]
      simp) (by decide))
    clear xf4 h6 hr
    obtain ⟨c0, f0, c1, f1, c2, f2, y⟩ := x4.store3 (.int .i64 0) (.int .i64 0) (.string ⟨#[]⟩)
    have d0 := y.cell 0 (by simp)
    have d1 := y.cell 1 (by simp)
    have d2 := y.cell 2 (by simp)
    dsimp only [List.getElem_cons_zero, List.getElem_cons_succ] at d0 d1 d2
    have hbz := below_store3 hb4 (Nat.le_refl _) (.int .i64 0) (.int .i64 0) (.string ⟨#[]⟩)
    clear y x4 hb4
    go_wp2
    refine bodyPost_ret (v := .tuple #[.agg #[.int .i64 0, .int .i64 0, .string ⟨#[]⟩], .string ⟨#[]⟩, .int .i64 6]) ?_ rfl ⟨by rw [H.out], hbz⟩
    rw [results_ctt rfl]
    simp [asAddr, Result.andThen, go_sem, d0, d1, d2]
  have H := Lib.hid (frTakeV_ok (m := m) (frE_of F0.out HR.out Q0.out QO.out (by rw [QV.out]; exact h6) (by rw [HGot.out]; exact hr)))
  have HRest := Lib.hid (show takeR (frEnd s) 1 = s.extract (8 + n) s.size from QR.out)
  rw [HC.out, HG5.out, QA.out, HRest.out] at H
  clear h6 hr
  have k0 := xf4.cell 0 (by simp)
  have k1 := xf4.cell 1 (by simp)
  have k2 := xf4.cell 2 (by simp)
  dsimp only [List.getElem_cons_zero, List.getElem_cons_succ] at k0 k1 k2
  clear xf4
  obtain ⟨c0, f0, c1, f1, c2, f2, y⟩ := x4.store3 (.int .i64 (s[0]'p0).toNat) (.int .i64 ch) (.string (s.extract 7 (7 + n)))
  have d0 := y.cell 0 (by simp)
  have d1 := y.cell 1 (by simp)
  have d2 := y.cell 2 (by simp)
  dsimp only [List.getElem_cons_zero, List.getElem_cons_succ] at d0 d1 d2
  have hbz := below_store3 hb4 (Nat.le_refl _) (.int .i64 (s[0]'p0).toNat) (.int .i64 ch) (.string (s.extract 7 (7 + n)))
  clear y x4 hb4
  go_wp2
  go_region
  go_wp2
  refine bodyPost_ret (v := .tuple #[.agg #[.int .i64 (s[0]'p0).toNat, .int .i64 ch, .string (s.extract 7 (7 + n))], .string (s.extract (8 + n) s.size), .int .i64 0]) ?_ rfl ⟨by rw [H.out], hbz.drew⟩
  rw [results_ctt rfl]
  simp [asAddr, Result.andThen, go_sem, d0, d1, d2]
end Go.Proofs.YtjpijggbkiihhaaDoor
