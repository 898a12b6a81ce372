/-
  BeatNext answers true, whatever the row of what is due; nothing that was there is changed. Condition: the row's length fits a machine's.
-/
import Derived.Test.YtlbmkokdoigcnaaWBShown
import Derived.Test.YtlbmkokdoigcnaaPBeatL
namespace Go.Proofs.Ytlbmkokdoigcnaa
open Go.RowKit Go.Shelf

theorem take_first {l : List DP} (h0 : 0 < l.length) : ∃ t, offF (laterF (firstF l).a) (srt l) = firstF l :: t := by
  obtain ⟨t, ht⟩ := first_srt h0
  rw [ht]
  unfold offF
  rw [List.takeWhile_cons]
  have : laterF (firstF l).a (firstF l) = false := by simp [laterF]
  rw [this]
  exact ⟨_, rfl⟩

set_option maxRecDepth 100000 in
set_option maxHeartbeats 4000000 in
theorem beatNext_walk (A : Option Addr) (cap : Nat) (l : List DP) (w : World) (hA : InD w A cap l) (hl : l.length < 4611686018427387904) :
    Calls Try.prog 7 #[.slice A l.length cap] w fun e w' => e = .returned (.bool true) ∧ Below w.heap.size w w' := by
  have hNx := fun w1 (h : Below w.heap.size w w1) => next_any A cap l w1 (hA.below h) hl
  obtain ⟨n, hn⟩ : ∃ n, n = l.length := ⟨_, rfl⟩
  obtain ⟨d, hd⟩ : ∃ d, d = firstF l := ⟨_, rfl⟩
  rw [← hd] at hNx
  rw [← hn] at hNx
  have HN := Lib.hid hn
  have HD := Lib.hid hd
  have hdd : encD d = .agg #[.int .i64 d.a, .int .i64 d.i] := rfl
  rw [hdd] at hNx
  clear hdd
  have hNs : n < 4611686018427387904 := by omega
  rw [← hn]
  have tests : (decide (0 < n) = false ∧ ((n : Int) == 0) = true) ∨ (decide (0 < n) = true ∧ ((n : Int) == 0) = false ∧ decide (200 < n) = true) ∨ (decide (0 < n) = true ∧ ((n : Int) == 0) = false ∧ decide (200 < n) = false ∧ n ≤ 200) := by
    simp
    omega
  rcases tests with ⟨t1, t2⟩ | ⟨t1, t2, t3⟩ | ⟨t1, t2, t3, hn200⟩
  · obtain rfl : n = 0 := by simpa using t2
    rw [t1] at hNx
    obtain ⟨da, di⟩ := d
    dsimp only at hNx
    clear hA hn hd t1 t2
    go_enter Try.func7, Try.ntmps7
    go_wp2_with fail
    refine (bshown_any w).mono ?_
    rintro e w1 ⟨rfl, hb1⟩
    go_wp2_with fail
    refine (hNx w1 hb1).mono ?_
    rintro e w2 ⟨rfl, hb2⟩
    have hB2 := hb1.trans (hb2.mono hb1.size)
    have hB3 := hB2.alloc hB2.size (.cells #[.int .i64 da, .int .i64 di] 24)
    clear hNx hb1 hb2 hB2
    go_wp2
    go_ret
    exact ⟨rfl, hB3⟩
  · have t4 : ¬ ((n : Int) = 0) := by simpa using t2
    have t5 : 200 < n := by simpa using t3
    rw [t1] at hNx
    obtain ⟨da, di⟩ := d
    dsimp only at hNx
    clear hA hn hd t1 hl
    go_enter Try.func7, Try.ntmps7
    go_wp2_with fail
    refine (bshown_any w).mono ?_
    rintro e w1 ⟨rfl, hb1⟩
    go_wp2_with fail
    refine (hNx w1 hb1).mono ?_
    rintro e w2 ⟨rfl, hb2⟩
    have hB2 := hb1.trans (hb2.mono hb1.size)
    have hB3 := hB2.alloc hB2.size (.cells #[.int .i64 da, .int .i64 di] 24)
    clear hNx hb1 hb2 hB2
    go_wp2
    go_ret
    exact ⟨rfl, hB3⟩
  · have t4 : ¬ ((n : Int) = 0) := by simpa using t2
    have h0 : 0 < n := by simpa using t1
    have t5 : ¬ (200 < n) := by omega
    rw [t1] at hNx
    obtain ⟨off, hoff⟩ := take_first (l := l) (by omega)
    rw [← hd] at hoff
    have hT := fun w1 (h : Below w.heap.size w w1) => take_any A cap l d.a w1 (hA.below h) (by omega)
    rw [hoff] at hT
    rw [← hn] at hT
    have hle : ∀ k, k < n → ltD (atD l k) d = false := fun k hk => by rw [hd]; exact first_le (atD_mem (by omega))
    have hin : ∃ k, k < n ∧ atD l k = d := by
      obtain ⟨k, hk, e⟩ := atD_of_mem (first_in (l := l) (by omega))
      exact ⟨k, by omega, by rw [e, hd]⟩
    have HLe := Lib.hid hle
    have HIn := Lib.hid hin
    have hlen2 : (d :: off).length = off.length + 1 := rfl
    obtain ⟨ol, hol⟩ : ∃ ol, ol = off.length + 1 := ⟨_, rfl⟩
    rw [hlen2, ← hol] at hT
    have hids : intVals (idsOf (d :: off)) = .int .i64 d.i :: intVals (idsOf off) := rfl
    rw [hids] at hT
    have ho1 : (1 : Int) ≤ (ol : Int) := by omega
    have ho2 : decide (1 ≤ ol) = true := by simp; omega
    have ho3 : (0 : Int) < (ol : Int) := by omega
    clear hle hin hoff hlen2 hol hids hd hn
    obtain ⟨da, di⟩ := d
    dsimp only at hNx hT
    have HAin := Lib.hid hA
    clear hA hl t1
    go_enter Try.func7, Try.ntmps7
    go_wp2_with fail
    refine (bshown_any w).mono ?_
    rintro e w1 ⟨rfl, hb1⟩
    go_wp2_with fail
    refine (hNx w1 hb1).mono ?_
    rintro e w2 ⟨rfl, hb2⟩
    have hB2 := hb1.trans (hb2.mono hb1.size)
    obtain ⟨W3, hW3⟩ : ∃ W3, W3 = w2.alloc (.cells #[.int .i64 da, .int .i64 di] 24) := ⟨_, rfl⟩
    have hB3 : Below w.heap.size w W3 := by rw [hW3]; exact hB2.alloc hB2.size _
    have hx3 : Bx W3 w2.heap.size 24 [.int .i64 da, .int .i64 di] := by rw [hW3]; exact Bx.new w2 _ _
    clear hNx hb1 hb2 hB2
    go_wp2_with fail
    rw [← hW3]
    clear hW3
    go_loopw [6, 7] (fun x y wr => ∃ (k : Nat) (q : Bool), y = .int .i64 k ∧ k ≤ n ∧ x = .bool q ∧ Below W3.heap.size W3 wr ∧ Hid (∀ j, j < k → atD l j = ⟨da, di⟩ → q = true)) (fun _ y _ => n - (intOf y).toNat)
    case atStart => exact ⟨0, false, rfl, Nat.zero_le _, rfl, Below.refl _ _, Lib.hid (fun j hj => absurd hj (Nat.not_lt_zero _))⟩
    case round =>
      obtain ⟨k, q, rfl, hk, rfl, hb, HM⟩ := hrel
      have hB4 := hB3.trans (hb.mono hB3.size)
      have hx4 := hx3.kept hb
      have y0 := hx4.cell 0 (by simp)
      have y1 := hx4.cell 1 (by simp)
      dsimp only [List.getElem_cons_zero, List.getElem_cons_succ] at y0 y1
      by_cases hlt : k < n
      · have hnl : n = l.length := HN.out
        obtain ⟨g, o, rfl, hgl, hcs⟩ := vals_d (HAin.out.below hB4).1 (by omega)
        obtain ⟨c1, c2⟩ := hcs k (by omega)
        have hlek := HLe.out k hlt
        have e1 : IntKind.i64.wrap ((k : Int) + 1) = ((k + 1 : Nat) : Int) := by simp only [IntKind.wrap_i64]; omega
        have k0 : (0 : Int) ≤ (k : Int) := by omega
        have k1 : (k : Int) < (n : Int) := by omega
        have HK : Hid (∀ q', (∀ x, x = atD l k → x = ⟨da, di⟩ → q' = true) → (q = true → q' = true) → ∀ j, j < k + 1 → atD l j = ⟨da, di⟩ → q' = true) := Lib.hid (fun q' h1 h2 j hj e => by
          rcases Nat.lt_or_ge j k with h | h
          · exact h2 (HM.out j h e)
          · obtain rfl : j = k := by omega
            exact h1 _ rfl e)
        have HX : Hid (atD l k = atD l k) := Lib.hid rfl
        generalize atD l k = x at *
        obtain ⟨xa, xi⟩ := x
        dsimp only at c1 c2
        rw [ltD_not] at hlek
        dsimp only at hlek
        have s1 : decide (xa < da) = false := by simp; omega
        have s2 : ¬ (xa < da) := by omega
        clear hcs hnl HM HX
        rcases Bool.eq_false_or_eq_true (xa == da) with z1 | z1
        · have s3 : decide (xi < di) = false := by
            have : xa = da := by simpa using z1
            simp
            omega
          have s4 : ¬ (xi < di) := by simpa using s3
          rcases Bool.eq_false_or_eq_true (xi == di) with z2 | z2
          · cases q
            · clear HK hlek
              go_wp2
              go_quiet (fail)
              go_wp2
              go_quiet (fail)
              go_wp2
              go_roundw
              case rel => exact ⟨k + 1, true, rfl, hlt, rfl, below_drewN hb _, Lib.hid (fun _ _ _ => rfl)⟩
              case measure => simp only [intOf]; omega
            · clear HK hlek
              go_wp2
              go_quiet (fail)
              go_wp2
              go_quiet (fail)
              go_wp2
              go_roundw
              case rel => exact ⟨k + 1, true, rfl, hlt, rfl, below_drewN hb _, Lib.hid (fun _ _ _ => rfl)⟩
              case measure => simp only [intOf]; omega
          · cases q
            · have HR : Hid (∀ j, j < k + 1 → atD l j = ⟨da, di⟩ → false = true) := Lib.hid (HK.out false (fun x h1 h2 => by rw [h1] at h2; cases h2; simp at z2) (fun h => h))
              clear HK hlek
              go_wp2
              go_quiet (fail)
              go_wp2
              go_quiet (fail)
              go_wp2
              go_roundw
              case rel => exact ⟨k + 1, false, rfl, hlt, rfl, below_drewN hb _, HR⟩
              case measure => simp only [intOf]; omega
            · clear HK hlek
              go_wp2
              go_quiet (fail)
              go_wp2
              go_quiet (fail)
              go_wp2
              go_roundw
              case rel => exact ⟨k + 1, true, rfl, hlt, rfl, below_drewN hb _, Lib.hid (fun _ _ _ => rfl)⟩
              case measure => simp only [intOf]; omega
        · cases q
          · have HR : Hid (∀ j, j < k + 1 → atD l j = ⟨da, di⟩ → false = true) := Lib.hid (HK.out false (fun x h1 h2 => by rw [h1] at h2; cases h2; simp at z1) (fun h => h))
            clear HK hlek
            go_wp2
            go_quiet (fail)
            go_wp2
            go_quiet (fail)
            go_wp2
            go_roundw
            case rel => exact ⟨k + 1, false, rfl, hlt, rfl, below_drewN hb _, HR⟩
            case measure => simp only [intOf]; omega
          · clear HK hlek
            go_wp2
            go_quiet (fail)
            go_wp2
            go_quiet (fail)
            go_wp2
            go_roundw
            case rel => exact ⟨k + 1, true, rfl, hlt, rfl, below_drewN hb _, Lib.hid (fun _ _ _ => rfl)⟩
            case measure => simp only [intOf]; omega
      · obtain rfl : k = n := by omega
        obtain rfl : q = true := by
          obtain ⟨j, hj, e⟩ := HIn.out
          exact HM.out j hj e
        clear hlt hk HM HIn HLe HAin
        go_wp2_with fail
        refine (hT wr hB4).mono ?_
        rintro e w5 ⟨u, v, rfl, -, hv, hb5⟩
        have hx5 := hx4.kept hb5
        have hB5 := hB4.trans (hb5.mono hB4.size)
        obtain ⟨Av, cv, rfl, hVv, -⟩ := vals_row hv
        obtain ⟨gv, ov, rfl, -, hcv⟩ := hVv (by simp)
        have z0 := hcv 0 (by simp)
        rw [Nat.add_zero] at z0
        simp only [List.getElem_cons_zero] at z0
        have z1 := hx5.cell 1 (by simp)
        have z2 := hx5.cell 0 (by simp)
        dsimp only [List.getElem_cons_zero, List.getElem_cons_succ] at z1 z2
        clear hT hv hb5 hx5 hx4 hB4 hcv hVv hb y0 y1 hx3 hB3
        go_wp2
        go_quiet (fail)
        go_wp2
        go_ret
        exact ⟨rfl, below_drewN hB5 _⟩
end Go.Proofs.Ytlbmkokdoigcnaa
