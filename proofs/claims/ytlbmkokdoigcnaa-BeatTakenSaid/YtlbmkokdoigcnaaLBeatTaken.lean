/-
  BeatTaken answers true, whatever the row of what is due and the number; nothing that was there is changed. No condition.
-/
import Derived.Test.YtlbmkokdoigcnaaWBShown
import Derived.Test.YtlbmkokdoigcnaaPBeatL
namespace Go.Proofs.Ytlbmkokdoigcnaa
open Go.RowKit Go.Shelf

set_option maxRecDepth 100000 in
set_option maxHeartbeats 4000000 in
theorem beatTaken_walk (A : Option Addr) (cap : Nat) (l : List DP) (now : Int) (w : World) (hA : InD w A cap l) :
    Calls Try.prog 4 #[.slice A l.length cap, .int .i64 now] w fun e w' => e = .returned (.bool true) ∧ Below w.heap.size w w' := by
  obtain ⟨n, hn⟩ : ∃ n, n = l.length := ⟨_, rfl⟩
  have HN := Lib.hid hn
  rw [← hn]
  rcases Nat.lt_or_ge 200 n with hbig | hsmall
  · have t1 : decide (200 < n) = true := by simpa using hbig
    have t2 : 200 < n := hbig
    clear hA hn hbig
    go_enter Try.func4, Try.ntmps4
    go_wp2_with fail
    refine (bshown_any w).mono ?_
    rintro e w1 ⟨rfl, hb1⟩
    go_wp2
    go_ret
    exact ⟨rfl, hb1⟩
  · have t1 : decide (200 < n) = false := by simp; omega
    have t2 : ¬ (200 < n) := by omega
    have hT := fun w1 (h : Below w.heap.size w w1) => take_any A cap l now w1 (hA.below h) (by omega)
    have hcnt := count_off now l
    have hlen := rest_len now l
    have hso := rest_sorted now l
    have hal := rest_all now (srt_sorted l)
    generalize offF (laterF now) (srt l) = off at *
    generalize restF (laterF now) (srt l) = rest at *
    obtain ⟨ol, hol⟩ : ∃ ol, ol = off.length := ⟨_, rfl⟩
    obtain ⟨rl, hrl⟩ : ∃ rl, rl = rest.length := ⟨_, rfl⟩
    rw [← hol] at hcnt
    rw [← hn] at hcnt
    have e0 : IntKind.i64.wrap ((n : Int) - (ol : Int)) = (rl : Int) := by simp only [IntKind.wrap_i64]; omega
    have hn200 : n ≤ 200 := hsmall
    have hol200 : ol ≤ 200 := by omega
    have hrl200 : rl ≤ 200 := by omega
    rw [← hn] at hT
    rw [← hol, ← hrl] at hT
    have HCnt := Lib.hid hcnt
    have HSo := Lib.hid (show Sorted rest from hso)
    have HAl := Lib.hid hal
    have HRl := Lib.hid hrl
    clear hcnt hlen hso hal hol hrl hsmall hn
    go_enter Try.func4, Try.ntmps4
    go_wp2_with fail
    refine (bshown_any w).mono ?_
    rintro e w1 ⟨rfl, hb1⟩
    go_wp2_with fail
    refine (hT w1 hb1).mono ?_
    rintro e w2 ⟨u, v, rfl, hu, hv, hb2⟩
    have hB2 := hb1.trans (hb2.mono hb1.size)
    obtain ⟨Au, cu, rfl, hVu, -⟩ := vals_of_own hu
    obtain ⟨Av, cv, rfl, -⟩ := vals_of_row hv
    have HU := Lib.hid hVu
    have HIn := Lib.hid (hA.below hB2)
    clear hu hv hb2 hT hb1 hA hVu
    go_wp2_with fail
    go_loopw [8, 9] (fun x y wr => ∃ k : Nat, y = .int .i64 k ∧ k ≤ n ∧ x = .int .i64 (countTo now l k : Nat) ∧ Below w2.heap.size w2 wr) (fun _ y _ => n - (intOf y).toNat)
    case atStart => exact ⟨0, rfl, Nat.zero_le _, by rw [countTo_zero]; rfl, Below.refl _ _⟩
    case round =>
      obtain ⟨k, rfl, hk, rfl, hb⟩ := hrel
      by_cases hlt : k < n
      · have hnl : n = l.length := HN.out
        obtain ⟨g, o, rfl, hgl, hcs⟩ := vals_d (HIn.out.below hb).1 (by omega)
        obtain ⟨c1, -⟩ := hcs k (by omega)
        have hS := countTo_succ now (l := l) (k := k) (by omega)
        have hle := countTo_le now l k
        have e1 : IntKind.i64.wrap ((k : Int) + 1) = ((k + 1 : Nat) : Int) := by simp only [IntKind.wrap_i64]; omega
        have k0 : (0 : Int) ≤ (k : Int) := by omega
        have k1 : (k : Int) < (n : Int) := by omega
        have hc200 : countTo now l k ≤ 200 := by omega
        generalize (atD l k).a = a at c1 hS
        generalize hc : countTo now l k = c at *
        clear hc hle hnl hcs
        rcases Bool.eq_false_or_eq_true (decide (a ≤ now)) with ta | ta
        · have HS : Hid (countTo now l (k + 1) = c + 1) := Lib.hid (by rw [hS, if_pos (by simpa using ta)])
          have e2 : IntKind.i64.wrap ((c : Int) + 1) = ((c + 1 : Nat) : Int) := by simp only [IntKind.wrap_i64]; omega
          clear hS
          go_wp2
          go_roundw
          case rel => exact ⟨k + 1, rfl, hlt, by rw [HS.out]; rfl, hb⟩
          case measure => simp only [intOf]; omega
        · have HS : Hid (countTo now l (k + 1) = c) := Lib.hid (by rw [hS, if_neg (by simpa using ta), Nat.add_zero])
          clear hS
          go_wp2
          go_roundw
          case rel => exact ⟨k + 1, rfl, hlt, by rw [HS.out], hb⟩
          case measure => simp only [intOf]; omega
      · obtain rfl : k = n := by omega
        rw [HCnt.out]
        have hB3 := hB2.trans (hb.mono hB2.size)
        have HU3 := Lib.hid (HU.out.below hb)
        clear hlt hk HU HIn hb hB2
        go_wp2_with fail
        go_loopw [10] (fun y w4 => ∃ j : Nat, y = .int .i64 j ∧ j ≤ rl ∧ Below wr.heap.size wr w4) (fun y _ => rl - (intOf y).toNat)
        case atStart => exact ⟨0, rfl, Nat.zero_le _, Below.refl _ _⟩
        case round =>
          obtain ⟨j, rfl, hj, hb4⟩ := hrel
          by_cases hjl : j < rl
          · have hrr : rl = rest.length := HRl.out
            obtain ⟨g, o, rfl, hgl, hcs⟩ := vals_d (HU3.out.below hb4) (by omega)
            obtain ⟨c1, c2⟩ := hcs j (by omega)
            have e1 : IntKind.i64.wrap ((j : Int) + 1) = ((j + 1 : Nat) : Int) := by simp only [IntKind.wrap_i64]; omega
            have k0 : (0 : Int) ≤ (j : Int) := by omega
            have k1 : (j : Int) < (rl : Int) := by omega
            have ha := HAl.out (atD rest j) (atD_mem (by omega))
            have hso : ∀ p, p + 1 = j → ltD (atD rest j) (atD rest p) = false := fun p hp => sorted_at HSo.out hp (by omega)
            have hcp : ∀ p, p + 1 = j → wr.cell? ⟨g, o + p * 2, none⟩ = some (.int .i64 (atD rest p).a) ∧ wr.cell? ⟨g, o + p * 2 + 1, none⟩ = some (.int .i64 (atD rest p).i) := fun p hp => hcs p (by omega)
            have HC := Lib.hid hcp
            have HS := Lib.hid hso
            generalize atD rest j = d at *
            obtain ⟨da, di⟩ := d
            dsimp only at c1 c2 ha
            have ta : decide (da ≤ now) = false := by simp; omega
            clear hrr hcs hcp hso ha
            rcases Nat.eq_zero_or_pos j with h0 | h0
            · have t3 : decide (0 < j) = false := by simp; omega
              have t4 : ¬ ((0 : Int) < (j : Int)) := by omega
              clear HC HS h0
              go_wp2
              go_quiet (fail)
              go_wp2
              go_roundw
              case rel => exact ⟨j + 1, rfl, hjl, below_drewN hb4 _⟩
              case measure => simp only [intOf]; omega
            · obtain ⟨p, hp⟩ : ∃ p, p + 1 = j := ⟨j - 1, by omega⟩
              obtain ⟨z0, z1⟩ := HC.out p hp
              have hs := HS.out p hp
              have e2 : IntKind.i64.wrap ((j : Int) - 1) = (p : Int) := by simp only [IntKind.wrap_i64]; omega
              have t3 : decide (0 < j) = true := by simp; omega
              have t4 : (0 : Int) < (j : Int) := by omega
              have p1 : (p : Int) < (rl : Int) := by omega
              have p2 : (0 : Int) ≤ (p : Int) := by omega
              generalize atD rest p = q at z0 z1 hs
              obtain ⟨qa, qi⟩ := q
              rw [ltD_not] at hs
              dsimp only at z0 z1 hs
              have q1 : decide (da < qa) = false := by simp; omega
              have q2 : ¬ (da < qa) := by omega
              clear HC HS h0 hp
              rcases Bool.eq_false_or_eq_true (qa == da) with t5 | t5
              · have q3 : decide (di < qi) = false := by
                  have : qa = da := by simpa using t5
                  simp
                  omega
                clear hs
                go_wp2
                go_quiet (fail)
                go_wp2
                go_roundw
                case rel => exact ⟨j + 1, rfl, hjl, below_drewN hb4 _⟩
                case measure => simp only [intOf]; omega
              · clear hs
                go_wp2
                go_quiet (fail)
                go_wp2
                go_roundw
                case rel => exact ⟨j + 1, rfl, hjl, below_drewN hb4 _⟩
                case measure => simp only [intOf]; omega
          · obtain rfl : j = rl := by omega
            have hB4 := hB3.trans (hb4.mono hB3.size)
            clear hB3 hb4 hjl hj
            go_wp2
            go_ret
            exact ⟨rfl, hB4⟩
end Go.Proofs.Ytlbmkokdoigcnaa
