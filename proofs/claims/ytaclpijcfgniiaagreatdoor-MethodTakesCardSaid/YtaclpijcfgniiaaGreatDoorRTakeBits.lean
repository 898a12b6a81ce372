/-
  The document's own answer for layer 1, TakeBits of interchangeref01, is what num.TakeBits answers; nothing that was there is changed. No condition.
-/
import Derived.Test.YtaclpijcfgniiaaGreatDoorWTakeBits
import Derived.Test.YtaclpijcfgniiaaGreatDoorJMem
namespace Go.Proofs.YtaclpijcfgniiaaGreatDoor
open Go.RowKit

/-- the row that is built holds the first N bits -/
def OutRel (s : ByteArray) (w wr : World) (v : Value) (N : Nat) : Prop :=
  wr.ownsRow w.heap.size 4 1 v N ((bitsOf s N).map Value.bool) ∧ Below w.heap.size w wr

/-- what TakeBits answers, the bits in a row of its own -/
def TBo (s : ByteArray) (n : Int) (w : World) (e : Ending) (w' : World) : Prop :=
  ∃ v, e = .returned (.tuple #[v, .string (tbR s n), .int .i64 (tbE s n)]) ∧ w'.ownsRow w.heap.size 4 1 v (tbL s n).length ((tbL s n).map Value.bool) ∧ Below w.heap.size w w'

theorem rtb_arg (s : ByteArray) (n : Int) (w : World) (h : n < 0 ∨ 64 < n) : Calls Tryz.prog 26 #[.string s, .int .i64 n] w (TBo s n w) := by
  have hE : tbE s n = 1 := by unfold tbE; rcases h with h | h <;> simp [h]
  have HL := Lib.hid (show tbL s n = [] by simp [tbL, hE])
  have HR := Lib.hid (show tbR s n = ⟨#[]⟩ by simp [tbR, hE])
  have HE := Lib.hid hE
  clear hE
  rcases h with h | h
  all_goals
    go_enter Tryz.func26, Tryz.ntmps26
    go_wp2
    go_ret3
    refine ⟨.slice none 0 0, ?_, ?_, Below.refl _ _⟩
    · rw [HR.out, HE.out]; rfl
    · rw [HL.out]; exact World.ownsRow_nil _ _ _ _

set_option maxRecDepth 100000 in
set_option maxHeartbeats 1000000 in
theorem rtb_in (s : ByteArray) (n : Nat) (w : World) (hn : n ≤ 64) : Calls Tryz.prog 26 #[.string s, .int .i64 n] w (TBo s n w) := by
  obtain ⟨i0, hi, hz0, hz1, hz2⟩ := info_parts (show (Tryz.prog.info? 4).map (fun i => (i.zero, i.size, i.bytes)) = some (some (.bool false), 1, 1) by kernel_rfl)
  have d1 : decide ((n : Int) < 0) = false := by simp
  have d2 : decide (64 < (n : Int)) = false := by simp; omega
  go_enter Tryz.func26, Tryz.ntmps26
  go_wp2
  go_loop [7] (fun v => ∃ m : Nat, 8 * m < n + 8 ∧ v = .int .i64 m) (fun v => 8 - (intOf v).toNat)
  case atStart => exact ⟨0, by omega, rfl⟩
  case round =>
    obtain ⟨m, hm, rfl⟩ := hrel
    by_cases hlt : 8 * m < n
    · have d3 : decide (8 * (m : Int) < n) = true := by simp; omega
      go_wp2
      go_round
      case rel => exact ⟨m + 1, by omega, by go_num⟩
      case measure => simp [intOf]; omega
    · have d3 : decide (8 * (m : Int) < n) = false := by simp; omega
      have Hm := Lib.hid (show m = (n + 7) / 8 by omega)
      by_cases hs : s.size < m
      · have d4 : decide (s.size < m) = true := by simpa using hs
        have hE : tbE s n = 2 := by
          unfold tbE
          rw [if_neg (by omega), if_neg (by omega), if_pos (by have := Hm.out; omega)]
        have HL := Lib.hid (show tbL s n = [] by simp [tbL, hE])
        have HR := Lib.hid (show tbR s n = ⟨#[]⟩ by simp [tbR, hE])
        have HE := Lib.hid hE
        clear hE
        go_wp2
        go_ret3
        refine ⟨.slice none 0 0, ?_, ?_, Below.refl _ _⟩
        · rw [HR.out, HE.out]; rfl
        · rw [HL.out]; exact World.ownsRow_nil _ _ _ _
      · have d4 : decide (s.size < m) = false := by simpa using hs
        go_wp2
        go_loopw [8, 9] (fun o v wr => ∃ i N : Nat, i ≤ m ∧ Hid (N = min (8 * i) n) ∧ v = .int .i64 i ∧ OutRel s w wr o N ∧ Hid (n / 8 < i → tidy s n = true)) (fun _ v _ => m - (intOf v).toNat)
        case atStart => exact ⟨0, 0, by omega, Lib.hid (by simp), rfl, ⟨World.ownsRow_nil _ _ _ _, Below.refl _ _⟩, Lib.hid (by omega)⟩
        case round =>
          obtain ⟨i, N, hi', HN, rfl, ⟨hown, hb⟩, HT⟩ := hrel
          by_cases hlt2 : i < m
          · have his : i < s.size := by omega
            go_wp2
            go_loopw [8, 10, 11] (fun o v k wr => ∃ t N : Nat, t ≤ 8 ∧ Hid (N = min (8 * i + t) n) ∧ v = .int .i64 ((byteAt s i / 2 ^ t : Nat) : Int) ∧ k = .int .i64 t ∧ OutRel s w wr o N ∧ Hid (∀ t', t' < t → n ≤ 8 * i + t' → byteAt s i / 2 ^ t' % 2 = 0)) (fun _ _ k _ => 8 - (intOf k).toNat)
            case atStart =>
              refine ⟨0, N, by omega, HN, ?_, rfl, ⟨hown, hb⟩, Lib.hid (by omega)⟩
              have := byteAt_lt s i
              rw [byteAt_get s i his] at this ⊢
              rw [IntWalk.wrap64_in _ (by omega)]
              simp
            case round =>
              clear hown hb HN
              obtain ⟨t, N, ht, HN, rfl, rfl, ⟨hown, hb⟩, HC⟩ := hrel
              have hx : byteAt s i / 2 ^ t ≤ 255 := Nat.le_trans (Nat.div_le_self _ _) (by have := byteAt_lt s i; omega)
              have HH := Lib.hid (half_pow (byteAt s i) t)
              by_cases ht8 : t < 8
              · have HBit := Lib.hid (bitAt_in s i t ht8)
                have d5 : decide (t < 8) = true := by simpa using ht8
                have hNle : N ≤ 64 := by have := HN.out; omega
                by_cases hin : 8 * i + t < n
                · have d6 : decide (8 * (i : Int) + t < n) = true := by simp; omega
                  generalize byteAt s i / 2 ^ t = x at hx HH HBit ⊢
                  have HX := Lib.hid (show (x : Int) % 2 = ((x % 2 : Nat) : Int) by omega)
                  go_wp2_with (first
                    | (at_builtin; refine wpList_append_own _ rfl _ _ 46 rfl w.heap.size 4 i0 (.bool false) 1 1 Tryz.underlying46 hi hz0 hz1 hz2 rfl (by decide) _ _ _ rfl (hown.alloc _) ⟨wr.heap.size, 0, none⟩ 1 1 [.bool ((x : Int) % 2 == 1)] rfl rfl ?c1 ?c2 ?c3 ?c4 ?c5 ?_))
                  case c1 =>
                    intro j u hj
                    match j, hj with
                    | 0, hj => simp at hj; subst hj; simp [Addr.add]
                  case c2 => intro u hu; simp at hu; subst hu; rfl
                  case c3 => unfold maxLen; omega
                  case c4 => omega
                  case c5 => have := hb.size; simp; omega
                  intro o' w1 hown' hgrow _
                  have hb1 : Below w.heap.size w w1 := (hb.alloc hb.size _).grown hgrow (by have := hb.size; simp; omega) (fun k hk => by
                    rcases hown.2 with ⟨rfl, _⟩ | ⟨g, cap, cur, rfl, hg, _⟩
                    · simp [Value.ownBlock] at hk
                    · simp [Value.ownBlock] at hk; omega)
                  have hbit : ((x : Int) % 2 == 1) = bitAt s N := by
                    have e : N = 8 * i + t := by have := HN.out; omega
                    rw [e, HBit.out, HX.out, Bool.eq_iff_iff]
                    simp only [beq_iff_eq]
                    omega
                  rw [hbit] at hown'
                  have Hown : Hid (OutRel s w w1 o' (N + 1)) := Lib.hid ⟨by rw [bitsOf_succ, List.map_append]; exact hown', hb1⟩
                  clear hown' hgrow hown hb hb1 hbit
                  go_wp2
                  go_roundw
                  case rel =>
                    refine ⟨t + 1, N + 1, by omega, Lib.hid (by have := HN.out; omega), by rw [← HH.out]; go_num, by go_num, Hown.out, Lib.hid (fun t' h1 h2 => ?_)⟩
                    by_cases e : t' = t
                    · subst e; omega
                    · exact HC.out t' (by omega) h2
                  case measure => simp [intOf]; omega
                · have d6 : decide (8 * (i : Int) + t < n) = false := by simp; omega
                  by_cases hbit : byteAt s i / 2 ^ t % 2 = 1
                  · have hE : tbE s n = 3 := by
                      have h3 := tidy_no s n i t ht8 (by have := Hm.out; omega) (by omega) hbit
                      unfold tbE
                      rw [if_neg (by omega), if_neg (by omega), if_neg (by have := Hm.out; omega), Int.toNat_natCast, h3]
                      rfl
                    have HL := Lib.hid (show tbL s n = [] by simp [tbL, hE])
                    have HR := Lib.hid (show tbR s n = ⟨#[]⟩ by simp [tbR, hE])
                    have HE := Lib.hid hE
                    have d7 : (((byteAt s i / 2 ^ t : Nat) : Int) % 2 == 1) = true := by rw [beq_iff_eq]; omega
                    clear hE hown hbit
                    generalize byteAt s i / 2 ^ t = x at hx HH HBit d7 ⊢
                    go_wp2
                    go_ret3
                    refine ⟨.slice none 0 0, ?_, ?_, hb⟩
                    · rw [HR.out, HE.out]; rfl
                    · rw [HL.out]; exact World.ownsRow_nil _ _ _ _
                  · have Hb := Lib.hid (show byteAt s i / 2 ^ t % 2 = 0 by omega)
                    have d7 : (((byteAt s i / 2 ^ t : Nat) : Int) % 2 == 1) = false := by rw [beq_eq_false_iff_ne]; omega
                    clear hbit
                    generalize byteAt s i / 2 ^ t = x at hx HH HBit d7 ⊢
                    go_wp2
                    go_roundw
                    case rel =>
                      refine ⟨t + 1, N, by omega, Lib.hid (by have := HN.out; omega), by rw [← HH.out]; go_num, by go_num, ⟨hown, hb⟩, Lib.hid (fun t' h1 h2 => ?_)⟩
                      by_cases e : t' = t
                      · subst e; exact Hb.out
                      · exact HC.out t' (by omega) h2
                    case measure => simp [intOf]; omega
              · obtain rfl : t = 8 := by omega
                go_wp2
                go_roundw
                case rel =>
                  refine ⟨i + 1, N, by omega, Lib.hid (by have := HN.out; omega), by go_num, ⟨hown, hb⟩, Lib.hid (fun h => ?_)⟩
                  by_cases e : n / 8 < i
                  · exact HT.out e
                  · have e : i = n / 8 := by omega
                    subst e
                    exact tidy_yes s n (fun t' h1 h2 => HC.out t' h1 h2)
                case measure => simp [intOf]; omega
          · obtain rfl : i = m := by omega
            have hE : tbE s n = 0 := by
              have h3 : tidy s n = true := by
                by_cases h8 : n % 8 = 0
                · simp [tidy, h8]
                · exact HT.out (by have := Hm.out; omega)
              unfold tbE
              rw [if_neg (by omega), if_neg (by omega), if_neg (by have := Hm.out; omega), Int.toNat_natCast, h3]
              rfl
            have HL := Lib.hid (show tbL s n = bitsOf s n by simp [tbL, hE])
            have HR := Lib.hid (show tbR s n = s.extract ((n + 7) / 8) s.size by simp [tbR, hE])
            have HE := Lib.hid hE
            have HNn := Lib.hid (show N = n by have := HN.out; have := Hm.out; omega)
            clear hE
            have Hown := Lib.hid hown
            clear hown
            go_wp2
            go_quiet (fail)
            go_wp2
            go_ret3
            have hown := Hown.out
            rw [HNn.out] at hown
            refine ⟨_, by rw [HR.out, HE.out, ← Hm.out]; rfl, ?_, below_drewN hb _⟩
            rw [HL.out, bitsOf_length]
            exact rowKept hown (below_drewN (Below.refl _ _) _)

theorem rtakeBits_own (s : ByteArray) (n : Int) (w : World) : Calls Tryz.prog 26 #[.string s, .int .i64 n] w (TBo s n w) := by
  by_cases h : n < 0 ∨ 64 < n
  · exact rtb_arg s n w h
  · obtain ⟨k, rfl⟩ := Int.eq_ofNat_of_zero_le (show 0 ≤ n by omega)
    exact rtb_in s k w (by omega)
theorem rtakeBits_any (s : ByteArray) (n : Int) (w : World) : Calls Tryz.prog 26 #[.string s, .int .i64 n] w (TB s n w) := by
  refine (rtakeBits_own s n w).mono ?_
  rintro e w' ⟨v, rfl, hrow, hb⟩
  obtain ⟨A, c, rfl, hV⟩ := vals_of_row hrow
  refine ⟨A, c, rfl, fun h0 => ?_, hb⟩
  obtain ⟨b, off, hA, hlt, hc⟩ := hV (by simpa using h0)
  exact ⟨b, off, hA, hlt, fun i hi => by rw [hc i (by simpa using hi)]; simp⟩
end Go.Proofs.YtaclpijcfgniiaaGreatDoor
