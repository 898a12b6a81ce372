/-
  BeatLater answers true, whatever the row of what is due and the two numbers; nothing that was there is changed. No condition.
-/
import Derived.Test.YtlbmkokdoigcnaaWBShown
import Derived.Test.YtlbmkokdoigcnaaPBeatL
import Derived.Test.YtlbmkokdoigcnaaRBSame
namespace Go.Proofs.Ytlbmkokdoigcnaa
open Go.RowKit Go.Shelf

theorem srt_id : ∀ {l : List DP}, Sorted l → srt l = l
  | [], _ => rfl
  | x :: t, h => by
    have h1 := List.pairwise_cons.1 h
    rw [srt_head (fun y hy => h1.1 y hy), srt_id h1.2]
theorem off_append {p : DP → Bool} : ∀ {a b : List DP}, (∀ x ∈ a, p x = false) → offF p (a ++ b) = a ++ offF p b ∧ restF p (a ++ b) = restF p b
  | [], _, _ => ⟨rfl, rfl⟩
  | x :: t, b, h => by
    have hx := h x (by simp)
    obtain ⟨h1, h2⟩ := off_append (p := p) (a := t) (b := b) (fun y hy => h y (by simp [hy]))
    unfold offF restF at *
    constructor
    · rw [List.cons_append, List.takeWhile_cons, hx]
      simpa using h1
    · rw [List.cons_append, List.dropWhile_cons, hx]
      simpa using h2
/-- what is taken at two times -/
theorem later_two (l : List DP) (a b : Int) (h : a ≤ b) :
    offF (laterF b) (srt l) = offF (laterF a) (srt l) ++ offF (laterF b) (srt (restF (laterF a) (srt l))) ∧ restF (laterF b) (srt l) = restF (laterF b) (srt (restF (laterF a) (srt l))) := by
  rw [srt_id (rest_sorted a l)]
  have hp : ∀ x ∈ offF (laterF a) (srt l), laterF b x = false := fun x hx => by
    have := off_all _ x hx
    simp only [laterF, decide_eq_false_iff_not] at this ⊢
    omega
  obtain ⟨h1, h2⟩ := off_append (b := restF (laterF a) (srt l)) hp
  rw [off_rest] at h1 h2
  exact ⟨h1, h2⟩
theorem ids_append (a b : List DP) : idsOf (a ++ b) = idsOf a ++ idsOf b := by simp [idsOf]
theorem ids_len (a : List DP) : (idsOf a).length = a.length := by simp [idsOf]

set_option maxRecDepth 100000 in
set_option maxHeartbeats 4000000 in
theorem beatLater_walk (A : Option Addr) (cap : Nat) (l : List DP) (a b : Int) (w : World) (hA : InD w A cap l) :
    Calls Try.prog 8 #[.slice A l.length cap, .int .i64 a, .int .i64 b] w fun e w' => e = .returned (.bool true) ∧ Below w.heap.size w w' := by
  obtain ⟨n, hn⟩ : ∃ n, n = l.length := ⟨_, rfl⟩
  rw [← hn]
  have tests : (decide (b < a) = true) ∨ (decide (b < a) = false ∧ decide (200 < n) = true) ∨ (decide (b < a) = false ∧ decide (200 < n) = false ∧ n ≤ 200 ∧ a ≤ b) := by
    simp; omega
  rcases tests with t1 | ⟨t1, t2⟩ | ⟨t1, t2, hn2, hab⟩
  · clear hA hn
    go_enter Try.func8, Try.ntmps8
    go_wp2_with fail
    refine (bshown_any w).mono ?_
    rintro e w1 ⟨rfl, hb1⟩
    go_wp2
    go_ret
    exact ⟨rfl, hb1⟩
  · have t3 : 200 < n := by simpa using t2
    clear hA hn
    go_enter Try.func8, Try.ntmps8
    go_wp2_with fail
    refine (bshown_any w).mono ?_
    rintro e w1 ⟨rfl, hb1⟩
    go_wp2
    go_ret
    exact ⟨rfl, hb1⟩
  · have t3 : ¬ (200 < n) := by omega
    obtain ⟨hl1, hl2⟩ := later_two l a b hab
    have hlen := rest_len a l
    have hT1 := fun w1 (h : Below w.heap.size w w1) => take_any A cap l a w1 (hA.below h) (by omega)
    have hT3 := fun w1 (h : Below w.heap.size w w1) => take_any A cap l b w1 (hA.below h) (by omega)
    rw [hl1, hl2] at hT3
    generalize offF (laterF a) (srt l) = p at *
    generalize restF (laterF a) (srt l) = x at *
    have hT2 := fun A' c' w1 (h : InD w1 A' c' x) => take_any A' c' x b w1 h (by omega)
    have hlen2 := rest_len b x
    generalize offF (laterF b) (srt x) = q at *
    generalize restF (laterF b) (srt x) = y at *
    obtain ⟨lp, hlp⟩ : ∃ lp, lp = p.length := ⟨_, rfl⟩
    obtain ⟨lq, hlq⟩ : ∃ lq, lq = q.length := ⟨_, rfl⟩
    obtain ⟨lx, hlx⟩ : ∃ lx, lx = x.length := ⟨_, rfl⟩
    obtain ⟨ly, hly⟩ : ∃ ly, ly = y.length := ⟨_, rfl⟩
    obtain ⟨lr, hlr⟩ : ∃ lr, lr = (p ++ q).length := ⟨_, rfl⟩
    have hlr2 : lr = lp + lq := by rw [hlr, List.length_append, ← hlp, ← hlq]
    rw [← hn, ← hlr, ← hly] at hT3
    rw [← hn, ← hlp, ← hlx] at hT1
    rw [← hlq, ← hly, ← hlx] at hT2
    rw [ids_append] at hT3
    have hs : lp ≤ 200 ∧ lq ≤ 200 ∧ lx ≤ 200 ∧ ly ≤ 200 ∧ lr ≤ 200 := by omega
    obtain ⟨s1, s2, s3, s4, s5⟩ := hs
    have e0 : IntKind.i64.wrap ((lp : Int) + (lq : Int)) = (lr : Int) := by simp only [IntKind.wrap_i64]; omega
    have hip : (idsOf p).length = lp := by rw [ids_len, hlp]
    have hiq : (idsOf q).length = lq := by rw [ids_len, hlq]
    have HL := Lib.hid hlr2
    have HIp := Lib.hid hip
    have HIq := Lib.hid hiq
    have HLx := Lib.hid hlx
    have HLy := Lib.hid hly
    generalize idsOf p = ip at *
    generalize idsOf q = iq at *
    clear hl1 hl2 hlen hlen2 hlp hlq hlx hly hlr hlr2 hip hiq hn hn2 hab hA
    go_enter Try.func8, Try.ntmps8
    go_wp2_with fail
    refine (bshown_any w).mono ?_
    rintro e w1 ⟨rfl, hb1⟩
    go_wp2_with fail
    refine (hT1 w1 hb1).mono ?_
    rintro e w2 ⟨u2, v2, rfl, hu2, hv2, hb2⟩
    have hB2 := hb1.trans (hb2.mono hb1.size)
    rw [HLx.out] at hu2
    obtain ⟨A2, c2, rfl, hin2⟩ := InD.of_own hu2
    obtain ⟨P2, k2, rfl, hp2, -⟩ := ini_of hv2
    rw [← HLx.out]
    have hT2 := hT2 A2 c2 w2 hin2
    clear hT1 hu2 hv2 hb1 hb2 hin2
    go_wp2_with fail
    refine hT2.mono ?_
    rintro e w3 ⟨u3, v3, rfl, hu3, hv3, hb3⟩
    have hB3 := hB2.trans (hb3.mono hB2.size)
    rw [HLy.out] at hu3
    obtain ⟨A3, c3, rfl, hin3⟩ := InD.of_own hu3
    obtain ⟨P3, k3, rfl, hp3, -⟩ := ini_of hv3
    rw [← HLy.out]
    have hp2 := ValsAt.below hp2 hb3
    have hT3 := hT3 w3 hB3
    clear hT2 hu3 hv3 hb3 hB2
    go_wp2_with fail
    refine hT3.mono ?_
    rintro e w4 ⟨u4, v4, rfl, hu4, hv4, hb4⟩
    have hB4 := hB3.trans (hb4.mono hB3.size)
    rw [HLy.out] at hu4
    obtain ⟨A4, c4, rfl, hin4⟩ := InD.of_own hu4
    obtain ⟨P4, k4, rfl, hp4, -⟩ := ini_of hv4
    have hS := rsame_any A3 A4 c3 c4 y w4 (hin3.below hb4) hin4 (by have := HLy.out; omega)
    rw [← HLy.out] at hS ⊢
    have hp2 := ValsAt.below hp2 hb4
    have hp3 := ValsAt.below hp3 hb4
    clear hT3 hu4 hv4 hb4 hB3 hin3 hin4
    go_wp2_with fail
    refine hS.mono ?_
    rintro e w5 ⟨rfl, hb5⟩
    have hB5 := hB4.trans (hb5.mono hB4.size)
    have HP2 := Lib.hid (ValsAt.below hp2 hb5)
    have HP3 := Lib.hid (ValsAt.below hp3 hb5)
    have HP4 := Lib.hid (ValsAt.below hp4 hb5)
    clear hp2 hp3 hp4 hS hb5 hB4
    go_wp2_with fail
    go_loopw [14] (fun z wr => ∃ k : Nat, z = .int .i64 k ∧ k ≤ lr ∧ Below w5.heap.size w5 wr) (fun z _ => lr - (intOf z).toNat)
    case atStart => exact ⟨0, rfl, Nat.zero_le _, Below.refl _ _⟩
    case round =>
      obtain ⟨k, rfl, hk, hb⟩ := hrel
      by_cases hlt : k < lr
      · have hr := HL.out
        have hi1 := HIp.out
        have hi2 := HIq.out
        have e1 : IntKind.i64.wrap ((k : Int) + 1) = ((k + 1 : Nat) : Int) := by simp only [IntKind.wrap_i64]; omega
        have k0 : (0 : Int) ≤ (k : Int) := by omega
        have k1 : (k : Int) < (lr : Int) := by omega
        obtain ⟨g4, o4, rfl, -, hc4⟩ := ini_at (ValsAt.below HP4.out hb) (by rw [List.length_append]; omega)
        have x4 := hc4 k (by rw [List.length_append]; omega)
        rcases Nat.lt_or_ge k lp with hkp | hkp
        · obtain ⟨g2, o2, rfl, -, hc2⟩ := ini_at (ValsAt.below HP2.out hb) (by omega)
          have x2 := hc2 k (by omega)
          have hd : (ip ++ iq).getD k 0 = ip.getD k 0 := by simp only [List.getD_eq_getElem?_getD]; rw [List.getElem?_append_left (by omega)]
          rw [hd] at x4
          generalize ip.getD k 0 = v at x2 x4
          have q1 : decide (k < lp) = true := by simpa using hkp
          have q2 : (k : Int) < (lp : Int) := by omega
          have q3 : decide (lp ≤ k) = false := by simp; omega
          clear hr hi1 hi2 hc4 hc2 hd
          go_wp2
          go_quiet (fail)
          go_wp2
          go_roundw
          case rel => exact ⟨k + 1, rfl, hlt, below_drewN hb _⟩
          case measure => simp only [intOf]; omega
        · obtain ⟨j, hj⟩ : ∃ j, j = k - lp := ⟨_, rfl⟩
          obtain ⟨g3, o3, rfl, -, hc3⟩ := ini_at (ValsAt.below HP3.out hb) (by omega)
          have x3 := hc3 j (by omega)
          have hd : (ip ++ iq).getD k 0 = iq.getD j 0 := by
            simp only [List.getD_eq_getElem?_getD]
            rw [List.getElem?_append_right (by omega), hi1, hj]
          rw [hd] at x4
          generalize iq.getD j 0 = v at x3 x4
          have e2 : IntKind.i64.wrap ((k : Int) - (lp : Int)) = (j : Int) := by simp only [IntKind.wrap_i64]; omega
          have q1 : decide (k < lp) = false := by simp; omega
          have q3 : decide (lp ≤ k) = true := by simp; omega
          have q4 : (j : Int) < (lq : Int) := by omega
          have q5 : (0 : Int) ≤ (j : Int) := by omega
          clear hr hi1 hi2 hc4 hc3 hd hj
          go_wp2
          go_quiet (fail)
          go_wp2
          go_roundw
          case rel => exact ⟨k + 1, rfl, hlt, below_drewN hb _⟩
          case measure => simp only [intOf]; omega
      · obtain rfl : k = lr := by omega
        have hB6 := hB5.trans (hb.mono hB5.size)
        clear HP2 HP3 HP4 hb hB5
        go_wp2
        go_ret
        exact ⟨rfl, hB6⟩
end Go.Proofs.Ytlbmkokdoigcnaa
