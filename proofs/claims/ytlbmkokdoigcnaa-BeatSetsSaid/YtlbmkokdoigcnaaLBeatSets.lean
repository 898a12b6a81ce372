/-
  BeatSets answers true, whatever the row of what is due, the one that is set and the number; nothing that was there is changed. No condition.
-/
import Derived.Test.YtlbmkokdoigcnaaWBShown
import Derived.Test.YtlbmkokdoigcnaaPBeatL
namespace Go.Proofs.Ytlbmkokdoigcnaa
open Go.RowKit Go.Shelf

/-- how many have a number -/
def cntI (c : Int) (l : List DP) : Nat := l.countP fun x => x.i == c
def cntTo (c : Int) (l : List DP) (k : Nat) : Nat := cntI c (l.take k)
theorem cntTo_zero (c : Int) (l : List DP) : cntTo c l 0 = 0 := by simp [cntTo, cntI]
theorem cntTo_succ (c : Int) {l : List DP} {k : Nat} (h : k < l.length) : cntTo c l (k + 1) = cntTo c l k + (if ((atD l k).i == c) = true then 1 else 0) := by
  rw [cntTo, take_snoc h, cntI, List.countP_append, cntTo, cntI]
  congr 1
  by_cases hx : ((atD l k).i == c) = true
  · rw [if_pos hx]; simp [hx]
  · rw [if_neg hx]; simp [hx]
theorem cntTo_le (c : Int) (l : List DP) (k : Nat) : cntTo c l k ≤ l.length := by
  rw [cntTo, cntI]
  refine Nat.le_trans List.countP_le_length ?_
  rw [List.length_take]
  omega
theorem cntTo_all (c : Int) (l : List DP) : cntTo c l l.length = cntI c l := by rw [cntTo, List.take_length]
theorem set_perm (l : List DP) (d : DP) : (setF l d).Perm (dropF d.i l ++ [d]) := srt_self _
theorem drop_mem {c : Int} {l : List DP} {x : DP} (h : x ∈ dropF c l) : x ∈ l ∧ (x.i == c) = false := by
  simp only [dropF, kept, List.mem_filter] at h
  exact ⟨h.1, by simpa using h.2⟩
theorem set_own {l : List DP} {d x : DP} (h : x ∈ setF l d) (hi : (x.i == d.i) = true) : x = d := by
  rcases List.mem_append.1 ((set_perm l d).mem_iff.1 h) with h1 | h1
  · rw [(drop_mem h1).2] at hi; cases hi
  · simpa using h1
theorem cntI_drop (c o : Int) (l : List DP) : cntI o (dropF c l) = if o = c then 0 else cntI o l := by
  unfold cntI dropF kept
  rw [List.countP_filter]
  split
  · rename_i h
    subst h
    rw [List.countP_eq_zero]
    intro x _
    by_cases hx : x.i = o <;> simp [hx]
  · rename_i h
    refine List.countP_congr fun x _ => ?_
    by_cases hx : x.i = o
    · subst hx
      simp [h]
    · simp [hx]
theorem set_one (l : List DP) (d : DP) : cntI d.i (setF l d) = 1 := by
  rw [cntI, (set_perm l d).countP_eq, List.countP_append]
  have h := cntI_drop d.i d.i l
  rw [if_pos rfl] at h
  unfold cntI at h
  rw [h]
  simp
theorem set_other (l : List DP) (d : DP) (o : Int) (h : o ≠ d.i) : cntI o (setF l d) = cntI o l := by
  have h1 := cntI_drop d.i o l
  rw [if_neg h] at h1
  rw [cntI, (set_perm l d).countP_eq, List.countP_append]
  unfold cntI at h1
  rw [h1, cntI]
  have : (d.i == o) = false := by simpa using fun e => h e.symm
  simp [this]
theorem drop_len (c : Int) (l : List DP) : (dropF c l).length + cntI c l = l.length := by
  unfold dropF kept cntI
  rw [← List.countP_eq_length_filter]
  have h := List.length_eq_countP_add_countP (p := fun x : DP => x.i == c) (l := l)
  have e : (l.countP fun d => !(d.i == c)) = l.countP fun a => decide ¬((a.i == c) = true) := List.countP_congr fun x _ => by simp
  rw [e]
  omega
theorem set_len (l : List DP) (d : DP) : (setF l d).length ≤ l.length + 1 := by
  rw [(set_perm l d).length_eq, List.length_append]
  have := drop_len d.i l
  simp
  omega

set_option maxRecDepth 100000 in
set_option maxHeartbeats 4000000 in
theorem beatSets_walk (A : Option Addr) (cap : Nat) (l : List DP) (d : DP) (other : Int) (w : World) (hA : InD w A cap l) :
    Calls Try.prog 5 #[.slice A l.length cap, encD d, .int .i64 other] w fun e w' => e = .returned (.bool true) ∧ Below w.heap.size w w' := by
  obtain ⟨n, hn⟩ : ∃ n, n = l.length := ⟨_, rfl⟩
  rw [← hn]
  rcases Nat.lt_or_ge 200 n with hbig | hsmall
  · have t1 : decide (200 < n) = true := by simpa using hbig
    obtain ⟨da, di⟩ := d
    unfold encD
    dsimp only
    clear hA hn
    obtain ⟨W0, hW0⟩ : ∃ W0, W0 = w.alloc (.cells #[.int .i64 da, .int .i64 di] 24) := ⟨_, rfl⟩
    have hb0 : Below w.heap.size w W0 := by rw [hW0]; exact (Below.refl _ w).alloc (Nat.le_refl _) _
    go_enter Try.func5, Try.ntmps5
    go_wp2_with fail
    rw [← hW0]
    clear hW0
    go_wp2_with fail
    refine (bshown_any W0).mono ?_
    rintro e w1 ⟨rfl, hb1⟩
    have hB1 := hb0.trans (hb1.mono hb0.size)
    go_wp2
    go_ret
    exact ⟨rfl, hB1⟩
  · have t1 : decide (200 < n) = false := by simp; omega
    have t2 : ¬ (200 < n) := by omega
    have hS := fun w1 (h : Below w.heap.size w w1) => set_any A cap l d w1 (hA.below h) (by omega)
    have h1 := set_one l d
    have h2 := set_other l d other
    have h3 := fun x => set_own (l := l) (d := d) (x := x)
    have h4 := set_len l d
    generalize setF l d = s at *
    have hD := fun A' c' w1 (h : InD w1 A' c' s) => drop_any A' c' s d.i w1 h (by omega)
    have h5 := drop_len d.i s
    rw [h1] at h5
    rw [← srt_length (dropF d.i s)] at h5
    generalize srt (dropF d.i s) = kk at *
    obtain ⟨ls, hls⟩ : ∃ ls, ls = s.length := ⟨_, rfl⟩
    obtain ⟨lk, hlk⟩ : ∃ lk, lk = kk.length := ⟨_, rfl⟩
    rw [← hn, ← hls] at hS
    rw [← hls, ← hlk] at hD
    have e0 : IntKind.i64.wrap ((ls : Int) - 1) = (lk : Int) := by simp only [IntKind.wrap_i64]; omega
    have hls200 : ls ≤ 201 := by omega
    have HN := Lib.hid hn
    have HLs := Lib.hid hls
    have HOwn := Lib.hid h3
    have HOne : Hid (cntTo d.i s ls = 1) := Lib.hid (by rw [hls, cntTo_all, h1])
    have HOth : Hid (other ≠ d.i → cntTo other s ls = cntTo other l n) := Lib.hid (fun h => by rw [hls, hn, cntTo_all, cntTo_all]; exact h2 h)
    obtain ⟨da, di⟩ := d
    unfold encD at *
    dsimp only at *
    have HAin := Lib.hid hA
    clear hA h1 h2 h3 h4 h5 hls hlk hn hsmall
    obtain ⟨W0, hW0⟩ : ∃ W0, W0 = w.alloc (.cells #[.int .i64 da, .int .i64 di] 24) := ⟨_, rfl⟩
    have hb0 : Below w.heap.size w W0 := by rw [hW0]; exact (Below.refl _ w).alloc (Nat.le_refl _) _
    have hx0 : Bx W0 w.heap.size 24 [.int .i64 da, .int .i64 di] := by rw [hW0]; exact Bx.new w _ _
    go_enter Try.func5, Try.ntmps5
    go_wp2_with fail
    rw [← hW0]
    clear hW0
    go_wp2_with fail
    refine (bshown_any W0).mono ?_
    rintro e w1 ⟨rfl, hb1⟩
    have hB1 := hb0.trans (hb1.mono hb0.size)
    have hx1 := hx0.kept hb1
    have y0 := hx1.cell 0 (by simp)
    have y1 := hx1.cell 1 (by simp)
    dsimp only [List.getElem_cons_zero, List.getElem_cons_succ] at y0 y1
    have hS := hS w1 hB1
    clear hb0 hb1 hx0
    go_wp2_with fail
    refine hS.mono ?_
    rintro e w2 ⟨u, rfl, hu, hb2⟩
    have hB2 := hB1.trans (hb2.mono hB1.size)
    have hx2 := hx1.kept hb2
    have z1 := hx2.cell 1 (by simp)
    dsimp only [List.getElem_cons_zero, List.getElem_cons_succ] at z1
    rw [HLs.out] at hu
    obtain ⟨As, cs, rfl, hins⟩ := InD.of_own hu
    rw [← HLs.out]
    have hD := hD As cs w2 hins
    clear hS hu hb2 hB1 hx1 y0 y1
    go_wp2_with fail
    refine hD.mono ?_
    rintro e w3 ⟨v, rfl, hv, hb3⟩
    have hB3 := hB2.trans (hb3.mono hB2.size)
    have hx3 := hx2.kept hb3
    have HS3 := Lib.hid (hins.below hb3)
    obtain ⟨Ak, ck, rfl, -, -⟩ := vals_of_own hv
    clear hD hv hb3 hB2 hx2 z1 hins
    go_wp2_with fail
    go_loopw [10, 11, 13] (fun x y z wr => ∃ k : Nat, z = .int .i64 k ∧ k ≤ ls ∧ x = .int .i64 (cntTo di s k : Nat) ∧ y = .int .i64 (cntTo other s k : Nat) ∧ Below w3.heap.size w3 wr) (fun _ _ z _ => ls - (intOf z).toNat)
    case atStart => exact ⟨0, rfl, Nat.zero_le _, by rw [cntTo_zero]; rfl, by rw [cntTo_zero]; rfl, Below.refl _ _⟩
    case round =>
      obtain ⟨k, rfl, hk, rfl, rfl, hb⟩ := hrel
      have hx4 := hx3.kept hb
      have y0 := hx4.cell 0 (by simp)
      have y1 := hx4.cell 1 (by simp)
      dsimp only [List.getElem_cons_zero, List.getElem_cons_succ] at y0 y1
      by_cases hlt : k < ls
      · have hls := HLs.out
        obtain ⟨g, o, rfl, hgl, hcs⟩ := vals_d (HS3.out.below hb).1 (by omega)
        obtain ⟨c1, c2⟩ := hcs k (by omega)
        have hS1 := cntTo_succ di (l := s) (k := k) (by omega)
        have hS2 := cntTo_succ other (l := s) (k := k) (by omega)
        have hl1 := cntTo_le di s k
        have hl2 := cntTo_le other s k
        have hown := HOwn.out (atD s k) (atD_mem (by omega))
        have e1 : IntKind.i64.wrap ((k : Int) + 1) = ((k + 1 : Nat) : Int) := by simp only [IntKind.wrap_i64]; omega
        have k0 : (0 : Int) ≤ (k : Int) := by omega
        have k1 : (k : Int) < (ls : Int) := by omega
        generalize atD s k = x at *
        obtain ⟨xa, xi⟩ := x
        dsimp only at c1 c2 hS1 hS2 hown
        generalize hq1 : cntTo di s k = q1 at *
        generalize hq2 : cntTo other s k = q2 at *
        have e2 : IntKind.i64.wrap ((q1 : Int) + 1) = ((q1 + 1 : Nat) : Int) := by simp only [IntKind.wrap_i64]; omega
        have e3 : IntKind.i64.wrap ((q2 : Int) + 1) = ((q2 + 1 : Nat) : Int) := by simp only [IntKind.wrap_i64]; omega
        clear hq1 hq2 hl1 hl2 hls hcs
        rcases Bool.eq_false_or_eq_true (xi == di) with s1 | s1
        · obtain ⟨rfl, rfl⟩ : xa = da ∧ xi = di := by
            have := hown s1
            cases this
            exact ⟨rfl, rfl⟩
          have HS1 : Hid (cntTo xi s (k + 1) = q1 + 1) := Lib.hid (by rw [hS1, if_pos s1])
          rcases Bool.eq_false_or_eq_true (xi == other) with s2 | s2
          · have HS2 : Hid (cntTo other s (k + 1) = q2 + 1) := Lib.hid (by rw [hS2, if_pos s2])
            clear hS1 hS2 hown
            go_wp2
            go_quiet (fail)
            go_wp2
            go_quiet (fail)
            go_wp2
            go_roundw
            case rel => exact ⟨k + 1, rfl, hlt, by rw [HS1.out]; rfl, by rw [HS2.out]; rfl, below_drewN hb _⟩
            case measure => simp only [intOf]; omega
          · have HS2 : Hid (cntTo other s (k + 1) = q2) := Lib.hid (by rw [hS2, if_neg (by rw [s2]; decide), Nat.add_zero])
            clear hS1 hS2 hown
            go_wp2
            go_quiet (fail)
            go_wp2
            go_quiet (fail)
            go_wp2
            go_roundw
            case rel => exact ⟨k + 1, rfl, hlt, by rw [HS1.out]; rfl, by rw [HS2.out], below_drewN hb _⟩
            case measure => simp only [intOf]; omega
        · have HS1 : Hid (cntTo di s (k + 1) = q1) := Lib.hid (by rw [hS1, if_neg (by rw [s1]; decide), Nat.add_zero])
          rcases Bool.eq_false_or_eq_true (xi == other) with s2 | s2
          · have HS2 : Hid (cntTo other s (k + 1) = q2 + 1) := Lib.hid (by rw [hS2, if_pos s2])
            clear hS1 hS2 hown
            go_wp2
            go_quiet (fail)
            go_wp2
            go_roundw
            case rel => exact ⟨k + 1, rfl, hlt, by rw [HS1.out], by rw [HS2.out]; rfl, below_drewN hb _⟩
            case measure => simp only [intOf]; omega
          · have HS2 : Hid (cntTo other s (k + 1) = q2) := Lib.hid (by rw [hS2, if_neg (by rw [s2]; decide), Nat.add_zero])
            clear hS1 hS2 hown
            go_wp2
            go_quiet (fail)
            go_wp2
            go_roundw
            case rel => exact ⟨k + 1, rfl, hlt, by rw [HS1.out], by rw [HS2.out], below_drewN hb _⟩
            case measure => simp only [intOf]; omega
      · obtain rfl : k = ls := by omega
        rw [HOne.out]
        have hB5 := hB3.trans (hb.mono hB3.size)
        have HOth2 : Hid (other ≠ di → cntTo other s k = cntTo other l n) := HOth
        have HA5 := Lib.hid (HAin.out.below hB5)
        generalize cntTo other s k = m at *
        clear HOwn HOne HS3 hb hx3 HOth hk hlt hB3 HAin y0 y1
        go_wp2_with fail
        go_loopw [12, 14] (fun x z w4 => ∃ j : Nat, z = .int .i64 j ∧ j ≤ n ∧ x = .int .i64 (cntTo other l j : Nat) ∧ Below wr.heap.size wr w4) (fun _ z _ => n - (intOf z).toNat)
        case atStart => exact ⟨0, rfl, Nat.zero_le _, by rw [cntTo_zero]; rfl, Below.refl _ _⟩
        case round =>
          obtain ⟨j, rfl, hj, rfl, hb6⟩ := hrel
          by_cases hjl : j < n
          · have hnl := HN.out
            obtain ⟨g, o, rfl, hgl, hcs⟩ := vals_d (HA5.out.below hb6).1 (by omega)
            obtain ⟨-, c2⟩ := hcs j (by omega)
            have hS2 := cntTo_succ other (l := l) (k := j) (by omega)
            have hl2 := cntTo_le other l j
            have e1 : IntKind.i64.wrap ((j : Int) + 1) = ((j + 1 : Nat) : Int) := by simp only [IntKind.wrap_i64]; omega
            have k0 : (0 : Int) ≤ (j : Int) := by omega
            have k1 : (j : Int) < (n : Int) := by omega
            generalize (atD l j).i = xi at *
            generalize hq2 : cntTo other l j = q2 at *
            have e3 : IntKind.i64.wrap ((q2 : Int) + 1) = ((q2 + 1 : Nat) : Int) := by simp only [IntKind.wrap_i64]; omega
            clear hq2 hl2 hnl hcs
            rcases Bool.eq_false_or_eq_true (xi == other) with s2 | s2
            · have HS2 : Hid (cntTo other l (j + 1) = q2 + 1) := Lib.hid (by rw [hS2, if_pos s2])
              clear hS2
              go_wp2
              go_roundw
              case rel => exact ⟨j + 1, rfl, hjl, by rw [HS2.out]; rfl, hb6⟩
              case measure => simp only [intOf]; omega
            · have HS2 : Hid (cntTo other l (j + 1) = q2) := Lib.hid (by rw [hS2, if_neg (by rw [s2]; decide), Nat.add_zero])
              clear hS2
              go_wp2
              go_roundw
              case rel => exact ⟨j + 1, rfl, hjl, by rw [HS2.out], hb6⟩
              case measure => simp only [intOf]; omega
          · obtain rfl : j = n := by omega
            have hB7 := hB5.trans (hb6.mono hB5.size)
            have hx7 := hx4.kept hb6
            have y1 := hx7.cell 1 (by simp)
            dsimp only [List.getElem_cons_zero, List.getElem_cons_succ] at y1
            generalize hq2 : cntTo other l j = q2 at *
            have hoth := HOth2.out
            clear hq2 HOth2 HA5 hb6 hB5 hx4 hx7 hjl hj
            rcases Bool.eq_false_or_eq_true (other == di) with s2 | s2
            · clear hoth
              go_wp2
              go_ret
              exact ⟨rfl, hB7⟩
            · obtain rfl : m = q2 := hoth (by simpa using s2)
              clear hoth
              go_wp2
              go_ret
              exact ⟨rfl, hB7⟩
end Go.Proofs.Ytlbmkokdoigcnaa
