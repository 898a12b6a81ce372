/-
  interchangeref12.less and Ordered: the row in order, in memory of its own; nothing that was there is changed. Condition: less than a million places; the row lies in old memory.
-/
import Derived.WalkMore
import Derived.WalkSmall
import Derived.Lib.Hide
import Derived.Deep.QuietTactic
import Derived.BigQuiet
import Derived.Deep.RegionHeld3
import Derived.Deep.AppendLies
import Derived.Test.YtlbmkokdoigcnaaWBeatT
namespace Go.Proofs.Ytlbmkokdoigcnaa
open Go.RowKit Go.Shelf

set_option maxRecDepth 100000 in
set_option maxHeartbeats 1000000 in
theorem rless_any (x y : DP) (w : World) : Calls Try.prog 42 #[encD x, encD y] w fun e w' => e = .returned (.bool (ltD x y)) ∧ Below w.heap.size w w' := by
  obtain ⟨xa, xi⟩ := x
  obtain ⟨ya, yi⟩ := y
  unfold encD
  dsimp only
  have hQ : Below w.heap.size w ((w.alloc (.cells #[.int .i64 xa, .int .i64 xi] 24)).alloc (.cells #[.int .i64 ya, .int .i64 yi] 24)) := ((Below.refl _ w).alloc (Nat.le_refl _) _).alloc (by simp) _
  go_enter Try.func42, Try.ntmps42
  rcases Bool.eq_false_or_eq_true (decide (xa < ya)) with t1 | t1
  · have HR : Hid (ltD ⟨xa, xi⟩ ⟨ya, yi⟩ = true) := Lib.hid (by simp [ltD] at t1 ⊢; simp [t1])
    go_wp2
    go_ret
    exact ⟨by rw [HR.out] <;> rfl, hQ⟩
  · rcases Bool.eq_false_or_eq_true (xa == ya) with t2 | t2
    · have HR : Hid (ltD ⟨xa, xi⟩ ⟨ya, yi⟩ = decide (xi < yi)) := Lib.hid (by simp [ltD, t1, t2])
      go_wp2
      go_ret
      exact ⟨by rw [HR.out] <;> rfl, hQ⟩
    · have HR : Hid (ltD ⟨xa, xi⟩ ⟨ya, yi⟩ = false) := Lib.hid (by simp [ltD, t1, t2])
      go_wp2
      go_ret
      exact ⟨by rw [HR.out] <;> rfl, hQ⟩

theorem ins_at (x : DP) : ∀ (o : List DP) (k : Nat), (∀ j, j < k → ltD x (atD o j) = false) → k ≤ o.length → (k = o.length ∨ ltD x (atD o k) = true) → ins x o = o.take k ++ x :: o.drop k
  | [], k, _, hk, _ => by obtain rfl : k = 0 := by simpa using hk
                          rfl
  | y :: t, 0, _, _, h2 => by
    rcases h2 with h2 | h2
    · simp at h2
    · have : ltD x y = true := h2
      simp [ins, this]
  | y :: t, k + 1, h1, hk, h2 => by
    have hy : ltD x y = false := h1 0 (by omega)
    have ih := ins_at x t k (fun j hj => h1 (j + 1) (by omega)) (by simpa using hk) (by
      rcases h2 with h2 | h2
      · exact .inl (by simpa using h2)
      · exact .inr h2)
    simp [ins, hy, ih]
theorem srt_take_succ {l : List DP} {i : Nat} (h : i < l.length) : srt (l.take (i + 1)) = ins (atD l i) (srt (l.take i)) := by
  rw [take_snoc h, srt_snoc]
theorem vals_take {w : World} {A : Option Addr} {l : List DP} (h : ValsAt w A (rowD l)) (k : Nat) : ValsAt w A (rowD (l.take k)) := fun h0 => by
  have hl := rowD_length l
  have hk := rowD_length (l.take k)
  rw [List.length_take] at hk
  obtain ⟨b, off, hA, hlt, hc⟩ := h (by omega)
  refine ⟨b, off, hA, hlt, fun i hi => ?_⟩
  rw [hc i (by omega)]
  congr 1
  have e : (rowD (l.take k))[i]? = (rowD l)[i]? := by rw [← rowD_take, List.getElem?_take, if_pos (by omega)]
  rw [List.getElem?_eq_getElem hi, List.getElem?_eq_getElem (by omega)] at e
  exact (Option.some.inj e).symm
theorem rowD_drop (l : List DP) : ∀ k : Nat, (rowD l).drop (k * 2) = rowD (l.drop k) := by
  induction l with
  | nil => intro k; simp [rowD_nil]
  | cons f l ih =>
    intro k
    cases k with
    | zero => simp
    | succ k =>
      rw [rowD_cons, List.drop_succ_cons, show (k + 1) * 2 = k * 2 + 1 + 1 by omega, List.drop_succ_cons, List.drop_succ_cons, ih]
theorem vals_drop {w : World} {g : Nat} {l : List DP} (h : ValsAt w (some ⟨g, 0, none⟩) (rowD l)) (k : Nat) : ValsAt w (some ⟨g, k * 2, none⟩) (rowD (l.drop k)) := fun h0 => by
  have hl := rowD_length l
  have hk := rowD_length (l.drop k)
  rw [List.length_drop] at hk
  obtain ⟨b, off, hA, hlt, hc⟩ := h (by omega)
  cases hA
  refine ⟨g, k * 2, rfl, hlt, fun i hi => ?_⟩
  have h2 := hc (k * 2 + i) (by omega)
  rw [Nat.zero_add] at h2
  rw [h2]
  congr 1
  have e : (rowD (l.drop k))[i]? = (rowD l)[k * 2 + i]? := by rw [← rowD_drop, List.getElem?_drop]
  rw [List.getElem?_eq_getElem hi, List.getElem?_eq_getElem (by omega)] at e
  exact (Option.some.inj e).symm

set_option maxRecDepth 100000 in
set_option maxHeartbeats 8000000 in
theorem ordered_any (A : Option Addr) (cap : Nat) (l : List DP) (w : World) (hA : InD w A cap l) (hl : l.length < 1000000) :
    Calls Try.prog 29 #[.slice A l.length cap] w fun e w' => ∃ u, e = .returned u ∧ w'.ownsRow w.heap.size 24 2 u l.length (rowD (srt l)) ∧ Below w.heap.size w w' := by
  obtain ⟨i0, hi, hz0, hz1, hz2⟩ := info_partsD infoDue
  obtain ⟨n, hn⟩ : ∃ n, n = l.length := ⟨_, rfl⟩
  rw [← hn] at hl
  rw [← hn]
  have HN := Lib.hid hn
  have HA := Lib.hid hA
  clear hn hA
  go_enter Try.func29, Try.ntmps29
  go_wp2_with fail
  go_loopw [3, 4] (fun x y wr => ∃ i : Nat, y = .int .i64 i ∧ i ≤ n ∧ wr.ownsRow w.heap.size 24 2 x i (rowD (srt (l.take i))) ∧ Below w.heap.size w wr) (fun _ y _ => n - (intOf y).toNat)
  case atStart => exact ⟨0, rfl, Nat.zero_le _, World.ownsRow_nil _ _ _ _, Below.refl _ _⟩
  case round =>
    generalize hW1 : wr = W1 at *
    clear hW1
    obtain ⟨i, rfl, hin, hown, hb⟩ := hrel
    by_cases hlt : i < n
    · have hnl := HN.out
      obtain ⟨g0, o0, rfl, hg0, hcs⟩ := vals_d (HA.out.below hb).1 (by omega)
      obtain ⟨c1, c2⟩ := hcs i (by omega)
      have HS := Lib.hid (srt_take_succ (l := l) (i := i) (by omega))
      have holen : (srt (l.take i)).length = i := by rw [srt_length, List.length_take]; omega
      generalize srt (l.take i) = o at *
      have e1 : IntKind.i64.wrap ((i : Int) + 1) = ((i + 1 : Nat) : Int) := by simp only [IntKind.wrap_i64]; omega
      have k0 : (0 : Int) ≤ (i : Int) := by omega
      have k1 : (i : Int) < (n : Int) := by omega
      obtain ⟨d, hd⟩ : ∃ d, d = atD l i := ⟨_, rfl⟩
      rw [← hd] at c1 c2 HS
      clear hd hcs hnl
      have hLs := rless_any d
      have HO := Lib.hid holen
      obtain ⟨Ao, co, rfl, hVo, hnone⟩ := vals_of_own hown
      have HVo := Lib.hid hVo
      have HNone := Lib.hid hnone
      have HOwn := Lib.hid hown
      have HC : Hid (∀ w', Below W1.heap.size W1 w' → w'.cell? ⟨g0, o0 + i * 2, none⟩ = some (.int .i64 d.a) ∧ w'.cell? ⟨g0, o0 + i * 2 + 1, none⟩ = some (.int .i64 d.i)) := Lib.hid (fun w' h => ⟨(h.cell (p := ⟨g0, o0 + i * 2, none⟩) hg0).trans c1, (h.cell (p := ⟨g0, o0 + i * 2 + 1, none⟩) hg0).trans c2⟩)
      clear holen hown hVo hnone c1 c2
      go_wp2_with fail
      go_loopw [5] (fun z wr => ∃ k : Nat, z = .int .i64 k ∧ k ≤ i ∧ Below W1.heap.size W1 wr ∧ Hid (∀ j, j < k → ltD d (atD o j) = false)) (fun z _ => i - (intOf z).toNat)
      case atStart => exact ⟨0, rfl, Nat.zero_le _, Below.refl _ _, Lib.hid (fun j hj => absurd hj (Nat.not_lt_zero _))⟩
      case round =>
        obtain ⟨k, rfl, hki, hb2, HK⟩ := hrel
        have hkn : k ≤ n := by omega
        have hk0 : (0 : Int) ≤ (k : Int) := by omega
        have hin' : i + 1 ≤ n := hlt
        rcases RowD.of (l := o) (by rw [HO.out]; exact HOwn.out) with ⟨hnil, ho0⟩ | ⟨g, cq, hsl, hgw, hRo⟩
        · -- an empty row that is nil
          obtain ⟨rfl, rfl, rfl⟩ : Ao = none ∧ i = 0 ∧ co = 0 := by simpa using hnil
          obtain rfl : k = 0 := by omega
          have HIns : Hid (ins d o = o.take 0 ++ d :: o.drop 0) := Lib.hid (ins_at d o 0 (fun j hj => absurd hj (Nat.not_lt_zero _)) (Nat.zero_le _) (.inl (by rw [ho0]; rfl)))
          have hbr := hb2
          clear HK hnil ho0 HOwn HNone hb2
          go_wp2
          go_quiet (fail)
          generalize hWq : World.drewN wr _ = Wq
          have hbr : Below W1.heap.size W1 Wq := by rw [← hWq]; exact below_drewN hbr _
          clear hWq
          have hbW : Below w.heap.size w Wq := hb.trans (hbr.mono hb.size)
          have hIns := HIns.out
          have hVW := ValsAt.below HVo.out hbr
          have hsW := hbW.size
          obtain ⟨a1, a2⟩ : ∃ a1 a2 : List DP, a1 = o.take 0 ∧ a2 = o.drop 0 := ⟨_, _, rfl, rfl⟩
          have ha1 : (o.take 0).length = 0 := by have := HO.out; rw [List.length_take]; omega
          have ha2 : (o.drop 0).length = 0 - 0 := by have := HO.out; rw [List.length_drop]; omega
          have HV1 := Lib.hid (ValsAt.below (vals_take hVW 0) ((Below.refl _ Wq).alloc (Nat.le_refl _) (.cells #[] 24)))
          have HV2 := Lib.hid (True.intro)
          have hr1 := Lib.hid ((rowD_length (o.take 0)).trans (by rw [ha1]))
          have hr2 := Lib.hid ((rowD_length (o.drop 0)).trans (by rw [ha2]))
          have ho1 := Lib.hid (rowD_one (o.take 0))
          have ho2 := Lib.hid (rowD_one (o.drop 0))
          have HI : Hid (rowD (srt (l.take (0 + 1))) = rowD (o.take 0) ++ .int .i64 d.a :: .int .i64 d.i :: rowD (o.drop 0)) := Lib.hid (by rw [HS.out, hIns, rowD_append, rowD_cons])
          generalize rowD (o.take 0) = row1 at *
          generalize rowD (o.drop 0) = row2 at *
          clear hIns hVW ha1 ha2
          have hHCW : Hid (∀ w', Below Wq.heap.size Wq w' → w'.cell? ⟨g0, o0 + 0 * 2, none⟩ = some (.int .i64 d.a) ∧ w'.cell? ⟨g0, o0 + 0 * 2 + 1, none⟩ = some (.int .i64 d.i)) := Lib.hid (fun w' h => HC.out w' (hbr.trans (h.mono hbr.size)))
          go_wp2_with (at_builtin; refine wpList_append_row rfl _ _ 22 rfl Wq.heap.size 24 i0 (.agg #[.int .i64 0, .int .i64 0]) 2 16 Try.underlying22 hi hz0 hz1 hz2 rfl (by decide) (.slice (some ⟨Wq.heap.size, 0, none⟩) 0 0) 0 [] rfl (own_emptyD Wq 24 2) (none) 0 0 row1 rfl ?s3 HV1.out (fun _ => And.intro rfl rfl) ho1.out ?s5 ?s6 ?s7 ?s8)
          case s3 => have := hr1.out; omega
          case s5 => unfold maxLen; omega
          case s6 => omega
          case s7 => simp
          case s8 =>
            intro v1 w4 hown4 hgrow4
            have hb4 : Below Wq.heap.size Wq w4 := ((Below.refl Wq.heap.size Wq).alloc (Nat.le_refl _) (.cells #[] 24)).grown hgrow4 (by simp) (fun q hq => ((own_emptyD Wq 24 2).lt q hq).1)
            have Hown4 : w4.ownsRow Wq.heap.size 24 2 v1 0 row1 := by simpa using hown4
            obtain ⟨c1, c2⟩ := hHCW.out w4 hb4
            simp only [Nat.zero_mul, Nat.add_zero] at c1 c2
            have hs4 := hb4.size
            have hown4a : (w4.alloc (.cells #[.int .i64 d.a, .int .i64 d.i] 24)).ownsRow Wq.heap.size 24 2 v1 0 row1 := Hown4.alloc _
            have HC4 := Lib.hid (cell_two w4 (.int .i64 d.a) (.int .i64 d.i) 24)
            have hb5 := hb4.alloc hs4 (.cells #[.int .i64 d.a, .int .i64 d.i] 24)
            have HL4 := Lib.hid hown4a.lt
            have ml : 0 + 1 ≤ maxLen := by unfold maxLen; omega
            have h2 : (0 + 1) * 16 ≤ 140737488355328 := by omega
            have hsz : Wq.heap.size ≤ (w4.alloc (.cells #[.int .i64 d.a, .int .i64 d.i] 24)).heap.size := by simp; omega
            clear hown4 hgrow4 HV1 Hown4
            go_wp2_with (at_builtin; refine wpList_append_lies _ rfl _ _ 22 rfl Wq.heap.size 24 i0 (.agg #[.int .i64 0, .int .i64 0]) 2 16 Try.underlying22 hi hz0 hz1 hz2 rfl (by decide) v1 0 row1 rfl hown4a ⟨w4.heap.size, 0, none⟩ 1 1 [.int .i64 d.a, .int .i64 d.i] rfl rfl HC4.out ?r1 (by decide) ml h2 hsz (w4.heap.size + 1) ?r2 ?r3)
            case r1 => simp [Value.oneCell']
            case r2 => simp
            case r3 =>
              intro g5 c5 w5 hown5 hgrow5 hat5 hlt5
              have hb6 : Below Wq.heap.size Wq w5 := hb5.grown hgrow5 hsz (fun q hq => (HL4.out q hq).1)
              have hs6 := hb6.size
              have HL5 := Lib.hid hown5.lt
              have Hown5 := Lib.hid hown5
              clear hown5 hgrow5 hat5 hlt5 hown4a HC4 hb4 hb5 HL4 c1 c2 ml h2 hsz
              go_wp2_with (at_builtin; refine wpList_append_row rfl _ _ 22 rfl Wq.heap.size 24 i0 (.agg #[.int .i64 0, .int .i64 0]) 2 16 Try.underlying22 hi hz0 hz1 hz2 rfl (by decide) (.slice (some ⟨g5, 0, none⟩) (0 + 1) c5) (0 + 1) (row1 ++ [.int .i64 d.a, .int .i64 d.i]) rfl Hown5.out (none) (0) (0) row2 rfl ?p1 ?p2 (fun _ => And.intro rfl rfl) ho2.out ?p4 ?p5 hs6 ?p6)
              case p1 => have := hr2.out; omega
              case p2 => exact fun h0 => by have := hr2.out; omega
              case p4 => unfold maxLen; omega
              case p5 => omega
              case p6 =>
                intro v6 w6 hown6 hgrow6
                have hb7 : Below Wq.heap.size Wq w6 := hb6.grown hgrow6 hs6 (fun q hq => (HL5.out q hq).1)
                have hb8 : Below w.heap.size w w6 := hbW.trans (hb7.mono hsW)
                have Hfin : Hid (w6.ownsRow w.heap.size 24 2 v6 (0 + 1) (rowD (srt (l.take (0 + 1))))) := Lib.hid (by
                  have h := own_down hown6 hsW
                  rw [HI.out]
                  have e : 0 + 1 + (0) = 0 + 1 := by omega
                  first | exact h | (rw [e] at h; exact h))
                clear hown6 hgrow6 hb7 hb6 Hown5 HL5 HI
                go_wp2_with fail
                go_roundw
                case rel => exact ⟨0 + 1, rfl, hlt, Hfin.out, hb8⟩
                case measure => simp only [intOf]; omega
        · obtain ⟨rfl, hoi, rfl⟩ : Ao = some ⟨g, 0, none⟩ ∧ i = o.length ∧ co = cq := by simpa using hsl
          have hico : i ≤ co := by obtain ⟨cur, -, h, -⟩ := hRo; omega
          have hgwr := hRo.lt
          by_cases hkl : k < i
          · obtain ⟨y1, y2, -⟩ := hRo.at k (by omega)
            have HIt : Hid (ltD d (atD o k) = true → ins d o = o.take k ++ d :: o.drop k) := Lib.hid (fun h => ins_at d o k HK.out (by omega) (.inr h))
            have HK2 : Hid (ltD d (atD o k) = false → ∀ j, j < k + 1 → ltD d (atD o j) = false) := Lib.hid (fun h j hj => by
              rcases Nat.lt_or_ge j k with hh | hh
              · exact HK.out j hh
              · obtain rfl : j = k := by omega
                exact h)
            have hL := hLs (atD o k)
            have keep : ∀ w', Below wr.heap.size wr w' → (w'.cell? ⟨g0, o0 + i * 2, none⟩ = some (.int .i64 d.a) ∧ w'.cell? ⟨g0, o0 + i * 2 + 1, none⟩ = some (.int .i64 d.i)) ∧ w'.cell? ⟨g, k * 2, none⟩ = some (.int .i64 (atD o k).a) ∧ w'.cell? ⟨g, k * 2 + 1, none⟩ = some (.int .i64 (atD o k).i) := fun w' h => by
              have hbb := hb2.trans (h.mono hb2.size)
              exact ⟨HC.out w' hbb, (hbb.cell (p := ⟨g, k * 2, none⟩) hgwr).trans y1, (hbb.cell (p := ⟨g, k * 2 + 1, none⟩) hgwr).trans y2⟩
            generalize hq : ltD d (atD o k) = q at *
            generalize atD o k = y at *
            have hL' : ∀ w, Calls Try.prog 42 #[.agg #[.int .i64 d.a, .int .i64 d.i], .agg #[.int .i64 y.a, .int .i64 y.i]] w fun e w' => e = .returned (.bool q) ∧ Below w.heap.size w w' := hL
            have q1 : decide (k < i) = true := by simpa using hkl
            have q2 : (k : Int) < (i : Int) := by omega
            have q3 : k < i := hkl
            have e4 : IntKind.i64.wrap ((k : Int) + 1) = ((k + 1 : Nat) : Int) := by simp only [IntKind.wrap_i64]; omega
            have hkco : k ≤ co := by omega
            have hkco2 : ¬ (co = k) := by omega
            clear hq hL y1 y2 HK hsl hRo hLs hoi HOwn HNone
            go_wp2
            go_region_held3 (fun w' => (w'.cell? ⟨g0, o0 + i * 2, none⟩ = some (.int .i64 d.a) ∧ w'.cell? ⟨g0, o0 + i * 2 + 1, none⟩ = some (.int .i64 d.i)) ∧ w'.cell? ⟨g, k * 2, none⟩ = some (.int .i64 y.a) ∧ w'.cell? ⟨g, k * 2 + 1, none⟩ = some (.int .i64 y.i)) (first | (with_reducible exact keep _ hf1) | (with_reducible exact keep _ (Below.refl _ wr).drew)) (first | (go_at_call 42; refine (hL' _).mono ?_; rintro e w3 ⟨rfl, hr3⟩; have hf1 : Below wr.heap.size wr w3 := ⟨hr3.os, hr3.tape, hr3.output, hr3.size, hr3.block⟩))
            have hbr : Below W1.heap.size W1 w3 := hb2.trans (hf1.mono hb2.size)
            clear keep hL' hr3 hf1 hb2
            cases q
            · have HK3 := Lib.hid (HK2.out rfl)
              clear HK2 HIt
              go_wp2
              go_roundw
              case rel => exact ⟨k + 1, rfl, hkl, hbr, HK3⟩
              case measure => simp only [intOf]; omega
            · have HIns := Lib.hid (HIt.out rfl)
              clear HK2 HIt
              have hbW : Below w.heap.size w w3 := hb.trans (hbr.mono hb.size)
              have hIns := HIns.out
              have hVW := ValsAt.below HVo.out hbr
              have hsW := hbW.size
              obtain ⟨a1, a2⟩ : ∃ a1 a2 : List DP, a1 = o.take k ∧ a2 = o.drop k := ⟨_, _, rfl, rfl⟩
              have ha1 : (o.take k).length = k := by have := HO.out; rw [List.length_take]; omega
              have ha2 : (o.drop k).length = i - k := by have := HO.out; rw [List.length_drop]; omega
              have HV1 := Lib.hid (ValsAt.below (vals_take hVW k) ((Below.refl _ w3).alloc (Nat.le_refl _) (.cells #[] 24)))
              have HV2 := Lib.hid (vals_drop hVW k)
              have hr1 := Lib.hid ((rowD_length (o.take k)).trans (by rw [ha1]))
              have hr2 := Lib.hid ((rowD_length (o.drop k)).trans (by rw [ha2]))
              have ho1 := Lib.hid (rowD_one (o.take k))
              have ho2 := Lib.hid (rowD_one (o.drop k))
              have HI : Hid (rowD (srt (l.take (i + 1))) = rowD (o.take k) ++ .int .i64 d.a :: .int .i64 d.i :: rowD (o.drop k)) := Lib.hid (by rw [HS.out, hIns, rowD_append, rowD_cons])
              generalize rowD (o.take k) = row1 at *
              generalize rowD (o.drop k) = row2 at *
              clear hIns hVW ha1 ha2
              have hHCW : Hid (∀ w', Below w3.heap.size w3 w' → w'.cell? ⟨g0, o0 + i * 2, none⟩ = some (.int .i64 d.a) ∧ w'.cell? ⟨g0, o0 + i * 2 + 1, none⟩ = some (.int .i64 d.i)) := Lib.hid (fun w' h => HC.out w' (hbr.trans (h.mono hbr.size)))
              go_wp2_with (at_builtin; refine wpList_append_row rfl _ _ 22 rfl w3.heap.size 24 i0 (.agg #[.int .i64 0, .int .i64 0]) 2 16 Try.underlying22 hi hz0 hz1 hz2 rfl (by decide) (.slice (some ⟨w3.heap.size, 0, none⟩) 0 0) 0 [] rfl (own_emptyD w3 24 2) (some ⟨g, 0, none⟩) k co row1 rfl ?s3 HV1.out (fun e => by cases e) ho1.out ?s5 ?s6 ?s7 ?s8)
              case s3 => exact hr1.out
              case s5 => unfold maxLen; omega
              case s6 => omega
              case s7 => simp
              case s8 =>
                intro v1 w4 hown4 hgrow4
                have hb4 : Below w3.heap.size w3 w4 := ((Below.refl w3.heap.size w3).alloc (Nat.le_refl _) (.cells #[] 24)).grown hgrow4 (by simp) (fun q hq => ((own_emptyD w3 24 2).lt q hq).1)
                have Hown4 : w4.ownsRow w3.heap.size 24 2 v1 k row1 := by simpa using hown4
                obtain ⟨c1, c2⟩ := hHCW.out w4 hb4
                have hs4 := hb4.size
                have hown4a : (w4.alloc (.cells #[.int .i64 d.a, .int .i64 d.i] 24)).ownsRow w3.heap.size 24 2 v1 k row1 := Hown4.alloc _
                have HC4 := Lib.hid (cell_two w4 (.int .i64 d.a) (.int .i64 d.i) 24)
                have hb5 := hb4.alloc hs4 (.cells #[.int .i64 d.a, .int .i64 d.i] 24)
                have HL4 := Lib.hid hown4a.lt
                have ml : k + 1 ≤ maxLen := by unfold maxLen; omega
                have h2 : (k + 1) * 16 ≤ 140737488355328 := by omega
                have hsz : w3.heap.size ≤ (w4.alloc (.cells #[.int .i64 d.a, .int .i64 d.i] 24)).heap.size := by simp; omega
                clear hown4 hgrow4 HV1 Hown4
                go_wp2_with (at_builtin; refine wpList_append_lies _ rfl _ _ 22 rfl w3.heap.size 24 i0 (.agg #[.int .i64 0, .int .i64 0]) 2 16 Try.underlying22 hi hz0 hz1 hz2 rfl (by decide) v1 k row1 rfl hown4a ⟨w4.heap.size, 0, none⟩ 1 1 [.int .i64 d.a, .int .i64 d.i] rfl rfl HC4.out ?r1 (by decide) ml h2 hsz (w4.heap.size + 1) ?r2 ?r3)
                case r1 => simp [Value.oneCell']
                case r2 => simp
                case r3 =>
                  intro g5 c5 w5 hown5 hgrow5 hat5 hlt5
                  have hb6 : Below w3.heap.size w3 w5 := hb5.grown hgrow5 hsz (fun q hq => (HL4.out q hq).1)
                  have hs6 := hb6.size
                  have HL5 := Lib.hid hown5.lt
                  have Hown5 := Lib.hid hown5
                  clear hown5 hgrow5 hat5 hlt5 hown4a HC4 hb4 hb5 HL4 c1 c2 ml h2 hsz
                  go_wp2_with (at_builtin; refine wpList_append_row rfl _ _ 22 rfl w3.heap.size 24 i0 (.agg #[.int .i64 0, .int .i64 0]) 2 16 Try.underlying22 hi hz0 hz1 hz2 rfl (by decide) (.slice (some ⟨g5, 0, none⟩) (k + 1) c5) (k + 1) (row1 ++ [.int .i64 d.a, .int .i64 d.i]) rfl Hown5.out (some ⟨g, k * 2, none⟩) (i - k) (co - k) row2 rfl ?p1 ?p2 (fun e => by cases e) ho2.out ?p4 ?p5 hs6 ?p6)
                  case p1 => exact hr2.out
                  case p2 => exact ValsAt.below HV2.out hb6
                  case p4 => unfold maxLen; omega
                  case p5 => omega
                  case p6 =>
                    intro v6 w6 hown6 hgrow6
                    have hb7 : Below w3.heap.size w3 w6 := hb6.grown hgrow6 hs6 (fun q hq => (HL5.out q hq).1)
                    have hb8 : Below w.heap.size w w6 := hbW.trans (hb7.mono hsW)
                    have Hfin : Hid (w6.ownsRow w.heap.size 24 2 v6 (i + 1) (rowD (srt (l.take (i + 1))))) := Lib.hid (by
                      have h := own_down hown6 hsW
                      rw [HI.out]
                      have e : k + 1 + (i - k) = i + 1 := by omega
                      first | exact h | (rw [e] at h; exact h))
                    clear hown6 hgrow6 hb7 hb6 Hown5 HL5 HI
                    go_wp2_with fail
                    go_roundw
                    case rel => exact ⟨i + 1, rfl, hlt, Hfin.out, hb8⟩
                    case measure => simp only [intOf]; omega
          · obtain rfl : k = i := by omega
            have HIns : Hid (ins d o = o.take k ++ d :: o.drop k) := Lib.hid (ins_at d o k HK.out (by omega) (.inl hoi))
            have hbr := hb2
            clear HK hsl hRo hLs hoi HOwn HNone hb2
            go_wp2
            go_quiet (fail)
            generalize hWq : World.drewN wr _ = Wq
            have hbr : Below W1.heap.size W1 Wq := by rw [← hWq]; exact below_drewN hbr _
            clear hWq
            rcases Nat.lt_or_ge k co with hck | hck
            · have hck2 : ¬ (co = k) := by omega
              have hbW : Below w.heap.size w Wq := hb.trans (hbr.mono hb.size)
              have hIns := HIns.out
              have hVW := ValsAt.below HVo.out hbr
              have hsW := hbW.size
              obtain ⟨a1, a2⟩ : ∃ a1 a2 : List DP, a1 = o.take k ∧ a2 = o.drop k := ⟨_, _, rfl, rfl⟩
              have ha1 : (o.take k).length = k := by have := HO.out; rw [List.length_take]; omega
              have ha2 : (o.drop k).length = k - k := by have := HO.out; rw [List.length_drop]; omega
              have HV1 := Lib.hid (ValsAt.below (vals_take hVW k) ((Below.refl _ Wq).alloc (Nat.le_refl _) (.cells #[] 24)))
              have HV2 := Lib.hid (vals_drop hVW k)
              have hr1 := Lib.hid ((rowD_length (o.take k)).trans (by rw [ha1]))
              have hr2 := Lib.hid ((rowD_length (o.drop k)).trans (by rw [ha2]))
              have ho1 := Lib.hid (rowD_one (o.take k))
              have ho2 := Lib.hid (rowD_one (o.drop k))
              have HI : Hid (rowD (srt (l.take (k + 1))) = rowD (o.take k) ++ .int .i64 d.a :: .int .i64 d.i :: rowD (o.drop k)) := Lib.hid (by rw [HS.out, hIns, rowD_append, rowD_cons])
              generalize rowD (o.take k) = row1 at *
              generalize rowD (o.drop k) = row2 at *
              clear hIns hVW ha1 ha2
              have hHCW : Hid (∀ w', Below Wq.heap.size Wq w' → w'.cell? ⟨g0, o0 + k * 2, none⟩ = some (.int .i64 d.a) ∧ w'.cell? ⟨g0, o0 + k * 2 + 1, none⟩ = some (.int .i64 d.i)) := Lib.hid (fun w' h => HC.out w' (hbr.trans (h.mono hbr.size)))
              go_wp2_with (at_builtin; refine wpList_append_row rfl _ _ 22 rfl Wq.heap.size 24 i0 (.agg #[.int .i64 0, .int .i64 0]) 2 16 Try.underlying22 hi hz0 hz1 hz2 rfl (by decide) (.slice (some ⟨Wq.heap.size, 0, none⟩) 0 0) 0 [] rfl (own_emptyD Wq 24 2) (some ⟨g, 0, none⟩) k co row1 rfl ?s3 HV1.out (fun e => by cases e) ho1.out ?s5 ?s6 ?s7 ?s8)
              case s3 => exact hr1.out
              case s5 => unfold maxLen; omega
              case s6 => omega
              case s7 => simp
              case s8 =>
                intro v1 w4 hown4 hgrow4
                have hb4 : Below Wq.heap.size Wq w4 := ((Below.refl Wq.heap.size Wq).alloc (Nat.le_refl _) (.cells #[] 24)).grown hgrow4 (by simp) (fun q hq => ((own_emptyD Wq 24 2).lt q hq).1)
                have Hown4 : w4.ownsRow Wq.heap.size 24 2 v1 k row1 := by simpa using hown4
                obtain ⟨c1, c2⟩ := hHCW.out w4 hb4
                have hs4 := hb4.size
                have hown4a : (w4.alloc (.cells #[.int .i64 d.a, .int .i64 d.i] 24)).ownsRow Wq.heap.size 24 2 v1 k row1 := Hown4.alloc _
                have HC4 := Lib.hid (cell_two w4 (.int .i64 d.a) (.int .i64 d.i) 24)
                have hb5 := hb4.alloc hs4 (.cells #[.int .i64 d.a, .int .i64 d.i] 24)
                have HL4 := Lib.hid hown4a.lt
                have ml : k + 1 ≤ maxLen := by unfold maxLen; omega
                have h2 : (k + 1) * 16 ≤ 140737488355328 := by omega
                have hsz : Wq.heap.size ≤ (w4.alloc (.cells #[.int .i64 d.a, .int .i64 d.i] 24)).heap.size := by simp; omega
                clear hown4 hgrow4 HV1 Hown4
                go_wp2_with (at_builtin; refine wpList_append_lies _ rfl _ _ 22 rfl Wq.heap.size 24 i0 (.agg #[.int .i64 0, .int .i64 0]) 2 16 Try.underlying22 hi hz0 hz1 hz2 rfl (by decide) v1 k row1 rfl hown4a ⟨w4.heap.size, 0, none⟩ 1 1 [.int .i64 d.a, .int .i64 d.i] rfl rfl HC4.out ?r1 (by decide) ml h2 hsz (w4.heap.size + 1) ?r2 ?r3)
                case r1 => simp [Value.oneCell']
                case r2 => simp
                case r3 =>
                  intro g5 c5 w5 hown5 hgrow5 hat5 hlt5
                  have hb6 : Below Wq.heap.size Wq w5 := hb5.grown hgrow5 hsz (fun q hq => (HL4.out q hq).1)
                  have hs6 := hb6.size
                  have HL5 := Lib.hid hown5.lt
                  have Hown5 := Lib.hid hown5
                  clear hown5 hgrow5 hat5 hlt5 hown4a HC4 hb4 hb5 HL4 c1 c2 ml h2 hsz
                  go_wp2_with (at_builtin; refine wpList_append_row rfl _ _ 22 rfl Wq.heap.size 24 i0 (.agg #[.int .i64 0, .int .i64 0]) 2 16 Try.underlying22 hi hz0 hz1 hz2 rfl (by decide) (.slice (some ⟨g5, 0, none⟩) (k + 1) c5) (k + 1) (row1 ++ [.int .i64 d.a, .int .i64 d.i]) rfl Hown5.out (some ⟨g, k * 2, none⟩) (0) (co - k) row2 rfl ?p1 ?p2 (fun e => by cases e) ho2.out ?p4 ?p5 hs6 ?p6)
                  case p1 => have := hr2.out; omega
                  case p2 => exact fun h0 => by have := hr2.out; omega
                  case p4 => unfold maxLen; omega
                  case p5 => omega
                  case p6 =>
                    intro v6 w6 hown6 hgrow6
                    have hb7 : Below Wq.heap.size Wq w6 := hb6.grown hgrow6 hs6 (fun q hq => (HL5.out q hq).1)
                    have hb8 : Below w.heap.size w w6 := hbW.trans (hb7.mono hsW)
                    have Hfin : Hid (w6.ownsRow w.heap.size 24 2 v6 (k + 1) (rowD (srt (l.take (k + 1))))) := Lib.hid (by
                      have h := own_down hown6 hsW
                      rw [HI.out]
                      have e : k + 1 + (0) = k + 1 := by omega
                      first | exact h | (rw [e] at h; exact h))
                    clear hown6 hgrow6 hb7 hb6 Hown5 HL5 HI
                    go_wp2_with fail
                    go_roundw
                    case rel => exact ⟨k + 1, rfl, hlt, Hfin.out, hb8⟩
                    case measure => simp only [intOf]; omega
            · obtain rfl : k = co := by omega
              have hbW : Below w.heap.size w Wq := hb.trans (hbr.mono hb.size)
              have hIns := HIns.out
              have hVW := ValsAt.below HVo.out hbr
              have hsW := hbW.size
              obtain ⟨a1, a2⟩ : ∃ a1 a2 : List DP, a1 = o.take k ∧ a2 = o.drop k := ⟨_, _, rfl, rfl⟩
              have ha1 : (o.take k).length = k := by have := HO.out; rw [List.length_take]; omega
              have ha2 : (o.drop k).length = k - k := by have := HO.out; rw [List.length_drop]; omega
              have HV1 := Lib.hid (ValsAt.below (vals_take hVW k) ((Below.refl _ Wq).alloc (Nat.le_refl _) (.cells #[] 24)))
              have HV2 := Lib.hid (vals_drop hVW k)
              have hr1 := Lib.hid ((rowD_length (o.take k)).trans (by rw [ha1]))
              have hr2 := Lib.hid ((rowD_length (o.drop k)).trans (by rw [ha2]))
              have ho1 := Lib.hid (rowD_one (o.take k))
              have ho2 := Lib.hid (rowD_one (o.drop k))
              have HI : Hid (rowD (srt (l.take (k + 1))) = rowD (o.take k) ++ .int .i64 d.a :: .int .i64 d.i :: rowD (o.drop k)) := Lib.hid (by rw [HS.out, hIns, rowD_append, rowD_cons])
              generalize rowD (o.take k) = row1 at *
              generalize rowD (o.drop k) = row2 at *
              clear hIns hVW ha1 ha2
              have hHCW : Hid (∀ w', Below Wq.heap.size Wq w' → w'.cell? ⟨g0, o0 + k * 2, none⟩ = some (.int .i64 d.a) ∧ w'.cell? ⟨g0, o0 + k * 2 + 1, none⟩ = some (.int .i64 d.i)) := Lib.hid (fun w' h => HC.out w' (hbr.trans (h.mono hbr.size)))
              go_wp2_with (at_builtin; refine wpList_append_row rfl _ _ 22 rfl Wq.heap.size 24 i0 (.agg #[.int .i64 0, .int .i64 0]) 2 16 Try.underlying22 hi hz0 hz1 hz2 rfl (by decide) (.slice (some ⟨Wq.heap.size, 0, none⟩) 0 0) 0 [] rfl (own_emptyD Wq 24 2) (some ⟨g, 0, none⟩) k k row1 rfl ?s3 HV1.out (fun e => by cases e) ho1.out ?s5 ?s6 ?s7 ?s8)
              case s3 => exact hr1.out
              case s5 => unfold maxLen; omega
              case s6 => omega
              case s7 => simp
              case s8 =>
                intro v1 w4 hown4 hgrow4
                have hb4 : Below Wq.heap.size Wq w4 := ((Below.refl Wq.heap.size Wq).alloc (Nat.le_refl _) (.cells #[] 24)).grown hgrow4 (by simp) (fun q hq => ((own_emptyD Wq 24 2).lt q hq).1)
                have Hown4 : w4.ownsRow Wq.heap.size 24 2 v1 k row1 := by simpa using hown4
                obtain ⟨c1, c2⟩ := hHCW.out w4 hb4
                have hs4 := hb4.size
                have hown4a : (w4.alloc (.cells #[.int .i64 d.a, .int .i64 d.i] 24)).ownsRow Wq.heap.size 24 2 v1 k row1 := Hown4.alloc _
                have HC4 := Lib.hid (cell_two w4 (.int .i64 d.a) (.int .i64 d.i) 24)
                have hb5 := hb4.alloc hs4 (.cells #[.int .i64 d.a, .int .i64 d.i] 24)
                have HL4 := Lib.hid hown4a.lt
                have ml : k + 1 ≤ maxLen := by unfold maxLen; omega
                have h2 : (k + 1) * 16 ≤ 140737488355328 := by omega
                have hsz : Wq.heap.size ≤ (w4.alloc (.cells #[.int .i64 d.a, .int .i64 d.i] 24)).heap.size := by simp; omega
                clear hown4 hgrow4 HV1 Hown4
                go_wp2_with (at_builtin; refine wpList_append_lies _ rfl _ _ 22 rfl Wq.heap.size 24 i0 (.agg #[.int .i64 0, .int .i64 0]) 2 16 Try.underlying22 hi hz0 hz1 hz2 rfl (by decide) v1 k row1 rfl hown4a ⟨w4.heap.size, 0, none⟩ 1 1 [.int .i64 d.a, .int .i64 d.i] rfl rfl HC4.out ?r1 (by decide) ml h2 hsz (w4.heap.size + 1) ?r2 ?r3)
                case r1 => simp [Value.oneCell']
                case r2 => simp
                case r3 =>
                  intro g5 c5 w5 hown5 hgrow5 hat5 hlt5
                  have hb6 : Below Wq.heap.size Wq w5 := hb5.grown hgrow5 hsz (fun q hq => (HL4.out q hq).1)
                  have hs6 := hb6.size
                  have HL5 := Lib.hid hown5.lt
                  have Hown5 := Lib.hid hown5
                  clear hown5 hgrow5 hat5 hlt5 hown4a HC4 hb4 hb5 HL4 c1 c2 ml h2 hsz
                  go_wp2_with (at_builtin; refine wpList_append_row rfl _ _ 22 rfl Wq.heap.size 24 i0 (.agg #[.int .i64 0, .int .i64 0]) 2 16 Try.underlying22 hi hz0 hz1 hz2 rfl (by decide) (.slice (some ⟨g5, 0, none⟩) (k + 1) c5) (k + 1) (row1 ++ [.int .i64 d.a, .int .i64 d.i]) rfl Hown5.out (some ⟨g, 0, none⟩) (0) (0) row2 rfl ?p1 ?p2 (fun e => by cases e) ho2.out ?p4 ?p5 hs6 ?p6)
                  case p1 => have := hr2.out; omega
                  case p2 => exact fun h0 => by have := hr2.out; omega
                  case p4 => unfold maxLen; omega
                  case p5 => omega
                  case p6 =>
                    intro v6 w6 hown6 hgrow6
                    have hb7 : Below Wq.heap.size Wq w6 := hb6.grown hgrow6 hs6 (fun q hq => (HL5.out q hq).1)
                    have hb8 : Below w.heap.size w w6 := hbW.trans (hb7.mono hsW)
                    have Hfin : Hid (w6.ownsRow w.heap.size 24 2 v6 (k + 1) (rowD (srt (l.take (k + 1))))) := Lib.hid (by
                      have h := own_down hown6 hsW
                      rw [HI.out]
                      have e : k + 1 + (0) = k + 1 := by omega
                      first | exact h | (rw [e] at h; exact h))
                    clear hown6 hgrow6 hb7 hb6 Hown5 HL5 HI
                    go_wp2_with fail
                    go_roundw
                    case rel => exact ⟨k + 1, rfl, hlt, Hfin.out, hb8⟩
                    case measure => simp only [intOf]; omega
    · obtain rfl : i = n := by omega
      have HE : Hid (W1.ownsRow w.heap.size 24 2 _ i (rowD (srt l))) := Lib.hid (by
        have := HN.out
        rw [List.take_of_length_le (by omega)] at hown
        exact hown)
      clear hown
      go_wp2
      go_ret
      exact ⟨_, rfl, HE.out, hb⟩
end Go.Proofs.Ytlbmkokdoigcnaa
