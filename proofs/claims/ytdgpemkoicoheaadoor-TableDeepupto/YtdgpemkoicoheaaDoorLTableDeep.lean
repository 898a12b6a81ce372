/-
  interchangelaw03.TableDeep answers true; nothing that was there is changed. Conditions: the package num's table of widths holds 1, 2, 4, 8; a text of at most 1048576 bytes.
-/
import Derived.Test.YtdgpemkoicoheaaDoorWTabShown
import Derived.Test.YtdgpemkoicoheaaDoorPTabLaw
namespace Go.Proofs.YtdgpemkoicoheaaDoor
open Go.RowKit

/-- a table as a value: its byte ahead of it -/
theorem val_table (t : ByteArray) : val (⟨#[70]⟩ ++ t) 32 = nest true t 32 := by
  have e : (⟨#[70]⟩ : ByteArray) = putR 1 70 := by decide
  have hp : putOk 1 70 = true := by decide
  have h1 := take_put_ok hp t
  have h2 := take_put_v hp (by decide) t
  have h3 := take_put_r hp t
  rw [e]
  have h4 := val_nest 32 h1 (by rw [h2]; decide)
  rw [h4, h2, h3]
  rfl
theorem alone_deep {t : ByteArray} (h : aloneE (nest true t 32) = 0) : nest true t 32 = ⟨aloneD (nest true t 32), ⟨#[]⟩, 0⟩ ∧ 1 ≤ aloneD (nest true t 32) ∧ aloneD (nest true t 32) ≤ 32 := by
  obtain ⟨-, -, h1, h2⟩ := alone_enter h
  have h3 := nest_good h2
  have e : aloneD (nest true t 32) = (nest true t 32).deep := by rw [aloneD, if_pos ⟨h2, h1⟩]
  rw [e]
  refine ⟨?_, by omega, h3.2.1⟩
  have h4 := ba_nil h1
  generalize nest true t 32 = r at *
  obtain ⟨d, y, x⟩ := r
  simp only at h2 h4
  subst h2 h4
  rfl
/-- a table that has another one as its value -/
theorem make_deeper {t : ByteArray} (h : aloneE (nest true t 32) = 0) (hs : t.size ≤ 2097152) :
    makeE [⟨#[107]⟩] [⟨#[70]⟩ ++ t] = (if 32 < aloneD (nest true t 32) + 1 then 5 else 0) ∧
    (aloneD (nest true t 32) + 1 ≤ 32 → nest true (makeR [⟨#[107]⟩] [⟨#[70]⟩ ++ t]) 32 = ⟨aloneD (nest true t 32) + 1, ⟨#[]⟩, 0⟩ ∧ (makeR [⟨#[107]⟩] [⟨#[70]⟩ ++ t]).size ≤ t.size + 32) := by
  obtain ⟨h1, h2, h3⟩ := alone_deep h
  have ez : ([⟨#[107]⟩] : List ByteArray).zip ([⟨#[70]⟩ ++ t] : List ByteArray) = ([(⟨#[107]⟩, ⟨#[70]⟩ ++ t)] : Pairs) := rfl
  have el : ([⟨#[107]⟩] : List ByteArray).length = ([⟨#[70]⟩ ++ t] : List ByteArray).length := rfl
  have hv := val_table t
  have hp : pairE ⟨#[107]⟩ (⟨#[70]⟩ ++ t) = 0 := by rw [pairE, if_pos (by decide), hv, h]
  have he : pairsErr ([(⟨#[107]⟩, ⟨#[70]⟩ ++ t)] : Pairs) = 0 := by
    show (if pairE ⟨#[107]⟩ (⟨#[70]⟩ ++ t) = 0 then pairsErr [] else pairE ⟨#[107]⟩ (⟨#[70]⟩ ++ t)) = 0
    rw [if_pos hp]
    rfl
  have hd : pairsDeep ([(⟨#[107]⟩, ⟨#[70]⟩ ++ t)] : Pairs) = aloneD (nest true t 32) := by
    show max (aloneD (val (⟨#[70]⟩ ++ t) 32)) (pairsDeep []) = _
    rw [hv]
    have : pairsDeep [] = 0 := rfl
    omega
  have hsz := pairsBody_size ([(⟨#[107]⟩, ⟨#[70]⟩ ++ t)] : Pairs)
  have hts : totSz ([(⟨#[107]⟩, ⟨#[70]⟩ ++ t)] : Pairs) = t.size + 10 := by
    show (⟨#[107]⟩ : ByteArray).size + (⟨#[70]⟩ ++ t).size + 8 + totSz [] = _
    rw [ByteArray.size_append]
    have a1 : (⟨#[107]⟩ : ByteArray).size = 1 := rfl
    have a2 : (⟨#[70]⟩ : ByteArray).size = 1 := rfl
    have a3 : totSz [] = 0 := rfl
    omega
  have hk : layOk 4 (pairsBody ([(⟨#[107]⟩, ⟨#[70]⟩ ++ t)] : Pairs)) = true := by rw [layOk_four]; simp; omega
  have hE : makeE [⟨#[107]⟩] [⟨#[70]⟩ ++ t] = (if 32 < aloneD (nest true t 32) + 1 then 5 else 0) := by
    rw [makeE, if_pos el, ez, if_pos he, if_pos hk, hd]
  refine ⟨hE, fun hle => ?_⟩
  have h0 : makeE [⟨#[107]⟩] [⟨#[70]⟩ ++ t] = 0 := by rw [hE, if_neg (by omega)]
  have ht := make_taken h0 ⟨#[]⟩
  rw [ba_append_empty, ez, hd] at ht
  refine ⟨ht, ?_⟩
  rw [makeR, if_pos h0, ez]
  have := layR_le 4 (pairsBody ([(⟨#[107]⟩, ⟨#[70]⟩ ++ t)] : Pairs))
  omega

/-- two rows of one text each, laid just now -/
theorem two_rows (w : World) (a b : ByteArray) : Below w.heap.size w ((w.alloc (.cells #[.string a] 9)).alloc (.cells #[.string b] 9)) ∧
    ValsAt ((w.alloc (.cells #[.string a] 9)).alloc (.cells #[.string b] 9)) (some ⟨w.heap.size, 0, none⟩) ([a].map Value.string) ∧
    ValsAt ((w.alloc (.cells #[.string a] 9)).alloc (.cells #[.string b] 9)) (some ⟨w.heap.size + 1, 0, none⟩) ([b].map Value.string) := by
  refine ⟨((Below.refl _ w).alloc (Nat.le_refl _) _).alloc (by simp) _, fun _ => ⟨w.heap.size, 0, rfl, by simp; omega, fun i hi => ?_⟩, fun _ => ⟨w.heap.size + 1, 0, rfl, by simp, fun i hi => ?_⟩⟩
  · obtain rfl : i = 0 := by simp at hi; omega
    exact ((Boxed.new w 9 (.string a)).alloc _).cell
  · obtain rfl : i = 0 := by simp at hi; omega
    have h := Boxed.new (w.alloc (.cells #[.string a] 9)) 9 (.string b)
    rw [World.size_alloc] at h
    exact h.cell

set_option maxRecDepth 100000 in
set_option maxHeartbeats 2000000 in
theorem tableDeep_walk (t : ByteArray) (n : Int) (w : World) (hw : Wid w) (hs : t.size ≤ 1048576) :
    Calls Tryd.prog 6 #[.string t, .int .i64 n] w fun e w' => e = .returned (.bool true) ∧ Below w.heap.size w w' := by
  go_enter Tryd.func6, Tryd.ntmps6
  go_wp2_with fail
  refine (tabShown_any w hw).mono ?_
  rintro e w1 ⟨rfl, hb1⟩
  by_cases hn : n < 1
  · go_wp2
    go_ret
    exact ⟨rfl, hb1⟩
  · by_cases hn2 : 40 < n
    · go_wp2
      go_ret
      exact ⟨rfl, hb1⟩
    · go_wp2_with fail
      refine (tabDeep_any t w1 (hw.below hb1) (by omega)).mono ?_
      rintro e w2 ⟨rfl, hb2⟩
      have hb3 := hb1.trans (hb2.mono hb1.size)
      clear hb1 hb2
      by_cases hx : aloneE (nest true t 32) = 0
      · rw [hx]
        obtain ⟨-, d0, d1⟩ := alone_deep hx
        have HX := Lib.hid (And.intro hx (rfl : aloneD (nest true t 32) = aloneD (nest true t 32)))
        clear hx
        generalize hdd : aloneD (nest true t 32) = d at d0 d1 HX ⊢
        have HD := Lib.hid hdd
        clear hdd
        go_wp2
        go_loopw [8, 9] (fun b i wr => ∃ (k : ByteArray) (j : Int), b = .string k ∧ i = .int .i64 j ∧ 1 ≤ j ∧ j ≤ n + 1 ∧ k.size ≤ t.size + 32 * j.toNat ∧ d + j - 1 ≤ 32 ∧ Hid (aloneE (nest true k 32) = 0 ∧ aloneD (nest true k 32) = d + j - 1) ∧ Below w.heap.size w wr) (fun _ i _ => (n + 1 - intOf i).toNat)
        case atStart => exact ⟨t, 1, rfl, rfl, by omega, by omega, by omega, by omega, Lib.hid ⟨HX.out.1, by rw [HD.out]; omega⟩, hb3⟩
        case round =>
          obtain ⟨k, j, rfl, rfl, j0, j1, hk, hdj, HK, hbr⟩ := hrel
          by_cases hlt : j ≤ n
          · obtain ⟨m1, m2⟩ := make_deeper HK.out.1 (by omega)
            rw [HK.out.2] at m1 m2
            obtain ⟨q1, q2, q3⟩ := two_rows wr ⟨#[107]⟩ (⟨#[70]⟩ ++ k)
            have hsum : (⟨#[70]⟩ : ByteArray).size + k.size ≤ 9223372036854775807 := by have : (⟨#[70]⟩ : ByteArray).size = 1 := rfl; omega
            have htot : totSz (([⟨#[107]⟩] : List ByteArray).zip [⟨#[70]⟩ ++ k]) ≤ 70368744177664 := by
              show (⟨#[107]⟩ : ByteArray).size + (⟨#[70]⟩ ++ k).size + 8 + totSz [] ≤ _
              rw [ByteArray.size_append]
              have a1 : (⟨#[107]⟩ : ByteArray).size = 1 := rfl
              have a2 : (⟨#[70]⟩ : ByteArray).size = 1 := rfl
              have a3 : totSz [] = 0 := rfl
              omega
            have cc := make_any (some ⟨wr.heap.size, 0, none⟩) (some ⟨wr.heap.size + 1, 0, none⟩) 1 1 1 1 [⟨#[107]⟩] [⟨#[70]⟩ ++ k] _ (hw.below (hbr.trans (q1.mono hbr.size))) rfl rfl (by omega) q2 q3 htot
            have hbr1 := hbr.trans (q1.mono hbr.size)
            have M1 := Lib.hid m1
            have M2 := Lib.hid m2
            clear m1 m2 q1 q2 q3 htot HK
            generalize makeE [⟨#[107]⟩] [⟨#[70]⟩ ++ k] = me at cc M1
            generalize makeR [⟨#[107]⟩] [⟨#[70]⟩ ++ k] = mr at cc M2
            go_wp2_with fail
            refine cc.mono ?_
            rintro e w3 ⟨rfl, hb4⟩
            have hbr2 := hbr1.trans (hb4.mono hbr1.size)
            clear cc hb4 hbr1 hbr
            by_cases hdeep : 32 < d + j - 1 + 1
            · have e5 : me = 5 := by rw [M1.out, if_pos hdeep]
              subst e5
              clear M1 M2
              have t1 : 32 < d + j := by omega
              go_wp2
              go_ret
              exact ⟨rfl, hbr2⟩
            · have e0 : me = 0 := by rw [M1.out, if_neg hdeep]
              subst e0
              obtain ⟨g1, g2⟩ := M2.out (by omega)
              have g3 : aloneD (nest true mr 32) = d + j ∧ aloneE (nest true mr 32) = 0 := by
                rw [g1]
                refine ⟨?_, rfl⟩
                show (if (0 : Int) = 0 ∧ (⟨#[]⟩ : ByteArray).size = 0 then d + j - 1 + 1 else 0) = d + j
                rw [if_pos ⟨rfl, rfl⟩]
                omega
              have G3 := Lib.hid g3
              clear M1 M2 g1 g3
              go_wp2_with fail
              refine (tabDeep_any mr w3 (hw.below hbr2) (by omega)).mono ?_
              rintro e w4 ⟨rfl, hb5⟩
              rw [G3.out.1, G3.out.2]
              have hbr3 := hbr2.trans (hb5.mono hbr2.size)
              clear hb5 hbr2
              go_wp2
              go_roundw
              case rel => exact ⟨mr, j + 1, rfl, by go_num, by omega, by omega, by omega, by omega, Lib.hid ⟨G3.out.2, by rw [G3.out.1]; omega⟩, hbr3⟩
              case measure => simp [intOf]; omega
          · have t1 : d + n ≤ 32 := by omega
            clear HK
            go_wp2
            go_ret
            exact ⟨rfl, hbr⟩
      · have t1 : (aloneE (nest true t 32) != 0) = true := by simpa using hx
        clear hx
        generalize aloneD (nest true t 32) = d
        generalize aloneE (nest true t 32) = x at t1 ⊢
        go_wp2
        go_ret
        exact ⟨rfl, hb3⟩
end Go.Proofs.YtdgpemkoicoheaaDoor
