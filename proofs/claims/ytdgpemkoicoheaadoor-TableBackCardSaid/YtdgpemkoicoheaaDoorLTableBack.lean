/-
  interchangelaw03.TableBack answers true; nothing that was there is changed. Conditions: the package num's table of widths holds 1, 2, 4, 8; keys and values of at most 1048576 bytes each in all, a text of at most 1048576 bytes.
-/
import Derived.Test.YtdgpemkoicoheaaDoorWTabShown
import Derived.Test.YtdgpemkoicoheaaDoorPTabLaw
import Derived.Test.YtdgpemkoicoheaaDoorRStrings
import Derived.Test.YtdgpemkoicoheaaDoorGStr
namespace Go.Proofs.YtdgpemkoicoheaaDoor
open Go.RowKit

theorem totSz_bulk : ∀ (ks vs : List ByteArray), totSz (ks.zip vs) ≤ 9 * strBulk ks + strBulk vs
  | [], vs => by simp [totSz]
  | k :: ks, [] => by simp [totSz]
  | k :: ks, v :: vs => by
    have := totSz_bulk ks vs
    simp only [List.zip_cons_cons, totSz, strBulk]
    omega
theorem strBulk_length (l : List ByteArray) : l.length ≤ strBulk l := by
  induction l with
  | nil => exact Nat.zero_le _
  | cons s l ih => simp only [List.length_cons, strBulk]; omega
theorem makeR_bulk (ks vs : List ByteArray) : (makeR ks vs).size ≤ 9 * strBulk ks + strBulk vs + 8 := by
  unfold makeR
  split
  · have h1 := layR_le 4 (pairsBody (ks.zip vs))
    have h2 := pairsBody_size (ks.zip vs)
    have h3 := totSz_bulk ks vs
    omega
  · exact Nat.zero_le _
theorem makeR_bad {ks vs : List ByteArray} (h : makeE ks vs ≠ 0) : makeR ks vs = ⟨#[]⟩ := by rw [makeR, if_neg h]
theorem pairsItems_keys {ks vs : List ByteArray} (h : ks.length = vs.length) : (pairsItems (ks.zip vs)).map (fun i => i.key) = ks := by
  rw [pairsItems, List.map_map]
  exact zip_keys h
theorem find_pairs {ks vs : List ByteArray} {i : Nat} (hl : ks.length = vs.length) (hi : i < ks.length) (hv : i < vs.length) (h : ∀ n, n < i → ∀ (hn2 : n < ks.length), (ks[n].toList == ks[i].toList) = false) :
    findB (pairsItems (ks.zip vs)) ks[i] = true ∧ findV (pairsItems (ks.zip vs)) ks[i] = vs[i] := by
  have hlen : (pairsItems (ks.zip vs)).length = ks.length := by rw [pairsItems, List.length_map, List.length_zip]; omega
  have hget : ∀ n (hn : n < (pairsItems (ks.zip vs)).length), (pairsItems (ks.zip vs))[n].key = ks[n]'(by omega) ∧ (pairsItems (ks.zip vs))[n].value = vs[n]'(by omega) := by
    intro n hn
    simp [pairsItems]
  have hi' : i < (pairsItems (ks.zip vs)).length := by omega
  have hsplit : pairsItems (ks.zip vs) = (pairsItems (ks.zip vs)).take i ++ (pairsItems (ks.zip vs))[i] :: (pairsItems (ks.zip vs)).drop (i + 1) := by
    rw [← List.drop_eq_getElem_cons hi', List.take_append_drop]
  have := find_at (key := ks[i]) hsplit ?_ ?_
  · rw [(hget i hi').2] at this
    exact this
  · intro x hx
    obtain ⟨n, hn, rfl⟩ := List.getElem_of_mem hx
    rw [List.length_take] at hn
    rw [List.getElem_take, (hget n (by omega)).1]
    exact h n (by omega) (by omega)
  · rw [(hget i hi').1]
    simp

set_option maxRecDepth 100000 in
set_option maxHeartbeats 1000000 in
theorem tableBack_walk (A1 A2 : Option Addr) (c1 c2 : Nat) (ks vs : List ByteArray) (more : ByteArray) (i : Int) (w : World) (hw : Wid w) (h1 : ValsAt w A1 (ks.map Value.string)) (h2 : ValsAt w A2 (vs.map Value.string))
    (hk : strBulk ks ≤ 1048576) (hv : strBulk vs ≤ 1048576) (hm : more.size ≤ 1048576) :
    Calls Tryd.prog 4 #[.agg #[.slice A1 ks.length c1, .slice A2 vs.length c2, .string more, .int .i64 i]] w fun e w' => e = .returned (.bool true) ∧ Below w.heap.size w w' := by
  have hkl := strBulk_length ks
  have hvl := strBulk_length vs
  have htb := totSz_bulk ks vs
  have hrb := makeR_bulk ks vs
  have hb0 : Below w.heap.size w (w.alloc (.cells #[.slice A1 ks.length c1, .slice A2 vs.length c2, .string more, .int .i64 i] 42)) := (Below.refl _ _).alloc (Nat.le_refl _) _
  go_enter Tryd.func4, Tryd.ntmps4
  go_wp2_with fail
  refine (tabShown_any _ (hw.below hb0)).mono ?_
  rintro e w1 ⟨rfl, hb'⟩
  have hb := hb0.trans (hb'.mono hb0.size)
  clear hb' hb0
  by_cases h60 : 60 < ks.length
  · go_wp2
    go_ret
    exact ⟨rfl, hb⟩
  · have k1 := h1.below hb
    have k2 := h2.below hb
    clear h1 h2
    go_wp2_with fail
    refine (make_any A1 A2 c1 c2 ks.length vs.length ks vs w1 (hw.below hb) rfl rfl (by omega) k1 k2 (by omega)).mono ?_
    rintro e w2 ⟨rfl, hb'⟩
    replace k1 := k1.below hb'
    replace k2 := k2.below hb'
    replace hb := hb.trans (hb'.mono hb.size)
    clear hb'
    by_cases hx : makeE ks vs = 0
    · have hmt := make_taken hx more
      have hmt0 := make_taken hx ⟨#[]⟩
      rw [ba_append_empty] at hmt0
      have hmi := make_items hx
      obtain ⟨hll, -, -, -, -⟩ := makeE_zero hx
      have hmk := pairsItems_keys hll
      have HFP := Lib.hid (fun i hi hv h => find_pairs (ks := ks) (vs := vs) (i := i) hll hi hv h)
      have HL := Lib.hid hll
      clear hll
      rw [hx]
      generalize makeR ks vs = t at hrb hmt hmt0 hmi ⊢
      have eA : takenA (t ++ more) (nest true (t ++ more) 32) = t := by rw [hmt, takenA, if_pos rfl]; exact front_append t more
      have eB : takenB (nest true (t ++ more) 32) = more := by rw [hmt]; rfl
      have eE : (nest true (t ++ more) 32).err = 0 := by rw [hmt]
      have eK : aloneE (nest true t 32) = 0 := by rw [hmt0]; rfl
      have hsum : t.size + more.size ≤ 9223372036854775807 := by omega
      have hts : (t ++ more).size < 4611686018427387904 := by rw [ByteArray.size_append]; omega
      have ct := fun w hw => tabTake_any (t ++ more) w hw hts
      rw [eA, eB, eE] at ct
      clear hmt hmt0 eA eB eE hx hts
      go_wp2_with fail
      refine (ct w2 (hw.below hb)).mono ?_
      rintro e w3 ⟨rfl, hb'⟩
      replace k1 := k1.below hb'
      replace k2 := k2.below hb'
      replace hb := hb.trans (hb'.mono hb.size)
      clear hb' ct
      go_wp2_with fail
      refine (tabKeys_fs t w3 (hw.below hb) (by omega)).mono ?_
      rintro e w4 ⟨v, rfl, hrow, hb'⟩
      rw [eK]
      obtain ⟨A3, c3, rfl, hva⟩ := vals_of_row hrow
      replace k1 := k1.below hb'
      replace k2 := k2.below hb'
      replace hb := hb.trans (hb'.mono hb.size)
      clear hb' hrow
      have em : (tabFs t).map (fun i => Value.string i.key) = ks.map Value.string := by
        rw [hmi]
        have : (fun i : Item => Value.string i.key) = Value.string ∘ (fun i => i.key) := rfl
        rw [this, ← List.map_map, hmk]
      have el : (tabFs t).length = ks.length := by
        have := congrArg List.length em
        simpa using this
      rw [em] at hva
      rw [el]
      have cs := strings_same A3 A1 c3 c1 ks w4 (by omega) hva k1
      clear em el hva
      go_wp2_with fail
      refine cs.mono ?_
      rintro e w5 ⟨rfl, hb'⟩
      replace k1 := k1.below hb'
      replace k2 := k2.below hb'
      replace hb := hb.trans (hb'.mono hb.size)
      clear hb' cs
      have hne : ((vs.length : Int) == (ks.length : Int)) = true := by rw [HL.out]; simp
      have hnn : ((vs.length : Int) != (ks.length : Int)) = false := by rw [HL.out]; simp
      by_cases hi : 0 ≤ i ∧ i < ks.length
      · obtain ⟨hi0, hi1⟩ := hi
        obtain ⟨j, rfl⟩ := Int.eq_ofNat_of_zero_le hi0
        have hj : j < ks.length := by omega
        have hjv : j < vs.length := by have := HL.out; omega
        obtain ⟨b1, o1, rfl, l1, g1⟩ := k1 (by simp; omega)
        obtain ⟨b2, o2, rfl, l2, g2⟩ := k2 (by simp; omega)
        have pk : ∀ n (hn : n < ks.length), w5.cell? ⟨b1, o1 + n, none⟩ = some (.string ks[n]) := by
          intro n hn
          have := g1 n (by simpa using hn)
          rwa [List.getElem_map] at this
        have pv := g2 j (by simpa using hjv)
        rw [List.getElem_map] at pv
        have pj := pk j hj
        have HPK := Lib.hid pk
        have HW := HFP.out j hj hjv
        have HFF : Hid ((∀ n, n < j → ∀ (hn2 : n < ks.length), (ks[n].toList == ks[j].toList) = false) → findB (tabFs t) ks[j] = true ∧ findV (tabFs t) ks[j] = vs[j]) := Lib.hid (by rw [hmi]; exact HW)
        clear g1 g2 k1 k2 HFP hmi hmk HW pk
        go_wp2
        go_loopw [16] (fun q wr => ∃ n : Nat, n ≤ j ∧ q = .int .i64 n ∧ Hid (∀ m (hm : m < n) (hm2 : m < ks.length), (ks[m].toList == ks[j].toList) = false) ∧ Below w5.heap.size w5 wr) (fun q _ => j - (intOf q).toNat)
        case atStart => exact ⟨0, Nat.zero_le _, rfl, Lib.hid (fun m hm => absurd hm (by omega)), Below.refl _ _⟩
        case round =>
          obtain ⟨n, hn, rfl, HN, hbr⟩ := hrel
          have pj' := (hbr.cell (p := ⟨b1, o1 + j, none⟩) l1).trans pj
          by_cases hlt : n < j
          · have hnk : n < ks.length := by omega
            have pn := (hbr.cell (p := ⟨b1, o1 + n, none⟩) l1).trans (HPK.out n hnk)
            have HS : Hid ((ks[n].toList == ks[j].toList) = false → ∀ m (hm : m < n + 1) (hm2 : m < ks.length), (ks[m].toList == ks[j].toList) = false) := Lib.hid (fun h m hm hm2 => by
              rcases Nat.lt_or_ge m n with h1 | h1
              · exact HN.out m h1 hm2
              · obtain rfl : m = n := by omega
                exact h)
            generalize ks[n] = kn at pn HS
            cases hq : (kn.toList == ks[j].toList)
            · have HZ := Lib.hid (HS.out hq)
              clear HS HN
              generalize ks[j] = kj at *
              go_wp2
              go_quiet (fail)
              go_wp2
              go_roundw
              case rel => exact ⟨n + 1, by omega, by go_num, HZ, below_drewN hbr _⟩
              case measure => simp [intOf]; omega
            · clear HS HN
              generalize ks[j] = kj at *
              go_wp2
              go_quiet (fail)
              go_wp2
              go_ret
              exact ⟨rfl, hb.trans ((below_drewN hbr _).mono hb.size)⟩
          · obtain rfl : n = j := by omega
            obtain ⟨f1, f2⟩ := HFF.out (fun m hm hm2 => HN.out m hm hm2)
            have pv' := (hbr.cell (p := ⟨b2, o2 + n, none⟩) l2).trans pv
            have hb2 := hb.trans (hbr.mono hb.size)
            clear HN HFF
            go_wp2_with fail
            refine (tabFind_any t _ _ (hw.below hb2) (by omega)).mono ?_
            rintro e w6 ⟨rfl, hb'⟩
            rw [f1, f2]
            have pv6 := (hb'.cell (p := ⟨b2, o2 + n, none⟩) (by have := hbr.size; simp; omega)).trans pv'
            have hb3 := hb2.trans (hb'.mono hb2.size)
            clear hb' f1 f2 pv pv'
            generalize vs[n] = vn at *
            go_wp2
            go_ret
            exact ⟨rfl, hb3⟩
      · clear k1 k2 HFP
        rcases (by omega : i < 0 ∨ (ks.length : Int) ≤ i ∧ ¬ i < 0) with t1 | ⟨t1, t2⟩
        · go_wp2
          go_ret
          exact ⟨rfl, hb⟩
        · go_wp2
          go_ret
          exact ⟨rfl, hb⟩
    · rw [makeR_bad hx]
      have t1 : (makeE ks vs != 0) = true := by simpa using hx
      clear hx k1 k2 hrb
      generalize makeE ks vs = x at t1 ⊢
      go_wp2
      go_ret
      exact ⟨rfl, hb⟩
end Go.Proofs.YtdgpemkoicoheaaDoor
