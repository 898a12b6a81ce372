/-
  The document's own both, Keys and Find of interchangeref03 answer as the program's do; nothing that was there is changed. Conditions: texts of fewer than 2^62 bytes.
-/
import Derived.Test.YtdgpemkoicoheaaDoorRTabD
import Derived.Test.YtdgpemkoicoheaaDoorWTabS
import Derived.Test.YtdgpemkoicoheaaDoorMStr
import Derived.Test.YtdgpemkoicoheaaDoorPTabLaw
namespace Go.Proofs.YtdgpemkoicoheaaDoor
open Go.RowKit

/-- two slices share no row -/
def Apart (k v : Value) : Prop := ∀ g, k.ownBlock = some g → v.ownBlock ≠ some g
theorem Apart.symm {k v : Value} (h : Apart k v) : Apart v k := fun g hv hk => h g hk hv
theorem Apart.kept {k v : Value} (h : Apart k v) : v.ownBlock = none ∨ v.ownBlock ≠ k.ownBlock := by
  cases hk : k.ownBlock with
  | none => cases hv : v.ownBlock with
    | none => exact .inl rfl
    | some g => exact .inr (by simp)
  | some g => exact .inr (h g hk)
theorem Apart.grow {w : World} {base n : Nat} {e : TypeId} {k k' v : Value} {xs : List Value} (h : Apart k v) (hv : w.ownsRow base e 1 v n xs) (hk : k'.ownBlock = k.ownBlock ∨ k'.ownBlock = some w.heap.size) : Apart k' v := by
  intro g hg hv'
  rcases hk with e | e
  · exact h g (e ▸ hg) hv'
  · rw [e] at hg
    cases hg
    have := (hv.lt _ hv').2
    omega

/-- a table's fields, of the bytes behind its length -/
theorem alone_body {t : ByteArray} (h : aloneE (nest true t 32) = 0) : t.extract 4 t.size = ttA 4 t ∧ 4 ≤ t.size := by
  obtain ⟨hok, -, h3, h4⟩ := alone_enter h
  obtain ⟨-, -, -, h5, -⟩ := enOk_of hok
  have hr : (nest true t 32).rest = ttR 4 t := by
    by_cases hi : (items true (ttA 4 t) (32 - 1)).2 = 0
    · rw [nest_ok hok hi]
    · have := h4
      rw [nest_bad hok hi] at this
      simp only [wErr] at this
      split at this
      · cases this
      · exact absurd this hi
  rw [hr] at h3
  have hn := ba_nil h3
  obtain ⟨h6, h7⟩ := ttOk_parts h5
  have h8 := ttA_ttR h5
  rw [hn, ba_append_empty, takeR, if_pos h6] at h8
  have h9 := (takeOk_w h6).2
  exact ⟨h8.symm, by omega⟩
/-- one field more -/
theorem items_step {r : ByteArray} (h0 : r.size ≠ 0) (h : (items true r 31).2 = 0) :
    ttOk 1 r = true ∧ (val (ttR 1 r) 32).err = 0 ∧ (val (ttR 1 r) 32).rest.size + 2 ≤ r.size ∧
    items true r 31 = (⟨ttA 1 r, takenA (ttR 1 r) (val (ttR 1 r) 32), (val (ttR 1 r) 32).deep⟩ :: (items true (val (ttR 1 r) 32).rest 31).1, (items true (val (ttR 1 r) 32).rest 31).2) := by
  rcases Bool.eq_false_or_eq_true (ttOk 1 r) with hk | hk
  rotate_left
  · rw [items_key r 31 h0 hk, ttE_one hk] at h; cases h
  · by_cases hv : (val (behindKey true r) 31).err = 0
    · obtain ⟨g1, g2, a, g3, g4⟩ := val_good (behindKey true r) 31 hv
      have e32 := g4 (val (behindKey true r) 31).rest 32 (by omega)
      rw [← g3] at e32
      have hi := items_go true h0 (by simp [hk]) hv
      have hlt := val_rest hv
      have hsz := tt_sizes hk
      have hA := Int.natCast_nonneg (ttA 1 r).size
      rw [behindKey_true] at *
      rw [e32]
      refine ⟨hk, rfl, by simp only; omega, ?_⟩
      rw [hi]
      rfl
    · rw [items_err true h0 (by simp [hk]) hv] at h; exact absurd h hv

set_option maxRecDepth 100000 in
set_option maxHeartbeats 4000000 in
theorem rboth_any (t : ByteArray) (w : World) (hs : t.size < 4611686018427387904) (hx : aloneE (nest true t 32) = 0) :
    Calls Tryd.prog 28 #[.string t] w fun e w' => ∃ k v, e = .returned (.tuple #[k, v]) ∧ w'.ownsRow w.heap.size 9 1 k (tabItems t).length ((tabItems t).map (fun i => Value.string i.key)) ∧ w'.ownsRow w.heap.size 9 1 v (tabItems t).length ((tabItems t).map (fun i => Value.string i.value)) ∧ Below w.heap.size w w' := by
  obtain ⟨hb0, h4⟩ := alone_body hx
  obtain ⟨-, g1, -, -⟩ := alone_enter hx
  have g4 := ttA_four_lt t
  have HI := Lib.hid (show tabItems t = (items true (ttA 4 t) 31).1 from rfl)
  obtain ⟨i0, hi, hz0, hz1, hz2⟩ := info_parts infoText
  go_enter Tryd.func28, Tryd.ntmps28
  go_wp2
  generalize ttA 4 t = body at g1 g4 HI ⊢
  clear hb0 hx
  have HG := Lib.hid g1
  clear g1
  go_loopw [4, 5, 6] (fun p k v wr => ∃ (pre : List Item) (r : ByteArray), p = .string r ∧ pre.length + r.size ≤ body.size ∧ Hid (items true body 31 = (pre ++ (items true r 31).1, (items true r 31).2)) ∧ wr.ownsRow w.heap.size 9 1 k pre.length (pre.map (fun i => Value.string i.key)) ∧ wr.ownsRow w.heap.size 9 1 v pre.length (pre.map (fun i => Value.string i.value)) ∧ Apart k v ∧ Below w.heap.size w wr) (fun p _ _ _ => tabLen p)
  case atStart => exact ⟨[], body, rfl, by simp, Lib.hid rfl, World.ownsRow_nil _ _ _ _, World.ownsRow_nil _ _ _ _, (fun g hg => by cases hg), Below.refl _ _⟩
  case round =>
    obtain ⟨pre, r, rfl, hlen, HX, hk, hv, hap, hbr⟩ := hrel
    by_cases hz : r.size = 0
    · have H : Hid ((items true body 31).1 = pre) := Lib.hid (by have := HX.out; rw [items_nil true 31 hz] at this; rw [this]; simp)
      clear HX
      go_wp2
      go_ret2
      refine ⟨_, _, rfl, ?_, ?_, hbr⟩
      · rw [HI.out, H.out]; exact hk
      · rw [HI.out, H.out]; exact hv
    · have hpos : 0 < r.size := by omega
      have hi2 : (items true r 31).2 = 0 := by have := HG.out; rw [HX.out] at this; exact this
      obtain ⟨k1, k2, k3, k4⟩ := items_step hz hi2
      have hle := ttR_le 1 r
      have HY : Hid (items true body 31 = ((pre ++ [⟨ttA 1 r, takenA (ttR 1 r) (val (ttR 1 r) 32), (val (ttR 1 r) 32).deep⟩]) ++ (items true (takenB (val (ttR 1 r) 32)) 31).1, (items true (takenB (val (ttR 1 r) 32)) 31).2)) := Lib.hid (by
        rw [HX.out, k4, takenB, if_pos k2]
        simp)
      have k3' : (takenB (val (ttR 1 r) 32)).size + 2 ≤ r.size := by rw [takenB, if_pos k2]; exact k3
      go_wp2_with fail
      refine (rtakeShort_any r _ (by omega)).mono ?_
      rintro e w1 ⟨rfl, hb1⟩
      have hbr1 := hbr.trans (hb1.mono hbr.size)
      have hk1 := hk.kept (grown_of_below hb1 none) (by cases hq : Value.ownBlock _ <;> simp)
      have hv1 := hv.kept (grown_of_below hb1 none) (by cases hq : Value.ownBlock _ <;> simp)
      clear hk hv hb1 hbr HX k4 hi2 k3
      go_wp2_with fail
      refine (rtabValue_any (ttR 1 r) _ (by omega)).mono ?_
      rintro e w2 ⟨rfl, hb2⟩
      have hbr2 := hbr1.trans (hb2.mono hbr1.size)
      have hk2 := hk1.kept (grown_of_below hb2 none) (by cases hq : Value.ownBlock _ <;> simp)
      have hv2 := hv1.kept (grown_of_below hb2 none) (by cases hq : Value.ownBlock _ <;> simp)
      clear hk1 hv1 hb2 hbr1
      rw [ttE_of k1]
      generalize (val (ttR 1 r) 32).err = xe at k2 ⊢
      generalize takenA (ttR 1 r) (val (ttR 1 r) 32) = val1 at HY ⊢
      generalize takenB (val (ttR 1 r) 32) = rest at HY k3' ⊢
      generalize (val (ttR 1 r) 32).deep = dd at HY
      generalize ttA 1 r = key1 at HY ⊢
      generalize ttR 1 r = rr at hle ⊢
      clear k1 k2
      have hw2 := hbr2.size
      have tok1 : True := trivial
      have tok2 : True := trivial
      go_wp2_with (first
        | (at_builtin; have _t := tok1; refine wpList_append_own_at _ rfl _ _ 28 rfl w.heap.size 9 i0 (.string ⟨#[]⟩) 1 16 Tryd.underlying28 hi hz0 hz1 hz2 rfl (by decide) u5 _ _ rfl (hk2.alloc _) ⟨w2.heap.size, 0, none⟩ 1 1 [.string key1] rfl rfl (cell_one_new _ _ _) (by simp [Value.oneCell']) (by unfold maxLen; omega) (by omega) (by simp; omega) ?_; intro k' w3 hk3 hg3 _ hloc3; have hv3 := (hv2.alloc (.cells #[.string key1] 9)).kept hg3 hap.kept; have hap3 := hap.grow (hv2.alloc (.cells #[.string key1] 9)) hloc3; have hbr3 := (hbr2.alloc hw2 (.cells #[.string key1] 9)).grown hg3 (by simp; omega) (fun q hq => ((hk2.alloc (.cells #[.string key1] 9)).lt q hq).1); have hw3 := hbr3.size; clear tok1)
        | (at_builtin; have _t := tok2; refine wpList_append_own_at _ rfl _ _ 28 rfl w.heap.size 9 i0 (.string ⟨#[]⟩) 1 16 Tryd.underlying28 hi hz0 hz1 hz2 rfl (by decide) u6 _ _ rfl (hv3.alloc _) ⟨w3.heap.size, 0, none⟩ 1 1 [.string val1] rfl rfl (cell_one_new _ _ _) (by simp [Value.oneCell']) (by unfold maxLen; omega) (by omega) (by simp; omega) ?_; intro v' w4 hv4 hg4 _ hloc4; have hk4 := (hk3.alloc (.cells #[.string val1] 9)).kept hg4 hap3.symm.kept; have hap4 := (hap3.symm.grow (hk3.alloc (.cells #[.string val1] 9)) hloc4).symm; have hbr4 := (hbr3.alloc hw3 (.cells #[.string val1] 9)).grown hg4 (by simp; omega) (fun q hq => ((hv3.alloc (.cells #[.string val1] 9)).lt q hq).1); clear tok2))
      go_roundw
      case rel =>
        refine ⟨pre ++ [⟨key1, val1, dd⟩], rest, rfl, by simp; omega, HY, ?_, ?_, hap4, hbr4⟩
        · simpa using hk4
        · simpa using hv4
      case measure => simp only [tabLen]; omega
theorem rkeys_any (t : ByteArray) (w : World) (hs : t.size < 4611686018427387904) :
    Calls Tryd.prog 16 #[.string t] w fun e w' => ∃ v, e = .returned (.tuple #[v, .int .i64 (aloneE (nest true t 32))]) ∧ w'.ownsRow w.heap.size 9 1 v (tabFs t).length ((tabFs t).map (fun i => Value.string i.key)) ∧ Below w.heap.size w w' := by
  go_enter Tryd.func16, Tryd.ntmps16
  go_wp2_with fail
  refine (rtabDeep_any t w hs).mono ?_
  rintro e w1 ⟨rfl, hb⟩
  by_cases hx : aloneE (nest true t 32) = 0
  · have HF := Lib.hid (And.intro hx (show tabFs t = tabItems t by rw [tabFs, if_pos hx]))
    rw [hx]
    generalize aloneD (nest true t 32) = d
    go_wp2_with fail
    refine (rboth_any t w1 hs hx).mono ?_
    rintro e w2 ⟨k, v, rfl, hk, -, hb2⟩
    clear hx
    go_wp2
    go_ret2
    refine ⟨k, by rw [HF.out.1]; rfl, ?_, hb.trans (hb2.mono hb.size)⟩
    rw [HF.out.2]
    exact hk.mono hb.size
  · have HF := Lib.hid (show tabFs t = [] by rw [tabFs, if_neg hx])
    have t1 : (aloneE (nest true t 32) != 0) = true := by simpa using hx
    clear hx
    generalize aloneD (nest true t 32) = d
    generalize hxx : aloneE (nest true t 32) = x at t1 ⊢
    have HX := Lib.hid hxx
    clear hxx
    go_wp2
    go_ret2
    refine ⟨_, by rw [HX.out]; rfl, ?_, hb⟩
    rw [HF.out]
    exact World.ownsRow_nil _ _ _ _

theorem find_step_none {l : List Item} {key : ByteArray} {k : Nat} (h : k < l.length) (h0 : ∀ i ∈ l.take k, (i.key.toList == key.toList) = false) (h1 : (l[k].key.toList == key.toList) = false) : ∀ i ∈ l.take (k + 1), (i.key.toList == key.toList) = false := by
  rw [List.take_succ_eq_append_getElem h]
  intro i hi
  rcases List.mem_append.1 hi with h2 | h2
  · exact h0 i h2
  · rw [List.mem_singleton.1 h2]; exact h1
theorem find_here {l : List Item} {key : ByteArray} {k : Nat} (h : k < l.length) (h0 : ∀ i ∈ l.take k, (i.key.toList == key.toList) = false) (h1 : (l[k].key.toList == key.toList) = true) : findB l key = true ∧ findV l key = l[k].value := by
  refine find_at (a := l.take k) (b := l.drop (k + 1)) ?_ h0 h1
  rw [← List.drop_eq_getElem_cons h, List.take_append_drop]
set_option maxHeartbeats 2000000 in
theorem rfind_any (t key : ByteArray) (w : World) (hs : t.size < 4611686018427387904) :
    Calls Tryd.prog 20 #[.string t, .string key] w fun e w' => e = .returned (.tuple #[.string (findV (tabFs t) key), .bool (findB (tabFs t) key)]) ∧ Below w.heap.size w w' := by
  go_enter Tryd.func20, Tryd.ntmps20
  go_wp2_with fail
  refine (rtabDeep_any t w hs).mono ?_
  rintro e w1 ⟨rfl, hb⟩
  by_cases hx : aloneE (nest true t 32) = 0
  · have HF := Lib.hid (show tabFs t = tabItems t by rw [tabFs, if_pos hx])
    have hlen : (tabItems t).length < 4294967296 := by
      have h1 := items_length 31 _ (ttA 4 t) (Nat.le_refl _)
      have h2 := ttA_four_lt t
      unfold tabItems
      omega
    rw [hx]
    generalize aloneD (nest true t 32) = d
    go_wp2_with fail
    refine (rboth_any t w1 hs hx).mono ?_
    rintro e w2 ⟨k, v, rfl, hk, hv, hb2⟩
    have hb3 := hb.trans (hb2.mono hb.size)
    clear hx hb hb2
    obtain ⟨A1, c1, rfl, hva⟩ := vals_of_row hk
    obtain ⟨A2, c2, rfl, hvb⟩ := vals_of_row hv
    clear hk hv
    generalize tabItems t = l at hlen hva hvb HF ⊢
    go_wp2
    go_loop [10] (fun i => ∃ k : Nat, k ≤ l.length ∧ i = .int .i64 k ∧ Hid (∀ i ∈ l.take k, (i.key.toList == key.toList) = false)) (fun i => l.length - (intOf i).toNat)
    case atStart => exact ⟨0, Nat.zero_le _, rfl, Lib.hid (fun _ h => by cases h)⟩
    case round =>
      obtain ⟨k, hk, rfl, HY⟩ := hrel
      by_cases hlt : k < l.length
      · obtain ⟨b1, o1, rfl, l1, g1⟩ := hva (by simp; omega)
        obtain ⟨b2, o2, rfl, l2, g2⟩ := hvb (by simp; omega)
        have p1 := g1 k (by simpa using hlt)
        have p2 := g2 k (by simpa using hlt)
        rw [List.getElem_map] at p1 p2
        have HS := Lib.hid (fun h => find_step_none hlt HY.out h)
        have HH := Lib.hid (fun h => find_here hlt HY.out h)
        clear g1 g2 hva hvb HY
        generalize l[k].key = kk at p1 HS HH
        generalize l[k].value = vv at p2 HH
        cases hq : (kk.toList == key.toList)
        · have HZ := Lib.hid (HS.out hq)
          clear HS HH
          go_wp2
          go_round
          case rel => exact ⟨k + 1, by omega, by go_num, HZ⟩
          case measure => simp [intOf]; omega
        · have HZ := Lib.hid (HH.out hq)
          clear HS HH
          go_wp2
          go_ret2
          refine ⟨?_, hb3⟩
          rw [HF.out, HZ.out.1, HZ.out.2]
          rfl
      · obtain rfl : k = l.length := by omega
        have HZ : Hid (findB l key = false ∧ findV l key = ⟨#[]⟩) := Lib.hid (by
          have := HY.out
          rw [List.take_length] at this
          exact find_none this)
        clear HY
        go_wp2
        go_ret2
        refine ⟨?_, hb3⟩
        rw [HF.out, HZ.out.1, HZ.out.2]
        rfl
  · have HF := Lib.hid (show tabFs t = [] by rw [tabFs, if_neg hx])
    have t1 : (aloneE (nest true t 32) != 0) = true := by simpa using hx
    clear hx
    generalize aloneD (nest true t 32) = d
    generalize aloneE (nest true t 32) = x at t1 ⊢
    go_wp2
    go_ret2
    refine ⟨?_, hb⟩
    rw [HF.out]
    rfl
end Go.Proofs.YtdgpemkoicoheaaDoor
