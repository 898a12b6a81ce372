/-
  Whole methods as bytes, and out of bytes: a right method is taken as it was, with anything behind it none is; what is taken is right, and laid as it was. No condition.
-/
import Derived.Test.YtmpfkommeakgbaaDoorPMeth
namespace Go.Proofs.YtmpfkommeakgbaaDoor

theorem layEr_cons {c : UInt8} {ls : List UInt8} {v : MV} {l : List MV} (h : layEr (c :: ls) (v :: l) = 0) : vE c v = 0 ∧ layEr ls l = 0 := by
  unfold layEr at h
  by_cases g : vE c v = 0
  · rw [if_pos g] at h; exact ⟨g, h⟩
  · rw [if_neg g] at h; exact absurd h g
theorem layEr_mk {c : UInt8} {ls : List UInt8} {v : MV} {l : List MV} (h1 : vE c v = 0) (h2 : layEr ls l = 0) : layEr (c :: ls) (v :: l) = 0 := by
  unfold layEr
  rw [if_pos h1, h2]
theorem layEr_drop : ∀ (k : Nat) (ls : List UInt8) (l : List MV), layEr ls l = 0 → layEr (ls.drop k) (l.drop k) = 0
  | 0, _, _, h => h
  | _ + 1, [], _, _ => by simp [layEr]
  | _ + 1, _ :: _, [], _ => by simp [layEr]
  | k + 1, _ :: ls, _ :: l, h => layEr_drop k ls l (layEr_cons h).2
theorem bit_right {v : MV} (h0 : 0 ≤ v.n) (h : vE 98 v = 0) : bitV (v.n == 1) = v := by
  obtain ⟨n, s⟩ := v
  unfold vE at h
  rw [if_pos rfl] at h
  by_cases g : 1 < n
  · rw [if_pos g] at h; cases h
  · rw [if_neg g] at h
    by_cases g2 : s.size = 0
    · have h0' : 0 ≤ n := h0
      rw [ba_empty g2]
      have : n = 0 ∨ n = 1 := by omega
      rcases this with rfl | rfl <;> rfl
    · rw [if_neg g2] at h; cases h
theorem run_right : ∀ (ls : List UInt8) (l : List MV), ls.length = l.length → (∀ v ∈ l, 0 ≤ v.n) → layEr ls l = 0 → ((l.take (nb ls)).map (fun v => v.n == 1)).map bitV = l.take (nb ls)
  | [], _, _, _, _ => by simp [nb]
  | c :: ls, v :: l, hl, hw, h => by
    unfold nb
    by_cases hc : c = 98
    · rw [if_pos hc]
      subst hc
      obtain ⟨h1, h2⟩ := layEr_cons h
      have ih := run_right ls l (by simpa using hl) (fun v hv => hw v (List.mem_cons_of_mem _ hv)) h2
      rw [List.take_succ_cons, List.map_cons, List.map_cons, ih, bit_right (hw v (List.mem_cons_self ..)) h1]
    · rw [if_neg hc]; rfl
theorem tk_nil (s : ByteArray) : tk [] s = some ([], s) := by rw [tk]
theorem tk_one {c : UInt8} (hc : ¬ c = 98) (ls : List UInt8) (s : ByteArray) : tk (c :: ls) s = if oE c s = 0 then (tk ls (oR c s)).map fun x => (oV c s :: x.1, x.2) else none := by
  rw [tk, if_neg hc]
theorem tk_bits (ls : List UInt8) (s : ByteArray) : tk (98 :: ls) s = if tbE s ((nb ls + 1 : Nat) : Int) = 0 then (tk (ls.drop (nb ls)) (tbR s ((nb ls + 1 : Nat) : Int))).map fun x => ((bitsOf s (nb ls + 1)).map bitV ++ x.1, x.2) else none := by
  rw [tk, if_pos rfl]
/-- what was laid is taken -/
theorem tk_back : ∀ (n : Nat) (ls : List UInt8) (l : List MV), ls.length ≤ n → ls.length ≤ 64 → ls.length = l.length → (∀ v ∈ l, 0 ≤ v.n) → layEr ls l = 0 → ∀ more, tk ls (layBy ls l [] ++ more) = some (l, more)
  | _, [], [], _, _, _, _, _, more => by rw [tk_nil, layBy_nil, bitsS_nil, ba_e_append]
  | 0, _ :: _, _, hn, _, _, _, _, _ => by simp at hn
  | n + 1, c :: ls, v :: l, hn, h64, hl, hw, h, more => by
    have hl' : ls.length = l.length := by simpa using hl
    have hn' : ls.length ≤ n := by simpa using hn
    have h64' : ls.length ≤ 63 := by simpa using h64
    obtain ⟨h1, h2⟩ := layEr_cons h
    by_cases hc : c = 98
    · subst hc
      have e := layBy_run (98 :: ls) (v :: l) [] hl
      have hr := run_right (98 :: ls) (v :: l) hl hw h
      have hnb := nb_le ls
      have e98 : nb (98 :: ls) = nb ls + 1 := by simp [nb]
      rw [e98] at e hr
      rw [List.nil_append, List.drop_succ_cons, List.drop_succ_cons] at e
      have hlen : (((v :: l).take (nb ls + 1)).map (fun v => v.n == 1)).length = nb ls + 1 := by
        rw [List.length_map, List.length_take, List.length_cons]; omega
      generalize ((v :: l).take (nb ls + 1)).map (fun v => v.n == 1) = bs at e hr hlen
      have ih := tk_back n (ls.drop (nb ls)) (l.drop (nb ls)) (by rw [List.length_drop]; omega) (by rw [List.length_drop]; omega) (by rw [List.length_drop, List.length_drop, hl'])
        (fun v hv => hw v (List.mem_cons_of_mem _ (List.mem_of_mem_drop hv))) (layEr_drop _ _ _ h2) more
      rw [e, ByteArray.append_assoc, tk_bits, ← hlen, tbE_bits bs _ (by omega), if_pos rfl, tbR_bits bs _ (by omega), ih, bitsOf_bits, hr]
      simp only [Option.map_some, Option.some.injEq, Prod.mk.injEq, and_true]
      rw [List.take_succ_cons, List.cons_append, List.take_append_drop]
    · have ih := tk_back n ls l hn' (by omega) hl' (fun v hv => hw v (List.mem_cons_of_mem _ hv)) h2 more
      rw [layBy, if_neg hc, bitsS_nil, ba_e_append, ByteArray.append_assoc]
      obtain ⟨g1, g2, g3⟩ := one_back hc (hw v (List.mem_cons_self ..)) h1 (layBy ls l [] ++ more)
      rw [tk_one hc, if_pos g1, g2, g3, ih]
      rfl
theorem bitV_n (b : Bool) : ((bitV b).n == 1) = b := by cases b <;> rfl
theorem bitV_right (b : Bool) : vE 98 (bitV b) = 0 ∧ 0 ≤ (bitV b).n := by cases b <;> exact ⟨rfl, by decide⟩
/-- bits ahead of the others: right, and laid together -/
theorem run_forth : ∀ (ls : List UInt8) (bs : List Bool) (l : List MV), bs.length = nb ls → layEr (ls.drop (nb ls)) l = 0 → layEr ls (bs.map bitV ++ l) = 0
  | [], bs, l, hb, h => by
    have : bs = [] := List.eq_nil_of_length_eq_zero (by simpa [nb] using hb)
    subst this
    exact h
  | c :: ls, bs, l, hb, h => by
    by_cases hc : c = 98
    · subst hc
      have e98 : nb (98 :: ls) = nb ls + 1 := by simp [nb]
      rw [e98] at hb h
      match bs, hb with
      | b :: bs, hb =>
        rw [List.drop_succ_cons] at h
        exact layEr_mk (bitV_right b).1 (run_forth ls bs l (by simpa using hb) h)
    · have e : nb (c :: ls) = 0 := by simp [nb, hc]
      rw [e] at hb h
      have : bs = [] := List.eq_nil_of_length_eq_zero hb
      subst this
      exact h
/-- what is taken is right, and laid as it was -/
theorem tk_forth : ∀ (n : Nat) (ls : List UInt8) (s : ByteArray) (l : List MV) (r : ByteArray), ls.length ≤ n → ls.length ≤ 64 → tk ls s = some (l, r) → ls.length = l.length ∧ layEr ls l = 0 ∧ layBy ls l [] ++ r = s ∧ ∀ v ∈ l, 0 ≤ v.n
  | _, [], s, l, r, _, _, h => by
    rw [tk_nil] at h
    cases h
    exact ⟨rfl, rfl, by rw [layBy_nil, bitsS_nil, ba_e_append], fun v hv => by cases hv⟩
  | 0, _ :: _, _, _, _, hn, _, _ => by simp at hn
  | n + 1, c :: ls, s, l, r, hn, h64, h => by
    have hn' : ls.length ≤ n := by simpa using hn
    have h64' : ls.length ≤ 63 := by simpa using h64
    have hnb := nb_le ls
    by_cases hc : c = 98
    · subst hc
      rw [tk_bits] at h
      by_cases g : tbE s ((nb ls + 1 : Nat) : Int) = 0
      · rw [if_pos g] at h
        cases ht : tk (ls.drop (nb ls)) (tbR s ((nb ls + 1 : Nat) : Int)) with
        | none => rw [ht] at h; cases h
        | some x =>
          obtain ⟨l2, r2⟩ := x
          rw [ht] at h
          simp only [Option.map_some, Option.some.injEq, Prod.mk.injEq] at h
          obtain ⟨rfl, rfl⟩ := h
          obtain ⟨i1, i2, i3, i4⟩ := tk_forth n _ _ _ _ (by rw [List.length_drop]; omega) (by rw [List.length_drop]; omega) ht
          rw [List.length_drop] at i1
          have hbl : (bitsOf s (nb ls + 1)).length = nb ls + 1 := bitsOf_length _ _
          have hlen : (98 :: ls).length = ((bitsOf s (nb ls + 1)).map bitV ++ l2).length := by
            rw [List.length_append, List.length_map, hbl, List.length_cons]; omega
          refine ⟨hlen, ?_, ?_, ?_⟩
          · exact run_forth (98 :: ls) _ l2 (by rw [hbl]; simp [nb]) (by
              have e98 : nb (98 :: ls) = nb ls + 1 := by simp [nb]
              rw [e98, List.drop_succ_cons]; exact i2)
          · obtain ⟨k, hk, hk2, hk3, hk4⟩ := tbE_parts g
            obtain rfl : k = nb ls + 1 := by omega
            have hb := bits_back hk3 hk4
            have e98 : nb (98 :: ls) = nb ls + 1 := by simp [nb]
            rw [layBy_run _ _ _ hlen, e98, List.nil_append, List.drop_succ_cons]
            have t1 : ((bitsOf s (nb ls + 1)).map bitV ++ l2).take (nb ls + 1) = (bitsOf s (nb ls + 1)).map bitV := by
              rw [List.take_append_of_le_length (by rw [List.length_map, hbl]; exact Nat.le_refl _), List.take_of_length_le (by rw [List.length_map, hbl]; exact Nat.le_refl _)]
            have t2 : ((bitsOf s (nb ls + 1)).map bitV ++ l2).drop (nb ls + 1) = l2 := List.drop_left' (by rw [List.length_map, hbl])
            have t3 : ((bitsOf s (nb ls + 1)).map bitV).map (fun v => v.n == 1) = bitsOf s (nb ls + 1) := by
              rw [List.map_map]
              conv => rhs; rw [← List.map_id (bitsOf s (nb ls + 1))]
              exact List.map_congr_left (fun b _ => bitV_n b)
            rw [t1, t2, t3, ByteArray.append_assoc, i3, tbR, if_pos g, Int.toNat_natCast]
            exact hb
          · intro v hv
            rcases List.mem_append.1 hv with hv | hv
            · obtain ⟨b, -, rfl⟩ := List.mem_map.1 hv
              exact (bitV_right b).2
            · exact i4 v hv
      · rw [if_neg g] at h; cases h
    · rw [tk_one hc] at h
      by_cases g : oE c s = 0
      · rw [if_pos g] at h
        cases ht : tk ls (oR c s) with
        | none => rw [ht] at h; cases h
        | some x =>
          obtain ⟨l2, r2⟩ := x
          rw [ht] at h
          simp only [Option.map_some, Option.some.injEq, Prod.mk.injEq] at h
          obtain ⟨rfl, rfl⟩ := h
          obtain ⟨i1, i2, i3, i4⟩ := tk_forth n _ _ _ _ hn' (by omega) ht
          obtain ⟨f1, f2, f3⟩ := one_forth hc g
          refine ⟨by simp [i1], layEr_mk f1 i2, ?_, ?_⟩
          · rw [layBy, if_neg hc, bitsS_nil, ba_e_append, ByteArray.append_assoc, i3, f2]
          · intro v hv
            rcases List.mem_cons.1 hv with rfl | hv
            · exact f3
            · exact i4 v hv
      · rw [if_neg g] at h; cases h
end Go.Proofs.YtmpfkommeakgbaaDoor
