/-
  Several texts joined in one file: each says at its own head, below, what it proves, and its conditions.
-/
import Derived.Test.YtkdiccedkjbpeaaGreatDoorRJRTab
import Derived.Test.YtkdiccedkjbpeaaGreatDoorRJTab2
/-
  The document's own value and table of interchangeref03 are what the plain functions of PTab say, for every text; nothing that was there is changed. Conditions: texts of fewer than 2^62 bytes.
-/
namespace Go.Proofs.YtkdiccedkjbpeaaGreatDoorR
open Go.RowKit

theorem kindV_three {c : Int} (h : kindV c = -3) : c = 70 := by
  unfold kindV at h
  repeat' split at h
  all_goals omega
theorem kindV_two {c : Int} (h : kindV c = -2) : c = 65 := by
  unfold kindV at h
  repeat' split at h
  all_goals omega
theorem kindV_one {c : Int} (h : kindV c = -1) : c = 83 ∨ c = 120 := by
  unfold kindV at h
  repeat' split at h
  all_goals omega
theorem kindV_nope {c : Int} (h : kindV c = -4) : c ≠ 83 ∧ c ≠ 120 ∧ c ≠ 65 ∧ c ≠ 70 := by
  refine ⟨?_, ?_, ?_, ?_⟩
  all_goals
    rintro rfl
    revert h
    decide
theorem kindV_le8 (c : Int) : kindV c ≤ 8 := by
  unfold kindV
  repeat' split
  all_goals omega
theorem flat_nat (s : ByteArray) (k : Nat) (hk : 1 + k ≤ s.size) : flat (s.extract 1 s.size) (k : Int) = ⟨0, s.extract (1 + k) s.size, 0⟩ := by
  have h1 : (s.extract 1 s.size).size = s.size - 1 := by rw [ByteArray.size_extract]; omega
  have h2 : skipOk (s.extract 1 s.size) (k : Int) = true := by simp only [skipOk, h1]; simp; omega
  rw [flat, if_neg (by omega), skipE, skipB, if_pos h2, if_pos h2, extract_extract, h1]
  have e1 : (k : Int).toNat = k := by omega
  have e2 : min (1 + (s.size - 1)) s.size = s.size := by omega
  rw [e1, e2]
theorem flat_nat_more (s : ByteArray) (k : Nat) (h0 : 0 < s.size) (hk : ¬ 1 + k ≤ s.size) : (flat (s.extract 1 s.size) (k : Int)).err = 2 := by
  have h1 : (s.extract 1 s.size).size = s.size - 1 := by rw [ByteArray.size_extract]; omega
  have h2 : skipOk (s.extract 1 s.size) (k : Int) = false := by simp only [skipOk, h1]; simp; omega
  rw [flat, if_neg (by omega), skipE, if_neg (by simp [h2])]

theorem nest_err_items {kf : Bool} {t : ByteArray} {room : Int} (h : ttOk 4 t = true) (hr : 1 ≤ room) : (nest kf t room).err = wErr (items kf (ttA 4 t) (room - 1)).2 := by
  have hk : enOk t room = true := by simp [enOk, h, hr]
  by_cases hi : (items kf (ttA 4 t) (room - 1)).2 = 0
  · rw [nest_ok hk hi, hi]; rfl
  · rw [nest_bad hk hi]
theorem nest_zero {kf : Bool} {t : ByteArray} {room : Int} (h : ttOk 4 t = true) (hr : 1 ≤ room) (he : (nest kf t room).err = 0) : (items kf (ttA 4 t) (room - 1)).2 = 0 ∧ (nest kf t room).rest = ttR 4 t ∧ (nest kf t room).deep = deepest (items kf (ttA 4 t) (room - 1)).1 + 1 := by
  have hk : enOk t room = true := by simp [enOk, h, hr]
  have hi : (items kf (ttA 4 t) (room - 1)).2 = 0 := by
    rw [nest_err_items h hr] at he
    rcases wErr_cases (items kf (ttA 4 t) (room - 1)).2 with ⟨h1, h2⟩ | ⟨h1, h2⟩
    · rw [h2] at he; cases he
    · rw [h2] at he; exact he
  rw [nest_ok hk hi]
  exact ⟨hi, rfl, rfl⟩

set_option maxRecDepth 100000 in
set_option maxHeartbeats 4000000 in
theorem rval_all : ∀ n : Nat, RVal n := by
  intro n
  induction n with
  | zero =>
    intro s depth w hn hs h0 h32
    obtain rfl := ba_nil (b := s) (by omega)
    have H := Lib.hid (val_more (s := ⟨#[]⟩) (32 - depth) (by decide))
    go_enter Tryz.func118, Tryz.ntmps118
    go_wp2
    go_ret3
    exact ⟨⟨#[]⟩, 0, by rw [H.out]; rfl, (fun h => by rw [H.out] at h; cases h), Below.refl _ _⟩
  | succ n ih =>
    intro s depth w hn hs h0 h32
    by_cases hz : s.size = 0
    · obtain rfl := ba_nil hz
      have H := Lib.hid (val_more (s := ⟨#[]⟩) (32 - depth) (by decide))
      go_enter Tryz.func118, Tryz.ntmps118
      go_wp2
      go_ret3
      exact ⟨⟨#[]⟩, 0, by rw [H.out]; rfl, (fun h => by rw [H.out] at h; cases h), Below.refl _ _⟩
    · have hpos : 0 < s.size := by omega
      obtain ⟨f1, f2, f3⟩ := take_first s hpos
      have hcb := UInt8.toNat_lt (s[0]'hpos)
      have HN := Lib.hid (fun h => val_none (32 - depth) f1 h)
      have HF := Lib.hid (fun h => val_flat (32 - depth) f1 h)
      have HT := Lib.hid (fun h => val_nest (32 - depth) f1 h)
      rw [f2] at HN HF HT
      rw [f3] at HF HT
      clear f1 f2 f3
      have k8 := kindV_le8 ((s[0]'hpos).toNat : Int)
      have hsz : (s.extract 1 s.size).size = s.size - 1 := by rw [ByteArray.size_extract]; omega
      rcases kindV_cases ((s[0]'hpos).toNat : Int) with hk | hk | hk | hk | hk
      · obtain ⟨n1, n2, n3, n4⟩ := kindV_nope hk
        have H := Lib.hid (HN.out hk)
        have HS := Lib.hid (show sizeK ((s[0]'hpos).toNat : Int) = -1 by rw [sizeK, hk]; decide)
        have t1 : ((((s[0]'hpos).toNat : Int)) != 83) = true := by simpa using n1
        have t2 : ((((s[0]'hpos).toNat : Int)) != 120) = true := by simpa using n2
        have t3 : ((((s[0]'hpos).toNat : Int)) != 65) = true := by simpa using n3
        have t4 : ((((s[0]'hpos).toNat : Int)) != 70) = true := by simpa using n4
        clear hk n1 n2 n3 n4 HN HF HT k8
        go_enter Tryz.func118, Tryz.ntmps118
        go_wp2_with fail
        refine (rsize_any _ w).mono ?_
        rintro e w1 ⟨rfl, rfl⟩
        rw [HS.out]
        clear HS
        go_wp2
        go_ret3
        exact ⟨⟨#[]⟩, 0, by rw [H.out]; rfl, (fun h => by rw [H.out] at h; cases h), Below.refl _ _⟩
      · have hc := kindV_three hk
        have H : Hid (val s (32 - depth) = nest true (s.extract 1 s.size) (32 - depth)) := Lib.hid (by have := HT.out (.inr hk); rw [hk] at this; exact this)
        have HS := Lib.hid (show sizeK ((s[0]'hpos).toNat : Int) = -1 by rw [sizeK, hk]; decide)
        have n83 : ((((s[0]'hpos).toNat : Int)) != 83) = true := by rw [hc]; decide
        have q83 : ((((s[0]'hpos).toNat : Int)) == 83) = false := by rw [hc]; decide
        have n120 : ((((s[0]'hpos).toNat : Int)) != 120) = true := by rw [hc]; decide
        have q120 : ((((s[0]'hpos).toNat : Int)) == 120) = false := by rw [hc]; decide
        have n65 : ((((s[0]'hpos).toNat : Int)) != 65) = true := by rw [hc]; decide
        have q65 : ((((s[0]'hpos).toNat : Int)) == 65) = false := by rw [hc]; decide
        have n70 : ((((s[0]'hpos).toNat : Int)) != 70) = false := by rw [hc]; decide
        have q70 : ((((s[0]'hpos).toNat : Int)) == 70) = true := by rw [hc]; decide
        clear hk hc HN HF HT k8
        have hil := ttA_le 4 (s.extract 1 s.size)
        go_enter Tryz.func118, Tryz.ntmps118
        go_wp2_with fail
        refine (rsize_any _ w).mono ?_
        rintro e w1 ⟨rfl, rfl⟩
        rw [HS.out]
        clear HS
        go_wp2_with fail
        refine (rinside_any (s.extract 1 s.size) w (by omega)).mono ?_
        rintro e w1 ⟨rfl, hb⟩
        rcases Bool.eq_false_or_eq_true (ttOk 4 (s.extract 1 s.size)) with ho | ho
        rotate_left
        · have HE : Hid ((val s (32 - depth)).err = 2) := Lib.hid (by rw [H.out, nest, nestOf, if_neg (by simp [ho]), ttE_four ho])
          rw [ttE_four ho]
          clear H ho
          generalize ttA 4 (s.extract 1 s.size) = a at hil ⊢
          generalize ttR 4 (s.extract 1 s.size) = b
          go_wp2
          go_ret3
          exact ⟨⟨#[]⟩, 0, by rw [HE.out]; rfl, (fun h => by rw [HE.out] at h; cases h), hb⟩
        · rw [ttE_of ho]
          by_cases hd : 32 ≤ depth
          · have HE : Hid ((val s (32 - depth)).err = 5) := Lib.hid (by rw [H.out, nest, nestOf, if_pos ho, if_pos (by omega)])
            clear H ho
            generalize ttA 4 (s.extract 1 s.size) = a at hil ⊢
            generalize ttR 4 (s.extract 1 s.size) = b
            go_wp2
            go_ret3
            exact ⟨⟨#[]⟩, 0, by rw [HE.out]; rfl, (fun h => by rw [HE.out] at h; cases h), hb⟩
          · have HE : Hid ((val s (32 - depth)).err = wErr (items true (ttA 4 (s.extract 1 s.size)) (32 - (depth + 1))).2 ∧ ((val s (32 - depth)).err = 0 → (items true (ttA 4 (s.extract 1 s.size)) (32 - (depth + 1))).2 = 0 ∧ (val s (32 - depth)).rest = ttR 4 (s.extract 1 s.size) ∧ (val s (32 - depth)).deep = deepest (items true (ttA 4 (s.extract 1 s.size)) (32 - (depth + 1))).1 + 1)) := Lib.hid (by
              have e : (32 : Int) - (depth + 1) = 32 - depth - 1 := by omega
              rw [e, H.out]
              exact ⟨nest_err_items ho (by omega), fun h => nest_zero ho (by omega) h⟩)
            clear H ho
            generalize ttA 4 (s.extract 1 s.size) = a at hil HE ⊢
            generalize ttR 4 (s.extract 1 s.size) = b at HE ⊢
            go_wp2_with fail
            refine (rtab_of n ih a (depth + 1) w1 (by omega) (by omega) (by omega) (by omega)).mono ?_
            rintro e w2 ⟨d, rfl, hok, hb2⟩
            have HO := Lib.hid hok
            clear hok
            generalize hwe : wErr (items true a (32 - (depth + 1))).2 = x at HE ⊢
            clear hwe
            go_wp2
            go_ret3
            refine ⟨b, d, by rw [HE.out.1]; rfl, fun h => ?_, hb.trans (hb2.mono hb.size)⟩
            obtain ⟨j1, j2, j3⟩ := HE.out.2 h
            refine ⟨j2.symm, ?_⟩
            rw [HO.out j1, j3]
            omega
      · have hc := kindV_two hk
        have H : Hid (val s (32 - depth) = nest false (s.extract 1 s.size) (32 - depth)) := Lib.hid (by have := HT.out (.inl hk); rw [hk] at this; exact this)
        have HS := Lib.hid (show sizeK ((s[0]'hpos).toNat : Int) = -1 by rw [sizeK, hk]; decide)
        have n83 : ((((s[0]'hpos).toNat : Int)) != 83) = true := by rw [hc]; decide
        have q83 : ((((s[0]'hpos).toNat : Int)) == 83) = false := by rw [hc]; decide
        have n120 : ((((s[0]'hpos).toNat : Int)) != 120) = true := by rw [hc]; decide
        have q120 : ((((s[0]'hpos).toNat : Int)) == 120) = false := by rw [hc]; decide
        have n65 : ((((s[0]'hpos).toNat : Int)) != 65) = false := by rw [hc]; decide
        have q65 : ((((s[0]'hpos).toNat : Int)) == 65) = true := by rw [hc]; decide
        have n70 : ((((s[0]'hpos).toNat : Int)) != 70) = true := by rw [hc]; decide
        have q70 : ((((s[0]'hpos).toNat : Int)) == 70) = false := by rw [hc]; decide
        clear hk hc HN HF HT k8
        have hil := ttA_le 4 (s.extract 1 s.size)
        go_enter Tryz.func118, Tryz.ntmps118
        go_wp2_with fail
        refine (rsize_any _ w).mono ?_
        rintro e w1 ⟨rfl, rfl⟩
        rw [HS.out]
        clear HS
        go_wp2_with fail
        refine (rinside_any (s.extract 1 s.size) w (by omega)).mono ?_
        rintro e w1 ⟨rfl, hb⟩
        rcases Bool.eq_false_or_eq_true (ttOk 4 (s.extract 1 s.size)) with ho | ho
        rotate_left
        · have HE : Hid ((val s (32 - depth)).err = 2) := Lib.hid (by rw [H.out, nest, nestOf, if_neg (by simp [ho]), ttE_four ho])
          rw [ttE_four ho]
          clear H ho
          generalize ttA 4 (s.extract 1 s.size) = a at hil ⊢
          generalize ttR 4 (s.extract 1 s.size) = b
          go_wp2
          go_ret3
          exact ⟨⟨#[]⟩, 0, by rw [HE.out]; rfl, (fun h => by rw [HE.out] at h; cases h), hb⟩
        · rw [ttE_of ho]
          by_cases hd : 32 ≤ depth
          · have HE : Hid ((val s (32 - depth)).err = 5) := Lib.hid (by rw [H.out, nest, nestOf, if_pos ho, if_pos (by omega)])
            clear H ho
            generalize ttA 4 (s.extract 1 s.size) = a at hil ⊢
            generalize ttR 4 (s.extract 1 s.size) = b
            go_wp2
            go_ret3
            exact ⟨⟨#[]⟩, 0, by rw [HE.out]; rfl, (fun h => by rw [HE.out] at h; cases h), hb⟩
          · have HE : Hid ((val s (32 - depth)).err = wErr (items false (ttA 4 (s.extract 1 s.size)) (32 - (depth + 1))).2 ∧ ((val s (32 - depth)).err = 0 → (items false (ttA 4 (s.extract 1 s.size)) (32 - (depth + 1))).2 = 0 ∧ (val s (32 - depth)).rest = ttR 4 (s.extract 1 s.size) ∧ (val s (32 - depth)).deep = deepest (items false (ttA 4 (s.extract 1 s.size)) (32 - (depth + 1))).1 + 1)) := Lib.hid (by
              have e : (32 : Int) - (depth + 1) = 32 - depth - 1 := by omega
              rw [e, H.out]
              exact ⟨nest_err_items ho (by omega), fun h => nest_zero ho (by omega) h⟩)
            clear H ho
            generalize ttA 4 (s.extract 1 s.size) = a at hil HE ⊢
            generalize ttR 4 (s.extract 1 s.size) = b at HE ⊢
            go_wp2_with fail
            refine (rrow_of n ih a (depth + 1) w1 (by omega) (by omega) (by omega) (by omega)).mono ?_
            rintro e w2 ⟨d, rfl, hok, hb2⟩
            have HO := Lib.hid hok
            clear hok
            generalize hwe : wErr (items false a (32 - (depth + 1))).2 = x at HE ⊢
            clear hwe
            go_wp2
            go_ret3
            refine ⟨b, d, by rw [HE.out.1]; rfl, fun h => ?_, hb.trans (hb2.mono hb.size)⟩
            obtain ⟨j1, j2, j3⟩ := HE.out.2 h
            refine ⟨j2.symm, ?_⟩
            rw [HO.out j1, j3]
            omega
      · have H : Hid (val s (32 - depth) = flat (s.extract 1 s.size) (-1)) := Lib.hid (by have := HF.out (.inl hk); rw [hk] at this; exact this)
        clear HF
        rcases kindV_one hk with hc | hc
        · have HS := Lib.hid (show sizeK ((s[0]'hpos).toNat : Int) = -1 by rw [sizeK, hk]; decide)
          have n83 : ((((s[0]'hpos).toNat : Int)) != 83) = false := by rw [hc]; decide
          have q83 : ((((s[0]'hpos).toNat : Int)) == 83) = true := by rw [hc]; decide
          have n120 : ((((s[0]'hpos).toNat : Int)) != 120) = true := by rw [hc]; decide
          have q120 : ((((s[0]'hpos).toNat : Int)) == 120) = false := by rw [hc]; decide
          have n65 : ((((s[0]'hpos).toNat : Int)) != 65) = true := by rw [hc]; decide
          have q65 : ((((s[0]'hpos).toNat : Int)) == 65) = false := by rw [hc]; decide
          have n70 : ((((s[0]'hpos).toNat : Int)) != 70) = true := by rw [hc]; decide
          have q70 : ((((s[0]'hpos).toNat : Int)) == 70) = false := by rw [hc]; decide
          clear hk hc HN HT k8
          go_enter Tryz.func118, Tryz.ntmps118
          go_wp2_with fail
          refine (rsize_any _ w).mono ?_
          rintro e w1 ⟨rfl, rfl⟩
          rw [HS.out]
          clear HS
          go_wp2_with fail
          refine (rinside_any (s.extract 1 s.size) w (by omega)).mono ?_
          rintro e w1 ⟨rfl, hb⟩
          rcases Bool.eq_false_or_eq_true (ttOk 4 (s.extract 1 s.size)) with ho | ho
          rotate_left
          · have HE : Hid ((val s (32 - depth)).err = 2) := Lib.hid (by rw [H.out, flat, if_pos rfl, ttE_four ho])
            rw [ttE_four ho]
            clear H ho
            generalize ttA 4 (s.extract 1 s.size) = a
            generalize ttR 4 (s.extract 1 s.size) = b
            go_wp2
            go_ret3
            exact ⟨⟨#[]⟩, 0, by rw [HE.out]; rfl, (fun h => by rw [HE.out] at h; cases h), hb⟩
          · have HE : Hid (val s (32 - depth) = ⟨0, ttR 4 (s.extract 1 s.size), 0⟩) := Lib.hid (by rw [H.out, flat, if_pos rfl, ttE_of ho])
            rw [ttE_of ho]
            clear H ho
            generalize ttA 4 (s.extract 1 s.size) = a
            generalize ttR 4 (s.extract 1 s.size) = b at HE ⊢
            go_wp2
            go_ret3
            refine ⟨b, depth, by rw [HE.out]; rfl, fun _ => ?_, hb⟩
            rw [HE.out]
            exact ⟨rfl, by simp⟩
        · have HS := Lib.hid (show sizeK ((s[0]'hpos).toNat : Int) = -1 by rw [sizeK, hk]; decide)
          have n83 : ((((s[0]'hpos).toNat : Int)) != 83) = true := by rw [hc]; decide
          have q83 : ((((s[0]'hpos).toNat : Int)) == 83) = false := by rw [hc]; decide
          have n120 : ((((s[0]'hpos).toNat : Int)) != 120) = false := by rw [hc]; decide
          have q120 : ((((s[0]'hpos).toNat : Int)) == 120) = true := by rw [hc]; decide
          have n65 : ((((s[0]'hpos).toNat : Int)) != 65) = true := by rw [hc]; decide
          have q65 : ((((s[0]'hpos).toNat : Int)) == 65) = false := by rw [hc]; decide
          have n70 : ((((s[0]'hpos).toNat : Int)) != 70) = true := by rw [hc]; decide
          have q70 : ((((s[0]'hpos).toNat : Int)) == 70) = false := by rw [hc]; decide
          clear hk hc HN HT k8
          go_enter Tryz.func118, Tryz.ntmps118
          go_wp2_with fail
          refine (rsize_any _ w).mono ?_
          rintro e w1 ⟨rfl, rfl⟩
          rw [HS.out]
          clear HS
          go_wp2_with fail
          refine (rinside_any (s.extract 1 s.size) w (by omega)).mono ?_
          rintro e w1 ⟨rfl, hb⟩
          rcases Bool.eq_false_or_eq_true (ttOk 4 (s.extract 1 s.size)) with ho | ho
          rotate_left
          · have HE : Hid ((val s (32 - depth)).err = 2) := Lib.hid (by rw [H.out, flat, if_pos rfl, ttE_four ho])
            rw [ttE_four ho]
            clear H ho
            generalize ttA 4 (s.extract 1 s.size) = a
            generalize ttR 4 (s.extract 1 s.size) = b
            go_wp2
            go_ret3
            exact ⟨⟨#[]⟩, 0, by rw [HE.out]; rfl, (fun h => by rw [HE.out] at h; cases h), hb⟩
          · have HE : Hid (val s (32 - depth) = ⟨0, ttR 4 (s.extract 1 s.size), 0⟩) := Lib.hid (by rw [H.out, flat, if_pos rfl, ttE_of ho])
            rw [ttE_of ho]
            clear H ho
            generalize ttA 4 (s.extract 1 s.size) = a
            generalize ttR 4 (s.extract 1 s.size) = b at HE ⊢
            go_wp2
            go_ret3
            refine ⟨b, depth, by rw [HE.out]; rfl, fun _ => ?_, hb⟩
            rw [HE.out]
            exact ⟨rfl, by simp⟩
      · have H := Lib.hid (HF.out (.inr hk))
        have hsk : sizeK ((s[0]'hpos).toNat : Int) = kindV ((s[0]'hpos).toNat : Int) := by rw [sizeK, if_pos hk]
        have HS := Lib.hid hsk
        clear hsk HN HF HT
        go_enter Tryz.func118, Tryz.ntmps118
        go_wp2_with fail
        refine (rsize_any _ w).mono ?_
        rintro e w1 ⟨rfl, rfl⟩
        rw [HS.out]
        clear HS
        generalize kindV ((s[0]'hpos).toNat : Int) = q at hk k8 H ⊢
        obtain ⟨k, rfl⟩ := Int.eq_ofNat_of_zero_le hk
        by_cases hc : 1 + k ≤ s.size
        · have HR := Lib.hid (flat_nat s k hc)
          go_wp2
          go_ret3
          refine ⟨s.extract (1 + k) s.size, depth, ?_, fun _ => ?_, Below.refl _ _⟩
          · rw [H.out, HR.out]; rfl
          · rw [H.out, HR.out]; exact ⟨rfl, by simp⟩
        · have HR := Lib.hid (flat_nat_more s k hpos hc)
          go_wp2
          go_ret3
          refine ⟨⟨#[]⟩, 0, ?_, fun h => ?_, Below.refl _ _⟩
          · rw [H.out, HR.out]; rfl
          · rw [H.out, HR.out] at h; cases h
theorem rvalue_any (s : ByteArray) (depth : Int) (w : World) (hs : s.size < 4611686018427387904) (h0 : 0 ≤ depth) (h32 : depth ≤ 32) :
    Calls Tryz.prog 118 #[.string s, .int .i64 depth] w fun e w' => ∃ r d, e = .returned (.tuple #[.string r, .int .i64 d, .int .i64 (val s (32 - depth)).err]) ∧ ((val s (32 - depth)).err = 0 → r = (val s (32 - depth)).rest ∧ d = depth + (val s (32 - depth)).deep) ∧ Below w.heap.size w w' :=
  rval_all s.size s depth w (Nat.le_refl _) hs h0 h32
theorem rrow_any (b : ByteArray) (w : World) (hs : b.size < 4611686018427387904) :
    Calls Tryz.prog 108 #[.string b, .int .i64 1, .bool true] w fun e w' => ∃ d, e = .returned (.tuple #[.int .i64 d, .int .i64 (wErr (items true b 31).2)]) ∧ ((items true b 31).2 = 0 → d = 1 + deepest (items true b 31).1) ∧ Below w.heap.size w w' :=
  rtab_of b.size (rval_all _) b 1 w (Nat.le_refl _) hs (by omega) (by omega)
end Go.Proofs.YtkdiccedkjbpeaaGreatDoorR

/-
  The document's own table, Take and Deep of interchangeref03 answer as the program's do; nothing that was there is changed. Conditions: texts of fewer than 2^62 bytes.
-/
namespace Go.Proofs.YtkdiccedkjbpeaaGreatDoorR
open Go.RowKit

set_option maxRecDepth 100000 in
set_option maxHeartbeats 1000000 in
theorem rtable_any (s : ByteArray) (w : World) (hs : s.size < 4611686018427387904) :
    Calls Tryz.prog 86 #[.string s] w fun e w' => ∃ r d, e = .returned (.tuple #[.string r, .int .i64 d, .int .i64 (nest true s 32).err]) ∧ ((nest true s 32).err = 0 → r = (nest true s 32).rest ∧ d = (nest true s 32).deep) ∧ Below w.heap.size w w' := by
  have hil := ttA_le 4 s
  go_enter Tryz.func86, Tryz.ntmps86
  go_wp2_with fail
  refine (rinside_any s w hs).mono ?_
  rintro e w1 ⟨rfl, hb⟩
  rcases Bool.eq_false_or_eq_true (ttOk 4 s) with ho | ho
  rotate_left
  · have HE : Hid ((nest true s 32).err = 2) := Lib.hid (by rw [nest, nestOf, if_neg (by simp [ho]), ttE_four ho])
    rw [ttE_four ho]
    clear ho
    generalize ttA 4 s = a at hil ⊢
    generalize ttR 4 s = b
    go_wp2
    go_ret3
    exact ⟨⟨#[]⟩, 0, by rw [HE.out]; rfl, (fun h => by rw [HE.out] at h; cases h), hb⟩
  · rw [ttE_of ho]
    have HE : Hid ((nest true s 32).err = wErr (items true (ttA 4 s) 31).2 ∧ ((nest true s 32).err = 0 → (items true (ttA 4 s) 31).2 = 0 ∧ (nest true s 32).rest = ttR 4 s ∧ (nest true s 32).deep = deepest (items true (ttA 4 s) 31).1 + 1)) := Lib.hid
      ⟨nest_err_items ho (by omega), fun h => nest_zero ho (by omega) h⟩
    clear ho
    generalize ttA 4 s = a at hil HE ⊢
    generalize ttR 4 s = b at HE ⊢
    go_wp2_with fail
    refine (rrow_any a w1 (by omega)).mono ?_
    rintro e w2 ⟨d, rfl, hok, hb2⟩
    have HO := Lib.hid hok
    clear hok
    generalize hwe : wErr (items true a 31).2 = x at HE ⊢
    clear hwe
    go_wp2
    go_ret3
    refine ⟨b, d, by rw [HE.out.1]; rfl, fun h => ?_, hb.trans (hb2.mono hb.size)⟩
    obtain ⟨j1, j2, j3⟩ := HE.out.2 h
    refine ⟨j2.symm, ?_⟩
    rw [HO.out j1, j3]
    omega

theorem rtabDeep_any (s : ByteArray) (w : World) (hs : s.size < 4611686018427387904) :
    Calls Tryz.prog 68 #[.string s] w fun e w' => e = .returned (.tuple #[.int .i64 (aloneD (nest true s 32)), .int .i64 (aloneE (nest true s 32))]) ∧ Below w.heap.size w w' := by
  go_enter Tryz.func68, Tryz.ntmps68
  go_wp2_with fail
  refine (rtable_any s w hs).mono ?_
  rintro e w1 ⟨r, d, rfl, hok, hb⟩
  by_cases hx : (nest true s 32).err = 0
  · obtain ⟨rfl, rfl⟩ := hok hx
    rw [hx]
    by_cases hy : (nest true s 32).rest.size = 0
    · have H := Lib.hid (show aloneD (nest true s 32) = (nest true s 32).deep ∧ aloneE (nest true s 32) = 0 from ⟨by rw [aloneD, if_pos ⟨hx, hy⟩], by rw [aloneE, if_pos hx, if_pos hy]⟩)
      clear hok hx
      generalize (nest true s 32).rest = y at hy ⊢
      generalize (nest true s 32).deep = d at H ⊢
      go_wp2
      go_ret2
      refine ⟨?_, hb⟩
      rw [H.out.1, H.out.2]
      rfl
    · have H := Lib.hid (show aloneD (nest true s 32) = 0 ∧ aloneE (nest true s 32) = 3 from ⟨by rw [aloneD, if_neg (fun h => hy h.2)], by rw [aloneE, if_pos hx, if_neg hy]⟩)
      clear hok hx
      have hy' : 0 < (nest true s 32).rest.size := by omega
      clear hy
      generalize (nest true s 32).rest = y at hy' ⊢
      generalize (nest true s 32).deep = d at H ⊢
      go_wp2
      go_ret2
      refine ⟨?_, hb⟩
      rw [H.out.1, H.out.2]
      rfl
  · have H := Lib.hid (show aloneD (nest true s 32) = 0 ∧ aloneE (nest true s 32) = (nest true s 32).err from ⟨by rw [aloneD, if_neg (fun h => hx h.1)], by rw [aloneE, if_neg hx]⟩)
    have t1 : ((nest true s 32).err != 0) = true := by simpa using hx
    clear hok hx
    generalize (nest true s 32).err = x at t1 H ⊢
    go_wp2
    go_ret2
    refine ⟨?_, hb⟩
    rw [H.out.1, H.out.2]
    rfl
end Go.Proofs.YtkdiccedkjbpeaaGreatDoorR
