/-
  DialOffers' walk: a word that has a blank, or is empty, is never offered; a word alone is; lists together offer what either does. Condition: texts of fewer than 2^61 bytes.
-/
import Derived.Test.YtbdhppigmlfjhaaWDShown
import Derived.Test.YtbdhppigmlfjhaaROffersD
namespace Go.Proofs.Ytbdhppigmlfjhaa
open Go.RowKit

theorem blank_take {s : ByteArray} {k : Nat} (hk : k < s.size) : (s.data.toList.take (k + 1)).any (fun c => c == 32) = ((s.data.toList.take k).any (fun c => c == 32) || (s[k]'hk == 32)) := by
  have hk2 : k < s.data.toList.length := by rw [wd_len]; exact hk
  rw [List.take_add_one, List.getElem?_eq_getElem hk2, List.any_append]
  simp
  rfl
set_option maxRecDepth 100000 in
set_option maxHeartbeats 4000000 in
theorem dialOffers_walk (a b word : ByteArray) (w : World) (ha : a.size < 1152921504606846976) (hb : b.size < 1152921504606846976) (hw : word.size < 1152921504606846976) :
    Calls Try.prog 5 #[.string a, .string b, .string word] w fun e w' => e = .returned (.bool true) ∧ Below w.heap.size w w' := by
  have hSh := dshown_any w
  have hA := fun W => offers_any a word W (by omega)
  have hB := fun W => offers_any b word W (by omega)
  have hS := fun W => offers_any word word W (by omega)
  obtain ⟨a1, ha1⟩ : ∃ a1, a ++ ⟨#[32]⟩ = a1 := ⟨_, rfl⟩
  obtain ⟨ab, hab⟩ : ∃ ab, a1 ++ b = ab := ⟨_, rfl⟩
  have z1 : a1.size = a.size + 1 := by rw [← ha1, ByteArray.size_append]; rfl
  have z2 : ab.size = a.size + 1 + b.size := by rw [← hab, ByteArray.size_append, z1]
  have e1 : ∀ w', (Op.stringOp .add a ⟨#[32]⟩).run Try.prog w' = .ok (.string a1) w' := fun w' => by rw [← ha1]; exact run_string_add_sum w' a ⟨#[32]⟩ (by have : (⟨#[32]⟩ : ByteArray).size = 1 := rfl; omega)
  have e2 : ∀ w', (Op.stringOp .add a1 b).run Try.prog w' = .ok (.string ab) w' := fun w' => by rw [← hab]; exact run_string_add_sum w' a1 b (by omega)
  have hAB := fun W => offers_any ab word W (by omega)
  have HJ : Hid (offX ab.data.toList word.data.toList = (offX a.data.toList word.data.toList || offX b.data.toList word.data.toList)) := Lib.hid (by
    rw [← off_join, ← hab, ← ha1, ByteArray.data_append, ByteArray.data_append, Array.toList_append, Array.toList_append, List.append_assoc]
    rfl)
  have HS := Lib.hid (off_self word.data.toList)
  have HBk : Hid (blankX word.data.toList = true → offX a.data.toList word.data.toList = false ∧ offX b.data.toList word.data.toList = false) := Lib.hid (fun h => ⟨off_blank h, off_blank h⟩)
  have HX : Hid (blankX word.data.toList = ((word.data.toList == []) || (word.data.toList.take word.size).any (fun c => c == 32))) := Lib.hid (by rw [blankX, List.take_of_length_le (by rw [wd_len]; exact Nat.le_refl _)])
  generalize offX ab.data.toList word.data.toList = qab at *
  generalize offX a.data.toList word.data.toList = qa at *
  generalize offX b.data.toList word.data.toList = qb at *
  generalize offX word.data.toList word.data.toList = qs at *
  have HX2 : Hid (∃ bl, blankX word.data.toList = bl) := Lib.hid ⟨_, rfl⟩
  obtain ⟨bl, hbl⟩ := HX2.out
  rw [hbl] at HS HBk HX
  have h0 : (word.toList == []) = (word.data.toList == []) := by rw [Lib.toList_data]
  obtain ⟨em, hem⟩ : ∃ em, (word.data.toList == []) = em := ⟨_, rfl⟩
  rw [hem] at h0 HX
  clear hbl HX2 ha1 hab z1 z2 ha hb hem
  go_enter Try.func5, Try.ntmps5
  go_wp2_with fail
  with_reducible refine hSh.mono ?_
  rintro e w1 ⟨rfl, hb1⟩
  clear hSh
  go_wp2_with fail
  go_loopw [8, 9] (fun p v wr => ∃ k : Nat, k ≤ word.size ∧ v = .int .i64 k ∧ p = .bool (em || (word.data.toList.take k).any (fun c => c == 32)) ∧ wr = w1) (fun _ v _ => word.size - (intOf v).toNat)
  case atStart => exact ⟨0, Nat.zero_le _, rfl, by simp, rfl⟩
  case round =>
    obtain ⟨k, hk, rfl, rfl, rfl⟩ := hrel
    by_cases hlt : k < word.size
    · have hix := str_at2 word k hlt
      have HT := Lib.hid (blank_take hlt)
      have i0 : (0 : Int) ≤ (k : Int) := by omega
      have i1 : (k : Int) < (word.size : Int) := by omega
      have e3 : IntKind.i64.wrap ((k : Int) + 1) = ((k + 1 : Nat) : Int) := by simp only [IntKind.wrap_i64]; omega
      generalize word[k]'hlt = c at hix HT
      obtain ⟨t, ht⟩ : ∃ t, ((c.toNat : Int) == 32) = t := ⟨_, rfl⟩
      have HC : Hid ((c == 32) = t) := Lib.hid (by
        rw [← ht]
        by_cases h : c = 32
        · rw [h]; rfl
        · have h2 : c.toNat ≠ 32 := fun k => h (UInt8.toNat_inj.1 k)
          rw [beq_eq_false_iff_ne.2 h, beq_eq_false_iff_ne.2 (by omega)])
      have HT2 : Hid ((em || (word.data.toList.take (k + 1)).any (fun c => c == 32)) = ((em || (word.data.toList.take k).any (fun c => c == 32)) || t)) := Lib.hid (by rw [HT.out, HC.out, Bool.or_assoc])
      generalize (em || (word.data.toList.take k).any (fun c => c == 32)) = p at HT2 ⊢
      clear HT HC hA hB hS hAB e1 e2
      cases p
      · go_wp2
        go_roundw
        case rel => exact ⟨k + 1, hlt, by rw [show ((k + 1 : Nat) : Int) = (k : Int) + 1 by omega], by rw [HT2.out]; simp, trivial⟩
        case measure => simp only [intOf]; omega
      · go_wp2
        go_roundw
        case rel => exact ⟨k + 1, hlt, by rw [show ((k + 1 : Nat) : Int) = (k : Int) + 1 by omega], by rw [HT2.out]; simp, trivial⟩
        case measure => simp only [intOf]; omega
    · obtain rfl : k = word.size := by omega
      rw [← HX.out]
      go_wp2_with fail
      with_reducible refine (hA _).mono ?_
      rintro e w2 ⟨rfl, hb2⟩
      have hB2 := hb1.trans (hb2.mono hb1.size)
      clear hA hb1 hb2
      go_wp2_with fail
      with_reducible refine (hB _).mono ?_
      rintro e w3 ⟨rfl, hb3⟩
      have hB3 := hB2.trans (hb3.mono hB2.size)
      clear hB hB2 hb3
      go_wp2_with fail
      with_reducible refine (hAB _).mono ?_
      rintro e w4 ⟨rfl, hb4⟩
      have hB4 := hB3.trans (hb4.mono hB3.size)
      clear hAB hB3 hb4
      have hj := HJ.out
      cases qa
      · cases qb
        · obtain rfl : qab = false := by simpa using hj
          clear hj HJ
          go_wp2_with fail
          with_reducible refine (hS _).mono ?_
          rintro e w5 ⟨rfl, hb5⟩
          have hB5 := hB4.trans (hb5.mono hB4.size)
          have hs := HS.out
          subst hs
          clear HS hS
          cases bl
          · go_wp2
            go_ret
            exact ⟨rfl, hB5⟩
          · go_wp2
            go_ret
            exact ⟨rfl, hB5⟩
        · obtain rfl : qab = true := by simpa using hj
          obtain rfl : bl = false := by
            cases bl
            · rfl
            · exact absurd (HBk.out rfl).2 (by decide)
          have hs := HS.out
          clear hj HJ HBk
          go_wp2_with fail
          with_reducible refine (hS _).mono ?_
          rintro e w5 ⟨rfl, hb5⟩
          have hB5 := hB4.trans (hb5.mono hB4.size)
          subst hs
          clear HS hS
          go_wp2
          go_ret
          exact ⟨rfl, hB5⟩
      · obtain rfl : qab = true := by simpa using hj
        obtain rfl : bl = false := by
          cases bl
          · rfl
          · exact absurd (HBk.out rfl).1 (by decide)
        have hs := HS.out
        clear hj HJ HBk
        go_wp2_with fail
        with_reducible refine (hS _).mono ?_
        rintro e w5 ⟨rfl, hb5⟩
        have hB5 := hB4.trans (hb5.mono hB4.size)
        subst hs
        clear HS hS
        go_wp2
        go_ret
        exact ⟨rfl, hB5⟩
end Go.Proofs.Ytbdhppigmlfjhaa
