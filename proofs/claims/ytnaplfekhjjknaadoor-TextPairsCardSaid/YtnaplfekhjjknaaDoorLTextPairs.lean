/-
  TextPairs: a name and a word without a byte 0 are told again; a name has no other bytes than names have: the walk of the law. Conditions: the package num's table of widths holds 1, 2, 4, 8; the texts have fewer than 2^60 bytes.
-/
import Derived.Test.YtnaplfekhjjknaaDoorWTextShown
import Derived.Test.YtnaplfekhjjknaaDoorWName
namespace Go.Proofs.YtnaplfekhjjknaaDoor
open Go.RowKit

/-- is there a byte 0 among the first k? -/
def zeroIn (s : ByteArray) (k : Nat) : Bool := (s.data.toList.take k).any (· == 0)
theorem zeroIn_succ (s : ByteArray) (k : Nat) (h : k < s.size) : zeroIn s (k + 1) = (zeroIn s k || ((s[k]'h).toNat : Int) == 0) := by
  rw [zeroIn, List.take_succ_eq_append_getElem (by simpa using h), List.any_append, zeroIn]
  congr 1
  simp only [List.any_cons, List.any_nil, Bool.or_false]
  have : s.data.toList[k]'(by simpa using h) = s[k]'h := by simp; rfl
  rw [this, Bool.eq_iff_iff]
  simp only [beq_iff_eq]
  constructor
  · intro h; rw [h]; rfl
  · intro h
    apply UInt8.toNat_inj.1
    have : (0 : UInt8).toNat = 0 := rfl
    omega
theorem count_zero (l : List UInt8) : (Lib.countByte l 0 == 0) = !l.any (· == 0) := by
  induction l with
  | nil => rfl
  | cons b l ih =>
    unfold Lib.countByte at ih ⊢
    rw [List.count_cons, List.any_cons]
    cases h : b == 0
    · simpa using ih
    · simp
theorem index_skip (l m : List UInt8) (h : l.any (· == 0) = false) : Lib.indexByte (l ++ 0 :: m) 0 = l.length := by
  induction l with
  | nil => simp [Lib.indexByte]
  | cons b l ih =>
    rw [List.any_cons, Bool.or_eq_false_iff] at h
    have ih := ih h.2
    rw [List.cons_append, Lib.indexByte, ih, h.1]
    simp
theorem front_data (a b : ByteArray) : (⟨#[0]⟩ ++ a ++ ⟨#[0]⟩ ++ b : ByteArray).data.toList = 0 :: (a.data.toList ++ 0 :: b.data.toList) := by
  rw [ba_append, ba_append, ba_append]
  simp
theorem front_rest (a b : ByteArray) : ((⟨#[0]⟩ ++ a ++ ⟨#[0]⟩ ++ b : ByteArray).extract 1 (⟨#[0]⟩ ++ a ++ ⟨#[0]⟩ ++ b : ByteArray).size).data.toList = a.data.toList ++ 0 :: b.data.toList := by
  rw [Lib.extract_data, Lib.size_eq, front_data]
  simp
  exact List.take_of_length_le (by simp)
theorem pair_of (a b : ByteArray) : pairOk (⟨#[0]⟩ ++ a ++ ⟨#[0]⟩ ++ b) = !(zeroIn a a.size || zeroIn b b.size) := by
  have e1 : hasFirst (⟨#[0]⟩ ++ a ++ ⟨#[0]⟩ ++ b) 0 = true := by rw [hasFirst, front_data]; rfl
  have ha : zeroIn a a.size = a.data.toList.any (· == 0) := by rw [zeroIn, List.take_of_length_le (by rw [ba_len]; exact Nat.le_refl _)]
  have hb : zeroIn b b.size = b.data.toList.any (· == 0) := by rw [zeroIn, List.take_of_length_le (by rw [ba_len]; exact Nat.le_refl _)]
  have ca := count_zero a.data.toList
  have cb := count_zero b.data.toList
  rw [pairOk, e1, front_rest, ha, hb]
  unfold Lib.countByte at ca cb ⊢
  rw [List.count_append, List.count_cons]
  generalize List.count 0 a.data.toList = x at ca ⊢
  generalize List.count 0 b.data.toList = y at cb ⊢
  rw [Bool.not_or, ← ca, ← cb, Bool.eq_iff_iff]
  simp
  omega
theorem pair_parts (a b : ByteArray) (h : pairOk (⟨#[0]⟩ ++ a ++ ⟨#[0]⟩ ++ b) = true) : pairA (⟨#[0]⟩ ++ a ++ ⟨#[0]⟩ ++ b) = a ∧ pairB (⟨#[0]⟩ ++ a ++ ⟨#[0]⟩ ++ b) = b := by
  have hz := h
  rw [pair_of] at hz
  have hz : zeroIn a a.size = false := by cases h1 : zeroIn a a.size <;> simp_all
  rw [zeroIn, List.take_of_length_le (by rw [ba_len]; exact Nat.le_refl _)] at hz
  have e := index_skip a.data.toList b.data.toList hz
  have hat : cutAt ((⟨#[0]⟩ ++ a ++ ⟨#[0]⟩ ++ b : ByteArray).extract 1 (⟨#[0]⟩ ++ a ++ ⟨#[0]⟩ ++ b : ByteArray).size) 0 = (a.size : Int) := by
    rw [cutAt, front_rest, e, ba_len]
  constructor
  · rw [pairA, if_pos h, cutA, hat, if_pos (by omega)]
    apply ba_ext
    rw [Lib.extract_data, front_rest]
    simp
  · rw [pairB, if_pos h, cutB, hat, if_pos (by omega)]
    apply ba_ext
    rw [Lib.extract_data, Lib.size_eq, front_rest]
    have : (List.drop ((a.size : Int).toNat + 1) (a.data.toList ++ 0 :: b.data.toList)) = b.data.toList := by
      rw [Int.toNat_natCast, ← ba_len, List.drop_append, List.drop_of_length_le (by omega)]
      simp
    rw [this, List.take_of_length_le]
    simp
    omega
/-- the later half of a name is one -/
theorem name_half {s : ByteArray} (h : nameOk s = true) (k : Nat) : s.size ≤ 127 ∧ nameOk (s.extract k s.size) = true := by
  simp only [nameOk, Bool.and_eq_true, decide_eq_true_eq] at h ⊢
  refine ⟨h.1, ?_, ?_⟩
  · rw [ByteArray.size_extract]; omega
  · rw [Lib.extract_data, List.all_eq_true]
    intro x hx
    exact List.all_eq_true.1 h.2 x (List.mem_of_mem_drop (List.mem_of_mem_take hx))

set_option maxHeartbeats 1000000 in
theorem textPairs_any (a b s : ByteArray) (w : World) (hw : Wid w) (ha : a.size < 1152921504606846976) (hb : b.size < 1152921504606846976) (hs : s.size < 1152921504606846976) :
    Calls Tryd.prog 7 #[.string a, .string b, .string s] w fun e w' => e = .returned (.bool true) ∧ Below w.heap.size w w' := by
  have one : (⟨#[0]⟩ : ByteArray).size = 1 := rfl
  have z1 : (⟨#[0]⟩ : ByteArray).size + a.size ≤ 9223372036854775807 := by omega
  have z2 : (⟨#[0]⟩ ++ a : ByteArray).size + (⟨#[0]⟩ : ByteArray).size ≤ 9223372036854775807 := by rw [ByteArray.size_append]; omega
  have z3 : (⟨#[0]⟩ ++ a ++ ⟨#[0]⟩ : ByteArray).size + b.size ≤ 9223372036854775807 := by rw [ByteArray.size_append, ByteArray.size_append]; omega
  have z4 : (⟨#[0]⟩ ++ a ++ ⟨#[0]⟩ ++ b : ByteArray).size < 4611686018427387904 := by rw [ByteArray.size_append, ByteArray.size_append, ByteArray.size_append]; omega
  have HP := Lib.hid (pair_of a b)
  have HQ := Lib.hid (pair_parts a b)
  clear one
  go_enter Tryd.func7, Tryd.ntmps7
  go_wp2_with fail
  refine (tshown_any w hw).mono ?_
  rintro e w1 ⟨rfl, hb1⟩
  clear hw
  go_wp2_with fail
  refine (pairs_any _ w1 z4).mono ?_
  rintro e w2 ⟨rfl, hb2⟩
  have hb2 := hb1.trans (hb2.mono hb1.size)
  clear hb1 z1 z2 z3 z4
  generalize pairA (⟨#[0]⟩ ++ a ++ ⟨#[0]⟩ ++ b) = x at HQ ⊢
  generalize pairB (⟨#[0]⟩ ++ a ++ ⟨#[0]⟩ ++ b) = y at HQ ⊢
  generalize pairOk (⟨#[0]⟩ ++ a ++ ⟨#[0]⟩ ++ b) = is at HP HQ ⊢
  go_wp2
  go_loop [11, 12] (fun z v => ∃ k : Nat, k ≤ a.size ∧ v = .int .i64 k ∧ z = .bool (zeroIn a k)) (fun _ v => a.size - (intOf v).toNat)
  case atStart => exact ⟨0, by omega, rfl, rfl⟩
  case round =>
    obtain ⟨k, hk, rfl, rfl⟩ := hrel
    by_cases hlt : k < a.size
    · have HS := Lib.hid (zeroIn_succ a k hlt)
      generalize zeroIn a k = z at HS ⊢
      cases z
      · go_wp2
        go_round
        case rel => exact ⟨k + 1, by omega, by go_num, by rw [HS.out]; rfl⟩
        case measure => simp [intOf]; omega
      · go_wp2
        go_round
        case rel => exact ⟨k + 1, by omega, by go_num, by rw [HS.out]; rfl⟩
        case measure => simp [intOf]; omega
    · obtain rfl : k = a.size := by omega
      generalize zeroIn a a.size = za at HP ⊢
      go_wp2
      go_loop [11, 13] (fun z v => ∃ k : Nat, k ≤ b.size ∧ v = .int .i64 k ∧ z = .bool (za || zeroIn b k)) (fun _ v => b.size - (intOf v).toNat)
      case atStart => exact ⟨0, by omega, rfl, by simp [zeroIn]⟩
      case round =>
        obtain ⟨k, hk, rfl, rfl⟩ := hrel
        by_cases hlt : k < b.size
        · have HS := Lib.hid (show (za || zeroIn b (k + 1)) = ((za || zeroIn b k) || ((b[k]'hlt).toNat : Int) == 0) by rw [zeroIn_succ b k hlt, Bool.or_assoc])
          generalize (za || zeroIn b k) = z at HS ⊢
          cases z
          · go_wp2
            go_round
            case rel => exact ⟨k + 1, by omega, by go_num, by rw [HS.out]; rfl⟩
            case measure => simp [intOf]; omega
          · go_wp2
            go_round
            case rel => exact ⟨k + 1, by omega, by go_num, by rw [HS.out]; rfl⟩
            case measure => simp [intOf]; omega
        · obtain rfl : k = b.size := by omega
          have fin : Calls Tryd.prog 25 #[.string s] w2 fun e w' => e = .returned (.bool (nameOk s)) ∧ Below w.heap.size w w' := by
            refine (name_any s w2).mono ?_
            rintro e w3 ⟨rfl, hb3⟩
            exact ⟨rfl, hb2.trans (hb3.mono hb2.size)⟩
          generalize (za || zeroIn b b.size) = z at HP ⊢
          cases z
          · obtain rfl : is = true := by simpa using HP.out
            obtain ⟨rfl, rfl⟩ := HQ.out rfl
            clear HP HQ
            go_wp2_with fail
            refine fin.mono ?_
            rintro e w3 ⟨rfl, hb3⟩
            clear fin
            cases hn : nameOk s
            · go_wp2
              go_ret
              exact ⟨rfl, hb3⟩
            · obtain ⟨l1, l2⟩ := name_half hn (s.size / 2)
              clear hn
              go_wp2_with fail
              refine (name_any _ w3).mono ?_
              rintro e w4 ⟨rfl, hb4⟩
              have hb4 := hb3.trans (hb4.mono hb3.size)
              rw [l2]
              go_wp2
              go_ret
              exact ⟨rfl, hb4⟩
          · obtain rfl : is = false := by simpa using HP.out
            clear HP HQ
            go_wp2_with fail
            refine fin.mono ?_
            rintro e w3 ⟨rfl, hb3⟩
            clear fin
            cases hn : nameOk s
            · go_wp2
              go_ret
              exact ⟨rfl, hb3⟩
            · obtain ⟨l1, l2⟩ := name_half hn (s.size / 2)
              clear hn
              go_wp2_with fail
              refine (name_any _ w3).mono ?_
              rintro e w4 ⟨rfl, hb4⟩
              have hb4 := hb3.trans (hb4.mono hb3.size)
              rw [l2]
              go_wp2
              go_ret
              exact ⟨rfl, hb4⟩
end Go.Proofs.YtnaplfekhjjknaaDoor
