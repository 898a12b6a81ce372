/-
  Several texts joined in one file: each says at its own head, below, what it proves, and its conditions.
-/
import Derived.Test.YtkdiccedkjbpeaaGreatDoorRJWNum
import Derived.Lib.Strings
/-
  What was put is taken, and what is taken is put as it was: plain facts on what num.Put and num.Take answer. No condition.
-/
namespace Go.Proofs.YtkdiccedkjbpeaaGreatDoorR

theorem ba_ext {a b : ByteArray} (h : a.data.toList = b.data.toList) : a = b := ByteArray.ext (Array.toList_inj.1 h)
theorem ba_append (a b : ByteArray) : (a ++ b).data.toList = a.data.toList ++ b.data.toList := by rw [ByteArray.data_append, Array.toList_append]
theorem ba_len (a : ByteArray) : a.data.toList.length = a.size := by simp

theorem putOk_nat {n v : Int} (h : putOk n v = true) (h0 : 0 ≤ v) : v.toNat < 256 ^ n.toNat := by
  have := putOk_lt h
  have e : ((256 ^ n.toNat : Nat) : Int) = 256 ^ n.toNat := by rw [Int.natCast_pow]; rfl
  omega
theorem isW_nat {n : Int} (h : isW n = true) : ((n.toNat : Nat) : Int) = n ∧ n.toNat ≤ 8 := by
  have := isW_cases h; omega
theorem putR_of {n v : Int} (h : putOk n v = true) : putR n v = putS n.toNat v.toNat := by simp [putR, h]
theorem putE_of {n v : Int} (h : putOk n v = true) : putE n v = 0 := by simp [putE, h, putOk_w h]
theorem putE_not {n v : Int} (h : putOk n v = false) : (putE n v != 0) = true ∧ (putE n v == 0) = false := by
  have := putE_zero n v
  rw [h] at this
  exact ⟨by simp [bne, this], this⟩
theorem putR_size {n v : Int} (h : putOk n v = true) : ((putR n v).size : Int) = n := by
  rw [putR_of h, putS_size]; exact (isW_nat (putOk_w h)).1

theorem take_put_ok {n v : Int} (h : putOk n v = true) (more : ByteArray) : takeOk (putR n v ++ more) n = true := by
  have h1 := putR_size h
  have h2 : (putR n v ++ more).size = (putR n v).size + more.size := ByteArray.size_append
  simp [takeOk, putOk_w h]
  omega
theorem take_put_v {n v : Int} (h : putOk n v = true) (h0 : 0 ≤ v) (more : ByteArray) : takeV (putR n v ++ more) n = v := by
  rw [takeV, if_pos (take_put_ok h more), ba_append, putR_of h, putS_list, List.take_append_of_le_length (by rw [putL_length]; exact Nat.le_refl _), List.take_of_length_le (by rw [putL_length]; exact Nat.le_refl _), take_put _ _ (putOk_nat h h0)]
  omega
theorem take_put_r {n v : Int} (h : putOk n v = true) (more : ByteArray) : takeR (putR n v ++ more) n = more := by
  rw [takeR, if_pos (take_put_ok h more)]
  apply ba_ext
  rw [Lib.extract_data, ba_append, putR_of h, putS_list]
  have hl : (putL n.toNat v.toNat).length = n.toNat := putL_length _ _
  rw [List.drop_append_of_le_length (by omega), List.drop_of_length_le (by omega), List.nil_append]
  apply List.take_of_length_le
  have h2 : (putS n.toNat v.toNat ++ more).size = (putS n.toNat v.toNat).size + more.size := ByteArray.size_append
  rw [ba_len, h2, putS_size]
  omega
theorem take_put_e {n v : Int} (h : putOk n v = true) (more : ByteArray) : takeE (putR n v ++ more) n = 0 := by
  simp [takeE, take_put_ok h more, putOk_w h]

theorem takeOk_w {s : ByteArray} {n : Int} (h : takeOk s n = true) : isW n = true ∧ n ≤ s.size := by simpa [takeOk] using h
theorem takeE_of {s : ByteArray} {n : Int} (h : takeOk s n = true) : takeE s n = 0 := by simp [takeE, h, (takeOk_w h).1]
theorem takeE_not {s : ByteArray} {n : Int} (h : takeOk s n = false) : (takeE s n != 0) = true ∧ (takeE s n == 0) = false := by
  have := takeE_zero s n
  rw [h] at this
  exact ⟨by simp [bne, this], this⟩
theorem takeV_nonneg (s : ByteArray) (n : Int) : 0 ≤ takeV s n := by
  unfold takeV; split <;> omega
theorem takeV_pow {s : ByteArray} {n : Int} (h : takeOk s n = true) : (takeV s n).toNat < 256 ^ n.toNat := by
  obtain ⟨h1, h2⟩ := takeOk_w h
  have h3 := takeL_lt (s.data.toList.take n.toNat)
  have h4 : (s.data.toList.take n.toNat).length = n.toNat := by rw [List.length_take, ba_len]; omega
  rw [h4] at h3
  rw [takeV, if_pos h]
  omega
theorem takeV_lt (s : ByteArray) (n : Int) : takeV s n < 18446744073709551616 := by
  cases h : takeOk s n
  · simp [takeV, h]
  · have h1 := takeV_pow h
    have h2 := (isW_nat (takeOk_w h).1).2
    have h3 : 256 ^ n.toNat ≤ 256 ^ 8 := Nat.pow_le_pow_right (by omega) h2
    have h4 : (256 : Nat) ^ 8 = 18446744073709551616 := by decide
    omega
theorem put_take_ok {s : ByteArray} {n : Int} (h : takeOk s n = true) : putOk n (takeV s n) = true := by
  have h1 := takeV_pow h
  have e : ((256 ^ n.toNat : Nat) : Int) = 256 ^ n.toNat := by rw [Int.natCast_pow]; rfl
  have h0 := takeV_nonneg s n
  simp [putOk, (takeOk_w h).1]
  omega
theorem put_take_s {s : ByteArray} {n : Int} (h : takeOk s n = true) : putR n (takeV s n) ++ takeR s n = s := by
  obtain ⟨h1, h2⟩ := takeOk_w h
  rw [putR_of (put_take_ok h), takeV, if_pos h, takeR, if_pos h]
  apply ba_ext
  rw [ba_append, putS_list, Lib.extract_data, Int.toNat_natCast]
  have h4 : (s.data.toList.take n.toNat).length = n.toNat := by rw [List.length_take, ba_len]; omega
  have h5 := put_take (s.data.toList.take n.toNat)
  rw [h4] at h5
  rw [h5, List.take_of_length_le (l := s.data.toList.drop n.toNat) (by rw [List.length_drop, ba_len]; omega)]
  exact List.take_append_drop _ _
end Go.Proofs.YtkdiccedkjbpeaaGreatDoorR

/-
  What texts' bytes are, and the texts of bytes, as plain functions; what was laid is taken, and what is taken is laid as it was. No condition.
-/
namespace Go.Proofs.YtkdiccedkjbpeaaGreatDoorR

/-- a text's bytes, its length in k bytes: may it be, the error, the bytes -/
def layOk (k : Int) (s : ByteArray) : Bool := putOk k s.size
def layE (k : Int) (s : ByteArray) : Int := putE k s.size
def layR (k : Int) (s : ByteArray) : ByteArray := if layOk k s = true then putR k s.size ++ s else ⟨#[]⟩
/-- the text that bytes begin with: is there one, the error, the text, the rest -/
def ttOk (k : Int) (s : ByteArray) : Bool := takeOk s k && skipOk (takeR s k) (takeV s k)
def ttE (k : Int) (s : ByteArray) : Int := if takeOk s k = true then skipE (takeR s k) (takeV s k) else takeE s k
def ttA (k : Int) (s : ByteArray) : ByteArray := if takeOk s k = true then skipA (takeR s k) (takeV s k) else ⟨#[]⟩
def ttR (k : Int) (s : ByteArray) : ByteArray := if takeOk s k = true then skipB (takeR s k) (takeV s k) else ⟨#[]⟩

theorem layOk_one (s : ByteArray) : layOk 1 s = decide (s.size ≤ 255) := by
  simp [layOk, putOk, isW]; omega
theorem layOk_four (s : ByteArray) : layOk 4 s = decide (s.size < 4294967296) := by
  simp [layOk, putOk, isW]; omega
theorem layE_zero (k : Int) (s : ByteArray) : (layE k s == 0) = layOk k s := putE_zero _ _
theorem layE_of {k : Int} {s : ByteArray} (h : layOk k s = true) : layE k s = 0 := putE_of h
theorem layE_not {k : Int} {s : ByteArray} (h : layOk k s = false) : (layE k s != 0) = true ∧ (layE k s == 0) = false := putE_not h
theorem layR_of {k : Int} {s : ByteArray} (h : layOk k s = true) : layR k s = putR k s.size ++ s := by rw [layR, if_pos h]
theorem layR_size {k : Int} {s : ByteArray} (h : layOk k s = true) : ((layR k s).size : Int) = s.size + k := by
  rw [layR_of h, ByteArray.size_append]
  have := putR_size h
  omega
theorem layR_le (k : Int) (s : ByteArray) : (layR k s).size ≤ s.size + 8 := by
  cases h : layOk k s
  · rw [layR, h]; exact Nat.zero_le _
  · have h1 := layR_size h
    have h2 := isW_nat (putOk_w h)
    omega

theorem skip_front (a more : ByteArray) : skipOk (a ++ more) a.size = true ∧ skipA (a ++ more) a.size = a ∧ skipB (a ++ more) a.size = more := by
  have h : skipOk (a ++ more) a.size = true := by simp [skipOk, ByteArray.size_append]; omega
  refine ⟨h, ?_, ?_⟩
  · rw [skipA, if_pos h]
    apply ba_ext
    rw [Lib.extract_data, ba_append]
    simp
  · rw [skipB, if_pos h]
    apply ba_ext
    rw [Lib.extract_data, ba_append]
    simp
    exact List.take_of_length_le (by rw [ba_len]; exact Nat.le_refl _)
/-- what was laid is taken -/
theorem tt_lay {k : Int} {s : ByteArray} (h : layOk k s = true) (more : ByteArray) : ttE k (layR k s ++ more) = 0 ∧ ttA k (layR k s ++ more) = s ∧ ttR k (layR k s ++ more) = more := by
  have e : layR k s ++ more = putR k s.size ++ (s ++ more) := by rw [layR_of h, ByteArray.append_assoc]
  have h1 := take_put_ok h (s ++ more)
  have h2 := take_put_v h (by omega) (s ++ more)
  have h3 := take_put_r h (s ++ more)
  obtain ⟨g1, g2, g3⟩ := skip_front s more
  rw [e]
  refine ⟨?_, ?_, ?_⟩
  · rw [ttE, if_pos h1, h2, h3, skipE, if_pos g1]
  · rw [ttA, if_pos h1, h2, h3, g2]
  · rw [ttR, if_pos h1, h2, h3, g3]

theorem ttE_zero (k : Int) (s : ByteArray) : (ttE k s == 0) = ttOk k s := by
  cases h : takeOk s k
  · have := (takeE_not h).2
    simp [ttE, ttOk, h] at this ⊢
    exact this
  · cases g : skipOk (takeR s k) (takeV s k) <;> simp [ttE, ttOk, h, g, skipE]
theorem ttE_of {k : Int} {s : ByteArray} (h : ttOk k s = true) : ttE k s = 0 := by have := ttE_zero k s; rw [h] at this; simpa using this
theorem ttE_not {k : Int} {s : ByteArray} (h : ttOk k s = false) : (ttE k s != 0) = true ∧ (ttE k s == 0) = false := by
  have := ttE_zero k s
  rw [h] at this
  exact ⟨by simp [bne, this], this⟩
theorem ttOk_parts {k : Int} {s : ByteArray} (h : ttOk k s = true) : takeOk s k = true ∧ takeV s k ≤ (takeR s k).size := by
  simp [ttOk, skipOk] at h
  exact h
theorem takeR_size {s : ByteArray} {n : Int} (h : takeOk s n = true) : ((takeR s n).size : Int) + n = s.size := by
  obtain ⟨h1, h2⟩ := takeOk_w h
  have h3 := (isW_nat h1).1
  rw [takeR, if_pos h, ByteArray.size_extract]
  omega
theorem ttA_size {k : Int} {s : ByteArray} (h : ttOk k s = true) : ((ttA k s).size : Int) = takeV s k := by
  obtain ⟨h1, h2⟩ := ttOk_parts h
  have h0 := takeV_nonneg s k
  rw [ttA, if_pos h1, skipA, if_pos (by simp [skipOk]; exact h2), ByteArray.size_extract]
  omega
theorem ttA_ttR {k : Int} {s : ByteArray} (h : ttOk k s = true) : ttA k s ++ ttR k s = takeR s k := by
  obtain ⟨h1, h2⟩ := ttOk_parts h
  have h0 := takeV_nonneg s k
  have h3 : skipOk (takeR s k) (takeV s k) = true := by simp [skipOk]; exact h2
  rw [ttA, ttR, if_pos h1, if_pos h1, skipA, skipB, if_pos h3, if_pos h3]
  apply ba_ext
  rw [ba_append, Lib.extract_data, Lib.extract_data]
  simp only [List.drop_zero, Nat.sub_zero]
  rw [List.take_of_length_le (l := List.drop _ _) (by rw [List.length_drop, ba_len]; omega)]
  exact List.take_append_drop _ _
/-- what is taken is laid as it was -/
theorem lay_tt {k : Int} {s : ByteArray} (h : ttOk k s = true) : layOk k (ttA k s) = true ∧ layR k (ttA k s) ++ ttR k s = s := by
  obtain ⟨h1, h2⟩ := ttOk_parts h
  have e := ttA_size h
  have h3 : layOk k (ttA k s) = true := by rw [layOk, e]; exact put_take_ok h1
  refine ⟨h3, ?_⟩
  rw [layR_of h3, e, ByteArray.append_assoc, ttA_ttR h]
  exact put_take_s h1
theorem tt_sizes {k : Int} {s : ByteArray} (h : ttOk k s = true) : ((ttA k s).size : Int) + (ttR k s).size + k = s.size := by
  have h1 := congrArg ByteArray.size (ttA_ttR h)
  rw [ByteArray.size_append] at h1
  have h2 := takeR_size (ttOk_parts h).1
  omega
theorem takeR_le (s : ByteArray) (k : Int) : (takeR s k).size ≤ s.size := by
  unfold takeR
  split
  · rw [ByteArray.size_extract]; omega
  · exact Nat.zero_le _
theorem ttA_le (k : Int) (s : ByteArray) : (ttA k s).size ≤ s.size := by
  unfold ttA skipA
  have := takeR_le s k
  split
  · split
    · rw [ByteArray.size_extract]; omega
    · exact Nat.zero_le _
  · exact Nat.zero_le _
theorem ttR_le (k : Int) (s : ByteArray) : (ttR k s).size ≤ s.size := by
  unfold ttR skipB
  have := takeR_le s k
  split
  · split
    · rw [ByteArray.size_extract]; omega
    · exact Nat.zero_le _
  · exact Nat.zero_le _
end Go.Proofs.YtkdiccedkjbpeaaGreatDoorR

/-
  What a table's bytes are, as plain functions: the value that bytes begin with, the items (values, or fields) that stand one behind the other; what is taken hangs on its own bytes alone. No condition.
-/
namespace Go.Proofs.YtkdiccedkjbpeaaGreatDoorR

/-- what stands behind a kind's byte: so many bytes; -1: a long text; -2: a row; -3: a table; -4: it is no kind -/
def kindV (c : Int) : Int :=
  if c = 116 ∨ c = 98 ∨ c = 66 then 1 else if c = 115 ∨ c = 117 then 2 else if c = 73 ∨ c = 105 ∨ c = 102 then 4
  else if c = 108 ∨ c = 100 ∨ c = 84 then 8 else if c = 68 then 5 else if c = 83 ∨ c = 120 then -1 else if c = 86 then 0
  else if c = 65 then -2 else if c = 70 then -3 else -4
def wErr (e : Int) : Int := if e = 2 then 3 else e
structure Res where
  deep : Int
  rest : ByteArray
  err : Int
structure Item where
  key : ByteArray
  value : ByteArray
  deep : Int
def deepest : List Item → Int
  | [] => 0
  | i :: l => max i.deep (deepest l)
def front (s r : ByteArray) : ByteArray := s.extract 0 (s.size - r.size)
def flat (t : ByteArray) (n : Int) : Res := if n = -1 then ⟨0, ttR 4 t, ttE 4 t⟩ else ⟨0, skipB t n, skipE t n⟩
def nestOf (t : ByteArray) (room : Int) (r : List Item × Int) : Res :=
  if ttOk 4 t = true then
    if room < 1 then ⟨0, ⟨#[]⟩, 5⟩
    else if r.2 = 0 then ⟨deepest r.1 + 1, ttR 4 t, 0⟩ else ⟨0, ⟨#[]⟩, wErr r.2⟩
  else ⟨0, ⟨#[]⟩, ttE 4 t⟩
def behindKey (kf : Bool) (b : ByteArray) : ByteArray := if kf = true then ttR 1 b else b
def itemKey (kf : Bool) (b : ByteArray) : ByteArray := if kf = true then ttA 1 b else ⟨#[]⟩
theorem behindKey_le (kf : Bool) (b : ByteArray) : (behindKey kf b).size ≤ b.size := by
  unfold behindKey
  split
  · exact ttR_le 1 b
  · exact Nat.le_refl _

/-- both in one: none: the value that bytes begin with, with so much room; some: the items that stand one behind the other, up to the first that may not be -/
def tabW (md : Option Bool) (s : ByteArray) (room : Int) : Res × (List Item × Int) :=
  match md with
  | none =>
    if _h : takeOk s 1 = true then
      if kindV (takeV s 1) = -4 then (⟨0, ⟨#[]⟩, 3⟩, ([], 0))
      else if kindV (takeV s 1) < -1 then (nestOf (takeR s 1) room (tabW (some (kindV (takeV s 1) == -3)) (ttA 4 (takeR s 1)) (room - 1)).2, ([], 0))
      else (flat (takeR s 1) (kindV (takeV s 1)), ([], 0))
    else (⟨0, ⟨#[]⟩, 2⟩, ([], 0))
  | some kf =>
    if s.size = 0 then (⟨0, ⟨#[]⟩, 0⟩, ([], 0))
    else if (kf && !ttOk 1 s) = true then (⟨0, ⟨#[]⟩, 0⟩, ([], ttE 1 s))
    else if (tabW none (behindKey kf s) room).1.err = 0 then
      if _h : (tabW none (behindKey kf s) room).1.rest.size < s.size then
        (⟨0, ⟨#[]⟩, 0⟩, (⟨itemKey kf s, front (behindKey kf s) (tabW none (behindKey kf s) room).1.rest, (tabW none (behindKey kf s) room).1.deep⟩ :: (tabW (some kf) (tabW none (behindKey kf s) room).1.rest room).2.1, (tabW (some kf) (tabW none (behindKey kf s) room).1.rest room).2.2))
      else (⟨0, ⟨#[]⟩, 0⟩, ([], 0))
    else (⟨0, ⟨#[]⟩, 0⟩, ([], (tabW none (behindKey kf s) room).1.err))
  termination_by 2 * s.size + (if md.isSome then 1 else 0)
  decreasing_by
    all_goals simp
    all_goals first
      | (have h1 := takeR_size _h; have h2 := ttA_le 4 (takeR s 1); omega)
      | (have h2 := behindKey_le kf s; omega)
      | omega
/-- the value that bytes begin with, with so much room: how deep it is, the rest, the error -/
def val (s : ByteArray) (room : Int) : Res := (tabW none s room).1
/-- the items that stand one behind the other, up to the first that may not be; its error -/
def items (kf : Bool) (b : ByteArray) (room : Int) : List Item × Int := (tabW (some kf) b room).2
theorem val_eq (s : ByteArray) (room : Int) : val s room =
    if takeOk s 1 = true then
      if kindV (takeV s 1) = -4 then ⟨0, ⟨#[]⟩, 3⟩
      else if kindV (takeV s 1) < -1 then nestOf (takeR s 1) room (items (kindV (takeV s 1) == -3) (ttA 4 (takeR s 1)) (room - 1))
      else flat (takeR s 1) (kindV (takeV s 1))
    else ⟨0, ⟨#[]⟩, 2⟩ := by
  unfold val items
  rw [tabW]
  by_cases h1 : takeOk s 1 = true
  · rw [dif_pos h1, if_pos h1]
    by_cases h2 : kindV (takeV s 1) = -4
    · rw [if_pos h2, if_pos h2]
    · rw [if_neg h2, if_neg h2]
      by_cases h3 : kindV (takeV s 1) < -1
      · rw [if_pos h3, if_pos h3]
      · rw [if_neg h3, if_neg h3]
  · rw [dif_neg h1, if_neg h1]
theorem items_eq (kf : Bool) (b : ByteArray) (room : Int) : items kf b room =
    if b.size = 0 then ([], 0)
    else if (kf && !ttOk 1 b) = true then ([], ttE 1 b)
    else if (val (behindKey kf b) room).err = 0 then
      if (val (behindKey kf b) room).rest.size < b.size then
        (⟨itemKey kf b, front (behindKey kf b) (val (behindKey kf b) room).rest, (val (behindKey kf b) room).deep⟩ :: (items kf (val (behindKey kf b) room).rest room).1, (items kf (val (behindKey kf b) room).rest room).2)
      else ([], 0)
    else ([], (val (behindKey kf b) room).err) := by
  unfold val items
  conv => lhs; rw [tabW]
  by_cases h1 : b.size = 0
  · rw [if_pos h1, if_pos h1]
  · rw [if_neg h1, if_neg h1]
    by_cases h2 : (kf && !ttOk 1 b) = true
    · rw [if_pos h2, if_pos h2]
    · rw [if_neg h2, if_neg h2]
      by_cases h3 : (tabW none (behindKey kf b) room).1.err = 0
      · rw [if_pos h3, if_pos h3]
        by_cases h4 : (tabW none (behindKey kf b) room).1.rest.size < b.size
        · rw [dif_pos h4, if_pos h4]
        · rw [dif_neg h4, if_neg h4]
      · rw [if_neg h3, if_neg h3]
def nest (kf : Bool) (t : ByteArray) (room : Int) : Res := nestOf t room (items kf (ttA 4 t) (room - 1))

theorem skipB_le (s : ByteArray) (n : Int) : (skipB s n).size ≤ s.size := by
  unfold skipB
  split
  · rw [ByteArray.size_extract]; omega
  · exact Nat.zero_le _
theorem nest_rest (t : ByteArray) (room : Int) (r : List Item × Int) : (nestOf t room r).rest.size ≤ t.size := by
  have := ttR_le 4 t
  unfold nestOf
  split
  · split
    · exact Nat.zero_le _
    · split
      · exact this
      · exact Nat.zero_le _
  · exact Nat.zero_le _
theorem flat_rest (t : ByteArray) (n : Int) : (flat t n).rest.size ≤ t.size := by
  have := ttR_le 4 t
  have := skipB_le t n
  unfold flat
  split <;> assumption
theorem val_rest {s : ByteArray} {room : Int} (h : (val s room).err = 0) : (val s room).rest.size < s.size := by
  rw [val_eq] at h ⊢
  split at h
  · rename_i h1
    have h2 := takeR_size h1
    rw [if_pos h1]
    split at h
    · cases h
    · rename_i h3
      rw [if_neg h3]
      split
      · have := nest_rest (takeR s 1) room (items (kindV (takeV s 1) == -3) (ttA 4 (takeR s 1)) (room - 1))
        omega
      · have := flat_rest (takeR s 1) (kindV (takeV s 1))
        omega
  · cases h
theorem items_nil (kf : Bool) {b : ByteArray} (room : Int) (h : b.size = 0) : items kf b room = ([], 0) := by rw [items_eq, if_pos h]
theorem items_key (b : ByteArray) (room : Int) (h : b.size ≠ 0) (hk : ttOk 1 b = false) : items true b room = ([], ttE 1 b) := by
  rw [items_eq, if_neg h, if_pos (by simp [hk])]
theorem items_err (kf : Bool) {b : ByteArray} {room : Int} (h : b.size ≠ 0) (hk : (kf && !ttOk 1 b) = false) (hv : (val (behindKey kf b) room).err ≠ 0) : items kf b room = ([], (val (behindKey kf b) room).err) := by
  rw [items_eq, if_neg h, if_neg (by simp [hk]), if_neg hv]
theorem items_go (kf : Bool) {b : ByteArray} {room : Int} (h : b.size ≠ 0) (hk : (kf && !ttOk 1 b) = false) (hv : (val (behindKey kf b) room).err = 0) :
    items kf b room = (⟨itemKey kf b, front (behindKey kf b) (val (behindKey kf b) room).rest, (val (behindKey kf b) room).deep⟩ :: (items kf (val (behindKey kf b) room).rest room).1, (items kf (val (behindKey kf b) room).rest room).2) := by
  have h1 := val_rest hv
  have h2 := behindKey_le kf b
  rw [items_eq, if_neg h, if_neg (by simp [hk]), if_pos hv, if_pos (by omega)]

theorem deepest_nonneg (l : List Item) : 0 ≤ deepest l := by
  induction l with
  | nil => exact Int.le_refl _
  | cons i l ih => unfold deepest; omega
theorem deepest_append (a b : List Item) : deepest (a ++ b) = max (deepest a) (deepest b) := by
  induction a with
  | nil => have := deepest_nonneg b; simp [deepest]; omega
  | cons i l ih => simp only [List.cons_append, deepest, ih]; omega
theorem front_append (a r : ByteArray) : front (a ++ r) r = a := by
  apply ba_ext
  unfold front
  rw [Lib.extract_data, ba_append, ByteArray.size_append]
  simp
theorem takeE_one {s : ByteArray} (h : takeOk s 1 = false) : takeE s 1 = 2 := by
  rw [takeE, if_pos (by decide), if_neg (by simp [h])]
theorem ttE_one {s : ByteArray} (h : ttOk 1 s = false) : ttE 1 s = 2 := by
  cases h1 : takeOk s 1
  · rw [ttE, if_neg (by simp [h1]), takeE_one h1]
  · have : skipOk (takeR s 1) (takeV s 1) = false := by simpa [ttOk, h1] using h
    rw [ttE, if_pos h1, skipE, if_neg (by simp [this])]
theorem ttE_four {s : ByteArray} (h : ttOk 4 s = false) : ttE 4 s = 2 := by
  cases h1 : takeOk s 4
  · rw [ttE, if_neg (by simp [h1]), takeE, if_pos (by decide), if_neg (by simp [h1])]
  · have : skipOk (takeR s 4) (takeV s 4) = false := by simpa [ttOk, h1] using h
    rw [ttE, if_pos h1, skipE, if_neg (by simp [this])]
theorem skip_parts {t : ByteArray} {n : Int} (h0 : 0 ≤ n) (h : skipE t n = 0) : ((skipA t n).size : Int) = n ∧ skipA t n ++ skipB t n = t := by
  have h1 : skipOk t n = true := by
    cases g : skipOk t n
    · rw [skipE, if_neg (by simp [g])] at h; cases h
    · rfl
  have h2 : n ≤ t.size := by simpa [skipOk] using h1
  rw [skipA, skipB, if_pos h1, if_pos h1]
  refine ⟨by rw [ByteArray.size_extract]; omega, ?_⟩
  apply ba_ext
  rw [ba_append, Lib.extract_data, Lib.extract_data]
  simp only [List.drop_zero, Nat.sub_zero]
  rw [List.take_of_length_le (l := List.drop _ _) (by rw [List.length_drop, ba_len]; omega)]
  exact List.take_append_drop _ _
theorem kindV_cases (c : Int) : kindV c = -4 ∨ kindV c = -3 ∨ kindV c = -2 ∨ kindV c = -1 ∨ 0 ≤ kindV c := by
  unfold kindV
  repeat' split
  all_goals omega

/-- flat values hang on their own bytes alone -/
theorem flat_good {t : ByteArray} {n : Int} (hn : n = -1 ∨ 0 ≤ n) (h : (flat t n).err = 0) :
    (flat t n).deep = 0 ∧ ∃ a, t = a ++ (flat t n).rest ∧ ∀ r', flat (a ++ r') n = ⟨0, r', 0⟩ := by
  rcases hn with rfl | hn
  · simp only [flat, if_pos] at h ⊢
    have hk : ttOk 4 t = true := by have := ttE_zero 4 t; rw [h] at this; simpa using this.symm
    obtain ⟨h1, h2⟩ := lay_tt hk
    refine ⟨trivial, _, h2.symm, fun r' => ?_⟩
    obtain ⟨g1, g2, g3⟩ := tt_lay h1 r'
    rw [g1, g3]
  · have hne : ¬ n = -1 := by omega
    simp only [flat, if_neg hne] at h ⊢
    obtain ⟨h1, h2⟩ := skip_parts hn h
    refine ⟨trivial, _, h2.symm, fun r' => ?_⟩
    obtain ⟨g1, g2, g3⟩ := skip_front (skipA t n) r'
    rw [h1] at g1 g2 g3
    rw [g3, skipE, if_pos g1]

/-- what is taken of s with so much room hangs on its own bytes alone, and on no more room than it is deep -/
def ValGood (s : ByteArray) (room : Int) : Prop := (val s room).err = 0 → 0 ≤ (val s room).deep ∧ ((val s room).deep ≤ room ∨ (val s room).deep = 0) ∧
  ∃ a, s = a ++ (val s room).rest ∧ ∀ r' room', (val s room).deep ≤ room' → val (a ++ r') room' = ⟨(val s room).deep, r', 0⟩
def ItemsGood (kf : Bool) (b : ByteArray) (room : Int) : Prop := (items kf b room).2 = 0 → (deepest (items kf b room).1 ≤ room ∨ deepest (items kf b room).1 = 0) ∧
  ∀ room', deepest (items kf b room).1 ≤ room' → items kf b room' = items kf b room

theorem items_good_of (n : Nat) (ih : ∀ s room, s.size ≤ n → ValGood s room) (kf : Bool) (room : Int) : ∀ (m : Nat) (b : ByteArray), b.size ≤ m → b.size ≤ n → ItemsGood kf b room := by
  intro m
  induction m with
  | zero =>
    intro b hb _ _
    rw [items_nil kf room (by omega)]
    exact ⟨.inr rfl, fun r _ => items_nil kf r (by omega)⟩
  | succ m ihm =>
    intro b hb hn h
    by_cases h0 : b.size = 0
    · rw [items_nil kf room h0]
      exact ⟨.inr rfl, fun r _ => items_nil kf r h0⟩
    · cases hk : (kf && !ttOk 1 b)
      · by_cases hv : (val (behindKey kf b) room).err = 0
        · have hbk := behindKey_le kf b
          have hlt := val_rest hv
          obtain ⟨g1, g2, a, g3, g4⟩ := ih (behindKey kf b) room (by omega) hv
          rw [items_go kf h0 hk hv] at h ⊢
          obtain ⟨f1, f2⟩ := ihm (val (behindKey kf b) room).rest (by omega) (by omega) h
          have hd := deepest_nonneg (items kf (val (behindKey kf b) room).rest room).1
          simp only [deepest]
          refine ⟨by omega, fun room' hr => ?_⟩
          have e1 : val (behindKey kf b) room' = ⟨(val (behindKey kf b) room).deep, (val (behindKey kf b) room).rest, 0⟩ := by
            have := g4 (val (behindKey kf b) room).rest room' (by omega)
            rwa [← g3] at this
          have e2 := f2 room' (by omega)
          rw [items_go kf (room := room') h0 hk (by rw [e1]), e1]
          simp only
          rw [e2]
        · rw [items_err kf h0 hk hv] at h
          exact absurd h hv
      · obtain ⟨rfl, hk2⟩ : kf = true ∧ ttOk 1 b = false := by simpa using hk
        rw [items_key b room h0 hk2, ttE_one hk2] at h
        cases h
theorem put_one_front {s : ByteArray} (h : takeOk s 1 = true) (t : ByteArray) : takeOk (putR 1 (takeV s 1) ++ t) 1 = true ∧ takeV (putR 1 (takeV s 1) ++ t) 1 = takeV s 1 ∧ takeR (putR 1 (takeV s 1) ++ t) 1 = t :=
  ⟨take_put_ok (put_take_ok h) t, take_put_v (put_take_ok h) (takeV_nonneg _ _) t, take_put_r (put_take_ok h) t⟩
theorem nestOf_good {kf : Bool} {t : ByteArray} {room : Int} (hi : ItemsGood kf (ttA 4 t) (room - 1)) (h : (nest kf t room).err = 0) :
    0 < (nest kf t room).deep ∧ (nest kf t room).deep ≤ room ∧ ∃ a, t = a ++ (nest kf t room).rest ∧ a = layR 4 (ttA 4 t) ∧ ∀ r' room', (nest kf t room).deep ≤ room' → nest kf (a ++ r') room' = ⟨(nest kf t room).deep, r', 0⟩ := by
  unfold nest nestOf at h ⊢
  rcases Bool.eq_false_or_eq_true (ttOk 4 t) with hk | hk
  rotate_left
  · rw [if_neg (by simp [hk]), ttE_four hk] at h
    cases h
  · rw [if_pos hk] at h ⊢
    by_cases hr : room < 1
    · rw [if_pos hr] at h; cases h
    · rw [if_neg hr] at h ⊢
      by_cases he : (items kf (ttA 4 t) (room - 1)).2 = 0
      · rw [if_pos he]
        obtain ⟨f1, f2⟩ := hi he
        have hd := deepest_nonneg (items kf (ttA 4 t) (room - 1)).1
        simp only
        obtain ⟨h1, h2⟩ := lay_tt hk
        refine ⟨by omega, by omega, _, h2.symm, rfl, fun r' room' hr' => ?_⟩
        obtain ⟨g1, g2, g3⟩ := tt_lay h1 r'
        have g4 : ttOk 4 (layR 4 (ttA 4 t) ++ r') = true := by rw [← ttE_zero, g1]; rfl
        rw [if_pos g4, if_neg (by omega), g2, f2 (room' - 1) (by omega), if_pos he, g3]
      · rw [if_neg he] at h
        unfold wErr at h
        simp only at h
        split at h
        · cases h
        · exact absurd h he
theorem val_nest {s : ByteArray} (room : Int) (h : takeOk s 1 = true) (hk : kindV (takeV s 1) = -2 ∨ kindV (takeV s 1) = -3) : val s room = nest (kindV (takeV s 1) == -3) (takeR s 1) room := by
  rw [val_eq, if_pos h, if_neg (by omega), if_pos (by omega)]; rfl
theorem val_flat {s : ByteArray} (room : Int) (h : takeOk s 1 = true) (hk : kindV (takeV s 1) = -1 ∨ 0 ≤ kindV (takeV s 1)) : val s room = flat (takeR s 1) (kindV (takeV s 1)) := by
  rw [val_eq, if_pos h, if_neg (by omega), if_neg (by omega)]
theorem val_none {s : ByteArray} (room : Int) (h : takeOk s 1 = true) (hk : kindV (takeV s 1) = -4) : val s room = ⟨0, ⟨#[]⟩, 3⟩ := by
  rw [val_eq, if_pos h, if_pos hk]
theorem val_more {s : ByteArray} (room : Int) (h : takeOk s 1 = false) : val s room = ⟨0, ⟨#[]⟩, 2⟩ := by
  rw [val_eq, if_neg (by simp [h])]
theorem val_good_le : ∀ (n : Nat) (s : ByteArray) (room : Int), s.size ≤ n → ValGood s room := by
  intro n
  induction n with
  | zero =>
    intro s room hs h
    have := val_rest h
    omega
  | succ n ih =>
    intro s room hs h
    cases ht : takeOk s 1
    · rw [val_more room ht] at h; cases h
    · have hsz := takeR_size ht
      have hle := ttA_le 4 (takeR s 1)
      have e0 := put_take_s ht
      rcases kindV_cases (takeV s 1) with hk | hk | hk | hk | hk
      · rw [val_none room ht hk] at h; cases h
      · rw [val_nest room ht (.inr hk)] at h ⊢
        obtain ⟨g1, g2, a, g3, -, g4⟩ := nestOf_good (items_good_of n ih _ _ n _ (by omega) (by omega)) h
        refine ⟨by omega, .inl g2, putR 1 (takeV s 1) ++ a, ?_, fun r' room' hr => ?_⟩
        · rw [ByteArray.append_assoc, ← g3, e0]
        · obtain ⟨p1, p2, p3⟩ := put_one_front ht (a ++ r')
          rw [ByteArray.append_assoc, val_nest room' p1 (by rw [p2]; exact .inr hk), p2, p3, g4 r' room' hr]
      · rw [val_nest room ht (.inl hk)] at h ⊢
        obtain ⟨g1, g2, a, g3, -, g4⟩ := nestOf_good (items_good_of n ih _ _ n _ (by omega) (by omega)) h
        refine ⟨by omega, .inl g2, putR 1 (takeV s 1) ++ a, ?_, fun r' room' hr => ?_⟩
        · rw [ByteArray.append_assoc, ← g3, e0]
        · obtain ⟨p1, p2, p3⟩ := put_one_front ht (a ++ r')
          rw [ByteArray.append_assoc, val_nest room' p1 (by rw [p2]; exact .inl hk), p2, p3, g4 r' room' hr]
      · rw [val_flat room ht (.inl hk)] at h ⊢
        obtain ⟨g1, a, g3, g4⟩ := flat_good (.inl hk) h
        refine ⟨by omega, .inr g1, putR 1 (takeV s 1) ++ a, ?_, fun r' room' hr => ?_⟩
        · rw [ByteArray.append_assoc, ← g3, e0]
        · obtain ⟨p1, p2, p3⟩ := put_one_front ht (a ++ r')
          rw [ByteArray.append_assoc, val_flat room' p1 (by rw [p2]; exact .inl hk), p2, p3, g4 r', g1]
      · rw [val_flat room ht (.inr hk)] at h ⊢
        obtain ⟨g1, a, g3, g4⟩ := flat_good (.inr hk) h
        refine ⟨by omega, .inr g1, putR 1 (takeV s 1) ++ a, ?_, fun r' room' hr => ?_⟩
        · rw [ByteArray.append_assoc, ← g3, e0]
        · obtain ⟨p1, p2, p3⟩ := put_one_front ht (a ++ r')
          rw [ByteArray.append_assoc, val_flat room' p1 (by rw [p2]; exact .inr hk), p2, p3, g4 r', g1]
theorem val_good (s : ByteArray) (room : Int) : ValGood s room := val_good_le s.size s room (Nat.le_refl _)
theorem items_good (kf : Bool) (b : ByteArray) (room : Int) : ItemsGood kf b room := items_good_of b.size (fun s r _ => val_good s r) kf room b.size b (Nat.le_refl _) (Nat.le_refl _)
theorem nest_good {kf : Bool} {t : ByteArray} {room : Int} (h : (nest kf t room).err = 0) :
    0 < (nest kf t room).deep ∧ (nest kf t room).deep ≤ room ∧ ∃ a, t = a ++ (nest kf t room).rest ∧ a = layR 4 (ttA 4 t) ∧ ∀ r' room', (nest kf t room).deep ≤ room' → nest kf (a ++ r') room' = ⟨(nest kf t room).deep, r', 0⟩ :=
  nestOf_good (items_good _ _ _) h

/-- the errors that there are -/
theorem val_deep_err {s : ByteArray} {room : Int} (h : (val s room).err ≠ 0) : (val s room).deep = 0 ∧ (val s room).rest = ⟨#[]⟩ := by
  cases ht : takeOk s 1
  · rw [val_more room ht]; exact ⟨rfl, rfl⟩
  · rcases kindV_cases (takeV s 1) with hk | hk | hk | hk | hk
    · rw [val_none room ht hk]; exact ⟨rfl, rfl⟩
    · rw [val_nest room ht (.inr hk)] at h ⊢
      unfold nest nestOf at h ⊢
      repeat' split
      all_goals first | exact ⟨rfl, rfl⟩ | (exfalso; simp_all)
    · rw [val_nest room ht (.inl hk)] at h ⊢
      unfold nest nestOf at h ⊢
      repeat' split
      all_goals first | exact ⟨rfl, rfl⟩ | (exfalso; simp_all)
    · rw [val_flat room ht (.inl hk)] at h ⊢
      have hk4 : ttOk 4 (takeR s 1) = false := by
        rw [hk] at h
        simp only [flat, if_pos] at h
        cases g : ttOk 4 (takeR s 1)
        · rfl
        · exact absurd (ttE_of g) h
      rw [hk]
      simp only [flat, if_pos]
      refine ⟨trivial, ?_⟩
      unfold ttR skipB
      simp only [ttOk] at hk4
      split
      · rename_i h1
        rw [h1] at hk4
        simp only [Bool.true_and] at hk4
        rw [if_neg (by simp [hk4])]
      · rfl
    · rw [val_flat room ht (.inr hk)] at h ⊢
      have hne : ¬ kindV (takeV s 1) = -1 := by omega
      simp only [flat, if_neg hne] at h ⊢
      refine ⟨trivial, ?_⟩
      unfold skipE at h
      unfold skipB
      split
      · rename_i h1
        rw [if_pos h1] at h
        exact absurd rfl h
      · rfl
end Go.Proofs.YtkdiccedkjbpeaaGreatDoorR

/-
  text.Short, TakeShort, TakeLong answer as the plain functions of PText say, for every text of fewer than 2^62 bytes; nothing that was there is changed. Condition: the package num's table of widths holds 1, 2, 4, 8.
-/
namespace Go.Proofs.YtkdiccedkjbpeaaGreatDoorR
open Go.RowKit

theorem lay_any (k : Int) (s : ByteArray) (w : World) (hw : Wid w) (hk : isW k = true) (hs : s.size < 4611686018427387904) :
    Calls Tryz.prog 120 #[.int .i64 k, .string s] w fun e w' => e = .returned (.tuple #[.string (layR k s), .int .i64 (layE k s)]) ∧ Below w.heap.size w w' := by
  go_enter Tryz.func120, Tryz.ntmps120
  go_wp2_with fail
  refine (put_any k s.size w hw (by omega) (by omega)).mono ?_
  rintro e w1 ⟨rfl, hb⟩
  cases h : layOk k s
  · have h' : putOk k s.size = false := h
    obtain ⟨t1, -⟩ := putE_not h'
    have H := Lib.hid h
    clear h h'
    go_wp2
    go_ret2
    exact ⟨by simp [layR, layE, H.out], hb⟩
  · have h' : putOk k s.size = true := h
    rw [putE_of h']
    have s1 : (putR k s.size).size ≤ 8 := by have := putR_size h'; have := isW_nat hk; omega
    have H := Lib.hid h
    clear h h'
    go_wp2
    go_ret2
    refine ⟨?_, hb⟩
    rw [layR_of H.out, layE_of H.out]
    rfl

theorem ttake_any (k : Int) (s : ByteArray) (w : World) (hw : Wid w) (hs : s.size < 4611686018427387904) :
    Calls Tryz.prog 138 #[.int .i64 k, .string s] w fun e w' => e = .returned (.tuple #[.string (ttA k s), .string (ttR k s), .int .i64 (ttE k s)]) ∧ Below w.heap.size w w' := by
  go_enter Tryz.func138, Tryz.ntmps138
  go_wp2_with fail
  refine (take_any s k w hw).mono ?_
  rintro e w1 ⟨rfl, hb⟩
  cases h : takeOk s k
  · obtain ⟨t1, -⟩ := takeE_not h
    have H := Lib.hid h
    clear h
    go_wp2
    go_ret3
    exact ⟨by simp [ttA, ttR, ttE, H.out], hb⟩
  · rw [takeE_of h]
    have H := Lib.hid h
    clear h
    go_wp2_with fail
    refine (skip_any _ _ w1 (takeV_nonneg s k) (by have := takeR_le s k; unfold maxLen; omega)).mono ?_
    rintro e w2 ⟨rfl, hb2⟩
    go_wp2
    go_ret3
    exact ⟨by simp [ttA, ttR, ttE, H.out], hb.trans (hb2.mono hb.size)⟩

theorem short_any (s : ByteArray) (w : World) (hw : Wid w) (hs : s.size < 4611686018427387904) :
    Calls Tryz.prog 111 #[.string s] w fun e w' => e = .returned (.tuple #[.string (layR 1 s), .int .i64 (layE 1 s)]) ∧ Below w.heap.size w w' := by
  go_enter Tryz.func111, Tryz.ntmps111
  go_wp2_with fail
  refine (lay_any 1 s w hw (by decide) hs).mono ?_
  rintro e w1 ⟨rfl, hb⟩
  go_wp2
  go_ret2
  exact ⟨rfl, hb⟩
theorem takeShort_any (s : ByteArray) (w : World) (hw : Wid w) (hs : s.size < 4611686018427387904) :
    Calls Tryz.prog 139 #[.string s] w fun e w' => e = .returned (.tuple #[.string (ttA 1 s), .string (ttR 1 s), .int .i64 (ttE 1 s)]) ∧ Below w.heap.size w w' := by
  go_enter Tryz.func139, Tryz.ntmps139
  go_wp2_with fail
  refine (ttake_any 1 s w hw hs).mono ?_
  rintro e w1 ⟨rfl, hb⟩
  go_wp2
  go_ret3
  exact ⟨rfl, hb⟩
theorem takeLong_any (s : ByteArray) (w : World) (hw : Wid w) (hs : s.size < 4611686018427387904) :
    Calls Tryz.prog 134 #[.string s] w fun e w' => e = .returned (.tuple #[.string (ttA 4 s), .string (ttR 4 s), .int .i64 (ttE 4 s)]) ∧ Below w.heap.size w w' := by
  go_enter Tryz.func134, Tryz.ntmps134
  go_wp2_with fail
  refine (ttake_any 4 s w hw hs).mono ?_
  rintro e w1 ⟨rfl, hb⟩
  go_wp2
  go_ret3
  exact ⟨rfl, hb⟩
end Go.Proofs.YtkdiccedkjbpeaaGreatDoorR

/-
  text.Long answers as the plain functions of PText say, for every text of fewer than 2^62 bytes; nothing that was there is changed. Condition: the package num's table of widths holds 1, 2, 4, 8.
-/
namespace Go.Proofs.YtkdiccedkjbpeaaGreatDoorR
open Go.RowKit

theorem long_any (s : ByteArray) (w : World) (hw : Wid w) (hs : s.size < 4611686018427387904) :
    Calls Tryz.prog 112 #[.string s] w fun e w' => e = .returned (.tuple #[.string (layR 4 s), .int .i64 (layE 4 s)]) ∧ Below w.heap.size w w' := by
  go_enter Tryz.func112, Tryz.ntmps112
  go_wp2_with fail
  refine (lay_any 4 s w hw (by decide) hs).mono ?_
  rintro e w1 ⟨rfl, hb⟩
  go_wp2
  go_ret2
  exact ⟨rfl, hb⟩
end Go.Proofs.YtkdiccedkjbpeaaGreatDoorR
