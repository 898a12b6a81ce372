/-
  Whole methods: which are right, their bytes, the method of bytes; a right method is taken as it was, with anything behind it none is; what is taken is right, and laid as it was. No condition.
-/
import Derived.Test.YtkdiccedkjbpeaaGreatDoorRJMV
namespace Go.Proofs.YtkdiccedkjbpeaaGreatDoorR

structure Me where
  c : Int
  i : Int
  l : List MV
def mLs (m : Me) : List UInt8 := (sOf m.c m.i).data.toList
def mE (m : Me) : Int := if sIs m.c m.i = true then (if (sOf m.c m.i).size = m.l.length then layEr (mLs m) m.l else 7) else 7
def mB (m : Me) : ByteArray := if mE m = 0 then putR 2 m.c ++ putR 2 m.i ++ layBy (mLs m) m.l [] else ⟨#[]⟩
def wfM (m : Me) : Prop := ∀ v ∈ m.l, wfV v
/-- the method that bytes are -/
def tmOf (c i : Int) (s : ByteArray) : Option Me := if sIs c i = true then (match tk (sOf c i).data.toList s with
  | some (l, r) => if r.size = 0 then some ⟨c, i, l⟩ else none
  | none => none) else none
def tm (s : ByteArray) : Option Me := if takeE (takeR s 2) 2 = 0 then tmOf (takeV s 2) (takeV (takeR s 2) 2) (takeR (takeR s 2) 2) else none

def metOk (m : Met) : Bool := m.v.data.toList.all isLet && decide (m.v.size ≤ 16) && decide (0 ≤ m.c ∧ m.c < 65536) && decide (0 ≤ m.i ∧ m.i < 65536)
theorem mets_ok : mets.all metOk = true := by kernel_rfl
theorem met_facts {c i : Int} (h : sIs c i = true) : (∀ x ∈ (sOf c i).data.toList, isLet x = true) ∧ (sOf c i).size ≤ 16 ∧ (0 ≤ c ∧ c < 65536) ∧ (0 ≤ i ∧ i < 65536) := by
  cases hf : mets.find? (isAt c i) with
  | none =>
    obtain ⟨-, h2⟩ := fst_none hf
    rw [sIs, List.any_eq_true] at h
    obtain ⟨m, hm, hp⟩ := h
    rw [h2 m hm] at hp
    cases hp
  | some m =>
    obtain ⟨h1, h2, h3⟩ := fst_mem hf
    have h4 := List.all_eq_true.1 mets_ok m h2
    simp only [metOk, Bool.and_eq_true, decide_eq_true_eq] at h4
    simp only [isAt, Bool.and_eq_true, beq_iff_eq] at h3
    rw [sOf, h1]
    obtain ⟨rfl, rfl⟩ := h3
    exact ⟨fun x hx => List.all_eq_true.1 h4.1.1.1 x hx, h4.1.1.2, h4.1.2, h4.2⟩
theorem mE_parts {m : Me} (h : mE m = 0) : sIs m.c m.i = true ∧ (sOf m.c m.i).size = m.l.length ∧ layEr (mLs m) m.l = 0 := by
  unfold mE at h
  by_cases h1 : sIs m.c m.i = true
  · rw [if_pos h1] at h
    by_cases h2 : (sOf m.c m.i).size = m.l.length
    · rw [if_pos h2] at h; exact ⟨h1, h2, h⟩
    · rw [if_neg h2] at h; cases h
  · rw [if_neg h1] at h; cases h
theorem mE_mk {m : Me} (h1 : sIs m.c m.i = true) (h2 : (sOf m.c m.i).size = m.l.length) (h3 : layEr (mLs m) m.l = 0) : mE m = 0 := by
  rw [mE, if_pos h1, if_pos h2, h3]
theorem put2_ok {x : Int} (h : 0 ≤ x ∧ x < 65536) : putOk 2 x = true := by
  have e : (256 : Int) ^ (2 : Int).toNat = 65536 := by decide
  simp only [putOk, e]
  simp only [Bool.and_eq_true, decide_eq_true_eq]
  exact ⟨by decide, h.2⟩
/-- a right method's bytes, with more behind them -/
theorem tm_back {m : Me} (hw : ∀ v ∈ m.l, 0 ≤ v.n) (h : mE m = 0) (more : ByteArray) : tm (mB m ++ more) = if more.size = 0 then some m else none := by
  obtain ⟨h1, h2, h3⟩ := mE_parts h
  obtain ⟨f1, f2, f3, f4⟩ := met_facts h1
  have p1 := put2_ok f3
  have p2 := put2_ok f4
  have hl : (mLs m).length = m.l.length := by rw [mLs, ba_len, h2]
  have hb := tk_back (mLs m).length (mLs m) m.l (Nat.le_refl _) (by rw [mLs, ba_len]; omega) hl hw h3 more
  have e : mB m ++ more = putR 2 m.c ++ (putR 2 m.i ++ (layBy (mLs m) m.l [] ++ more)) := by
    rw [mB, if_pos h, ByteArray.append_assoc, ByteArray.append_assoc]
  rw [e, tm, take_put_r p1, take_put_e p2, if_pos rfl, take_put_v p1 f3.1, take_put_v p2 f4.1, take_put_r p2, tmOf, if_pos h1]
  have hb' : tk (sOf m.c m.i).data.toList (layBy (mLs m) m.l [] ++ more) = some (m.l, more) := hb
  rw [hb']
theorem tm_self {m : Me} (hw : ∀ v ∈ m.l, 0 ≤ v.n) (h : mE m = 0) : tm (mB m) = some m := by
  have := tm_back hw h ⟨#[]⟩
  rw [ba_append_e] at this
  exact this
/-- what is taken is right, and laid as it was -/
theorem tm_forth {s : ByteArray} {m : Me} (h : tm s = some m) : mE m = 0 ∧ mB m = s ∧ ∀ v ∈ m.l, 0 ≤ v.n := by
  unfold tm at h
  by_cases g1 : takeE (takeR s 2) 2 = 0
  · rw [if_pos g1] at h
    have k2 := takeOk_of g1
    have k1 : takeOk s 2 = true := by
      cases g : takeOk s 2
      · rw [show takeR s 2 = ⟨#[]⟩ by rw [takeR, if_neg (by simp [g])]] at k2
        cases k2
      · rfl
    have q1 := put_take_s k1
    have q2 := put_take_s k2
    unfold tmOf at h
    by_cases g2 : sIs (takeV s 2) (takeV (takeR s 2) 2) = true
    · rw [if_pos g2] at h
      obtain ⟨f1, f2, f3, f4⟩ := met_facts g2
      cases ht : tk (sOf (takeV s 2) (takeV (takeR s 2) 2)).data.toList (takeR (takeR s 2) 2) with
      | none => rw [ht] at h; cases h
      | some x =>
        obtain ⟨l, r⟩ := x
        rw [ht] at h
        simp only at h
        by_cases g3 : r.size = 0
        · rw [if_pos g3] at h
          cases h
          obtain ⟨t1, t2, t3, t4⟩ := tk_forth _ _ _ _ _ (Nat.le_refl _) (by rw [ba_len]; omega) ht
          rw [ba_len] at t1
          have e := mE_mk (m := ⟨takeV s 2, takeV (takeR s 2) 2, l⟩) g2 t1 t2
          refine ⟨e, ?_, t4⟩
          rw [mB, if_pos e]
          simp only [mLs]
          rw [ba_empty g3, ba_append_e] at t3
          rw [t3, ByteArray.append_assoc, q2, q1]
        · rw [if_neg g3] at h; cases h
    · rw [if_neg g2] at h; cases h
  · rw [if_neg g1] at h; cases h
/-- no beginning of a method's bytes is a method's -/
theorem tm_cut {m : Me} (hw : ∀ v ∈ m.l, 0 ≤ v.n) (h : mE m = 0) {k : Nat} (hk : k < (mB m).size) : tm ((mB m).extract 0 k) = none := by
  cases ht : tm ((mB m).extract 0 k) with
  | none => rfl
  | some m' =>
    obtain ⟨e1, e2, e3⟩ := tm_forth ht
    have hsp : mB m = mB m' ++ (mB m).extract k (mB m).size := by
      rw [e2]
      apply ba_ext
      rw [ba_append, Lib.extract_data, Lib.extract_data]
      simp only [List.drop_zero, Nat.sub_zero]
      rw [List.take_of_length_le (l := List.drop _ _) (by rw [List.length_drop, ba_len]; exact Nat.le_refl _)]
      exact (List.take_append_drop _ _).symm
    have hn : ((mB m).extract k (mB m).size).size ≠ 0 := by rw [ByteArray.size_extract]; omega
    have h1 := tm_back e3 e1 ((mB m).extract k (mB m).size)
    rw [← hsp, tm_self hw h, if_neg hn] at h1
    cases h1
theorem mB_size {m : Me} (h : mE m = 0) : 4 ≤ (mB m).size ∧ (mB m).size ≤ 1099511627776 := by
  obtain ⟨h1, h2, h3⟩ := mE_parts h
  obtain ⟨f1, f2, f3, f4⟩ := met_facts h1
  have p1 := putR_size (put2_ok f3)
  have p2 := putR_size (put2_ok f4)
  have p3 := layBy_size 4294967401 (Nat.le_refl _) (mLs m) m.l [] h3
  have hl : (mLs m).length ≤ 16 := by rw [mLs, ba_len]; exact f2
  have hm : (mLs m).length * 4294967401 ≤ 16 * 4294967401 := Nat.mul_le_mul_right _ hl
  rw [List.length_nil] at p3
  rw [mB, if_pos h, ByteArray.size_append, ByteArray.size_append]
  omega
/-- two right methods with the same bytes are the same -/
theorem mB_inj {a b : Me} (ha : ∀ v ∈ a.l, 0 ≤ v.n) (hb : ∀ v ∈ b.l, 0 ≤ v.n) (h1 : mE a = 0) (h2 : mE b = 0) (h : mB a = mB b) : a = b := by
  have e1 := tm_self ha h1
  have e2 := tm_self hb h2
  rw [h, e2] at e1
  exact (Option.some.inj e1).symm
end Go.Proofs.YtkdiccedkjbpeaaGreatDoorR
