/-
  Heads as bytes, and out of bytes, as plain mathematics. No condition.
-/
import Derived.Test.YtjpldfkhacchdaaDoorMVals
import Derived.Laws.BitsAllLaws
namespace Go.Proofs.YtjpldfkhacchdaaDoor

/-- a head -/
structure He where
  c : Int
  z : Int
  f : Int
  l : List MV
def wfH (h : He) : Prop := (0 ≤ h.z ∧ h.z < 18446744073709551616) ∧ (0 ≤ h.f ∧ h.f < 18446744073709551616) ∧ ∀ v ∈ h.l, wfV v
/-- the properties' letters -/
def pT : List UInt8 := [83, 83, 84, 111, 111, 83, 83, 83, 83, 113, 83, 83, 83, 83]
def pLet (i : Fin 14) : UInt8 := pT[i.1]'i.2
/-- do flags tell the i-th property? -/
def bitP (f : Int) (i : Fin 14) : Bool := f.toNat / 2 ^ (15 - i.1) % 2 == 1
def whK (f : Int) (k : Nat) : List (Fin 14) := ((List.finRange 14).take k).filter (bitP f)
def wh (f : Int) : List (Fin 14) := (List.finRange 14).filter (bitP f)
def hLs (f : Int) : List UInt8 := (wh f).map pLet

theorem whK_all (f : Int) : whK f 14 = wh f := rfl
theorem whK_pre (f : Int) (k : Nat) : whK f k <+: wh f := (List.take_prefix k _).filter _
theorem whK_succ (f : Int) (k : Nat) (hk : k < 14) : whK f (k + 1) = if bitP f ⟨k, hk⟩ = true then whK f k ++ [⟨k, hk⟩] else whK f k := by
  have e : (List.finRange 14).take (k + 1) = (List.finRange 14).take k ++ [⟨k, hk⟩] := by
    rw [List.take_add_one, List.getElem?_eq_getElem (by simpa using hk)]
    simp
  rw [whK, e, List.filter_append]
  by_cases h : bitP f ⟨k, hk⟩ = true
  · simp [whK, h]
  · simp [whK, h]
theorem whK_zero (f : Int) : whK f 0 = [] := rfl
theorem whK_le (f : Int) (k : Nat) : (whK f k).length ≤ (wh f).length := (whK_pre f k).length_le
theorem wh_le (f : Int) : (wh f).length ≤ 14 := by
  have := List.length_filter_le (bitP f) (List.finRange 14)
  rw [List.length_finRange] at this
  exact this
theorem pLet_cases : ∀ i : Fin 14, pLet i = 83 ∨ pLet i = 84 ∨ pLet i = 111 ∨ pLet i = 113 := by decide
theorem pLet_not (i : Fin 14) : ¬ pLet i = 98 := by rcases pLet_cases i with h | h | h | h <;> rw [h] <;> decide
theorem hLs_not {f : Int} {c : UInt8} (h : c ∈ hLs f) : ¬ c = 98 := by
  obtain ⟨i, -, rfl⟩ := List.mem_map.1 h
  exact pLet_not i
theorem hLs_length (f : Int) : (hLs f).length = (wh f).length := by rw [hLs, List.length_map]

/-- why it isn't right, whatever its values are -/
def shOk (h : He) : Prop := h.c = 60 ∧ h.f < 65536 ∧ h.f % 4 = 0 ∧ (wh h.f).length = h.l.length
instance (h : He) : Decidable (shOk h) := by unfold shOk; infer_instance
def shE (h : He) : Int := if shOk h then (if 65536 < h.z then 4 else 0) else 7
def hE (h : He) : Int := if shE h = 0 then layEr (hLs h.f) h.l else shE h
def begB (h : He) : ByteArray := putR 2 h.c ++ putR 2 0 ++ putR 8 h.z ++ putR 2 h.f
/-- values by their letters, one behind the other: the first error; their bytes -/
def erP : List (UInt8 × MV) → Int
  | [] => 0
  | x :: l => if vE x.1 x.2 = 0 then erP l else vE x.1 x.2
def catP : List (UInt8 × MV) → ByteArray
  | [] => ⟨#[]⟩
  | x :: l => vB x.1 x.2 ++ catP l
def hB (h : He) : ByteArray := if hE h = 0 then begB h ++ catP ((hLs h.f).zip h.l) else ⟨#[]⟩
theorem erP_zip : ∀ (ls : List UInt8) (l : List MV), erP (ls.zip l) = layEr ls l
  | [], l => by cases l <;> rfl
  | c :: ls, [] => rfl
  | c :: ls, v :: l => by rw [List.zip_cons_cons, erP, layEr, erP_zip ls l]
theorem catP_zip : ∀ (ls : List UInt8) (l : List MV), (∀ c ∈ ls, ¬ c = 98) → catP (ls.zip l) = layBy ls l []
  | [], l, _ => by cases l <;> rfl
  | c :: ls, [], _ => rfl
  | c :: ls, v :: l, h => by
    rw [List.zip_cons_cons, catP, layBy, if_neg (h c (by simp)), bitsS_nil, ba_e_append, catP_zip ls l (fun c hc => h c (by simp [hc]))]
theorem catP_snoc (x : UInt8 × MV) : ∀ l : List (UInt8 × MV), catP (l ++ [x]) = catP l ++ vB x.1 x.2
  | [] => by simp only [List.nil_append, catP]; rw [ba_append_e, ba_e_append]
  | y :: l => by rw [List.cons_append, catP, catP, catP_snoc x l, ByteArray.append_assoc]
theorem erP_snoc (x : UInt8 × MV) : ∀ l : List (UInt8 × MV), erP (l ++ [x]) = if erP l = 0 then vE x.1 x.2 else erP l
  | [] => by
    simp only [List.nil_append, erP]
    by_cases h : vE x.1 x.2 = 0
    · simp [h]
    · simp [h]
  | y :: l => by
    rw [List.cons_append, erP, erP, erP_snoc x l]
    by_cases h : vE y.1 y.2 = 0
    · simp [h]
    · simp [h]
theorem erP_pre {l m : List (UInt8 × MV)} (h : l <+: m) (h0 : ¬ erP l = 0) : erP m = erP l := by
  obtain ⟨t, rfl⟩ := h
  induction l with
  | nil => exact absurd rfl h0
  | cons x l ih =>
    rw [List.cons_append, erP, erP]
    by_cases hx : vE x.1 x.2 = 0
    · rw [if_pos hx, if_pos hx]
      rw [erP, if_pos hx] at h0
      exact ih h0
    · rw [if_neg hx, if_neg hx]
theorem catP_size : ∀ (l : List (UInt8 × MV)), erP l = 0 → (catP l).size ≤ l.length * 4294967400
  | [], _ => by decide
  | x :: l, h => by
    rw [erP] at h
    by_cases hx : vE x.1 x.2 = 0
    · rw [if_pos hx] at h
      have h1 := vB_size hx
      have h2 := catP_size l h
      rw [catP, ByteArray.size_append, List.length_cons, Nat.succ_mul]
      omega
    · rw [if_neg hx] at h
      exact absurd h hx
theorem erP_pre_zero {l m : List (UInt8 × MV)} (h : l <+: m) (h0 : erP m = 0) : erP l = 0 := by
  by_cases hl : erP l = 0
  · exact hl
  · rw [erP_pre h hl] at h0
    exact absurd h0 hl
end Go.Proofs.YtjpldfkhacchdaaDoor
