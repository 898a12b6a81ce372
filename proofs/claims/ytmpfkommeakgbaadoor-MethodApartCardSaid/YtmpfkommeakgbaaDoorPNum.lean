/-
  Plain mathematics of numbers as bytes: what num.Put lays and num.Take takes, over lists of bytes. No condition.
-/
import Derived.Laws.BytesArg
import Derived.Laws.Strings
namespace Go.Proofs.YtmpfkommeakgbaaDoor

/-- the last n bytes of v, the highest first -/
def putL : Nat → Nat → List UInt8
  | 0, _ => []
  | n + 1, v => putL n (v / 256) ++ [UInt8.ofNat v]
def putS (n v : Nat) : ByteArray := ⟨(putL n v).toArray⟩

theorem putL_length (n v : Nat) : (putL n v).length = n := by
  induction n generalizing v with
  | zero => rfl
  | succ n ih => simp [putL, ih]
theorem putS_size (n v : Nat) : (putS n v).size = n := by
  simp [putS, ByteArray.size, putL_length]
theorem putS_list (n v : Nat) : (putS n v).data.toList = putL n v := rfl

/-- the number of bytes, the highest first -/
def takeL (l : List UInt8) : Nat := l.foldl (fun a b => a * 256 + b.toNat) 0

theorem takeL_snoc (l : List UInt8) (b : UInt8) : takeL (l ++ [b]) = takeL l * 256 + b.toNat := by
  simp [takeL]
theorem takeL_lt (l : List UInt8) : takeL l < 256 ^ l.length := by
  suffices h : ∀ n (l : List UInt8), l.length = n → takeL l < 256 ^ n by exact h _ l rfl
  intro n
  induction n with
  | zero => intro l hl; have : l = [] := List.eq_nil_of_length_eq_zero hl; subst this; simp [takeL]
  | succ n ih =>
    intro l hl
    obtain ⟨l', b, rfl⟩ : ∃ l' b, l = l' ++ [b] := by
      have hne : l ≠ [] := by intro h; simp [h] at hl
      exact ⟨l.dropLast, l.getLast hne, (List.dropLast_concat_getLast hne).symm⟩
    have h1 := ih l' (by simpa using hl)
    have h2 := b.toNat_lt
    rw [takeL_snoc, Nat.pow_succ]
    omega
theorem take_put (n v : Nat) (h : v < 256 ^ n) : takeL (putL n v) = v := by
  induction n generalizing v with
  | zero => simp at h; subst h; rfl
  | succ n ih =>
    rw [Nat.pow_succ] at h
    rw [putL, takeL_snoc, ih (v / 256) (by omega)]
    simp
    omega
theorem put_take (l : List UInt8) : putL l.length (takeL l) = l := by
  suffices h : ∀ n (l : List UInt8), l.length = n → putL n (takeL l) = l by exact h _ l rfl
  intro n
  induction n with
  | zero => intro l hl; have : l = [] := List.eq_nil_of_length_eq_zero hl; subst this; rfl
  | succ n ih =>
    intro l hl
    obtain ⟨l', b, rfl⟩ : ∃ l' b, l = l' ++ [b] := by
      have hne : l ≠ [] := by intro h; simp [h] at hl
      exact ⟨l.dropLast, l.getLast hne, (List.dropLast_concat_getLast hne).symm⟩
    have h2 := b.toNat_lt
    rw [takeL_snoc, putL, show (takeL l' * 256 + b.toNat) / 256 = takeL l' by omega, ih l' (by simpa using hl)]
    congr 2
    apply UInt8.toNat_inj.1
    simp
theorem byte_eq {a : Int} {b : Nat} (h : a.toNat % 256 = b % 256) : UInt8.ofNat a.toNat = UInt8.ofNat b := by
  apply UInt8.toNat_inj.1
  simpa using h
theorem arr1 {a0 b0 : UInt8} (h0 : a0 = b0) : (⟨#[a0]⟩ : ByteArray) = ⟨#[b0]⟩ := by
  subst h0; rfl
theorem arr2 {a0 a1 b0 b1 : UInt8} (h0 : a0 = b0) (h1 : a1 = b1) : (⟨#[a0, a1]⟩ : ByteArray) = ⟨#[b0, b1]⟩ := by
  subst h0 h1; rfl
theorem arr4 {a0 a1 a2 a3 b0 b1 b2 b3 : UInt8} (h0 : a0 = b0) (h1 : a1 = b1) (h2 : a2 = b2) (h3 : a3 = b3) : (⟨#[a0, a1, a2, a3]⟩ : ByteArray) = ⟨#[b0, b1, b2, b3]⟩ := by
  subst h0 h1 h2 h3; rfl
theorem arr8 {a0 a1 a2 a3 a4 a5 a6 a7 b0 b1 b2 b3 b4 b5 b6 b7 : UInt8} (h0 : a0 = b0) (h1 : a1 = b1) (h2 : a2 = b2) (h3 : a3 = b3) (h4 : a4 = b4) (h5 : a5 = b5) (h6 : a6 = b6) (h7 : a7 = b7) : (⟨#[a0, a1, a2, a3, a4, a5, a6, a7]⟩ : ByteArray) = ⟨#[b0, b1, b2, b3, b4, b5, b6, b7]⟩ := by
  subst h0 h1 h2 h3 h4 h5 h6 h7; rfl
theorem putL_cons (n v : Nat) : putL (n + 1) v = UInt8.ofNat (v / 256 ^ n) :: putL n v := by
  induction n generalizing v with
  | zero => simp [putL]
  | succ n ih =>
    rw [putL, ih (v / 256), putL, Nat.div_div_eq_div_mul, Nat.pow_succ, Nat.mul_comm (256 ^ n) 256]
    rfl
theorem putS_cons (n v : Nat) : (⟨#[UInt8.ofNat (v / 256 ^ n)]⟩ : ByteArray) ++ putS n v = putS (n + 1) v := by
  apply ByteArray.ext
  rw [ByteArray.data_append]
  simp [putS, putL_cons]
theorem takeL_cons (a : UInt8) (l : List UInt8) : takeL (a :: l) = a.toNat * 256 ^ l.length + takeL l := by
  suffices h : ∀ n (l : List UInt8), l.length = n → takeL (a :: l) = a.toNat * 256 ^ n + takeL l by exact h _ l rfl
  intro n
  induction n with
  | zero => intro l hl; have : l = [] := List.eq_nil_of_length_eq_zero hl; subst this; simp [takeL]
  | succ n ih =>
    intro l hl
    obtain ⟨l', b, rfl⟩ : ∃ l' b, l = l' ++ [b] := by
      have hne : l ≠ [] := by intro h; simp [h] at hl
      exact ⟨l.dropLast, l.getLast hne, (List.dropLast_concat_getLast hne).symm⟩
    rw [← List.cons_append, takeL_snoc, takeL_snoc, ih l' (by simpa using hl), Nat.pow_succ, Nat.add_mul, Nat.mul_assoc]
    omega
/-- of as many bytes the later ones are the greater number's -/
theorem less_take : ∀ l m : List UInt8, l.length = m.length → Op.bytesLess l m = decide (takeL l < takeL m)
  | [], [], _ => by simp [Op.bytesLess]
  | [], _ :: _, h => by simp at h
  | _ :: _, [], h => by simp at h
  | a :: l, b :: m, h => by
    have hl : l.length = m.length := by simpa using h
    have ih := less_take l m hl
    have t1 := takeL_lt l
    have t2 := takeL_lt m
    rw [Op.bytesLess, ih, takeL_cons, takeL_cons, hl]
    rw [hl] at t1
    generalize takeL l = x at *
    generalize takeL m = y at *
    generalize 256 ^ m.length = q at *
    rw [Bool.eq_iff_iff]
    simp only [Bool.or_eq_true, decide_eq_true_eq, Bool.and_eq_true, beq_iff_eq, UInt8.lt_iff_toNat_lt]
    rcases Nat.lt_trichotomy a.toNat b.toNat with k | k | k
    · have : (a.toNat + 1) * q ≤ b.toNat * q := Nat.mul_le_mul_right q k
      rw [Nat.add_mul] at this
      constructor
      · intro _; omega
      · intro _; exact Or.inl k
    · have e : a = b := UInt8.toNat_inj.1 k
      subst e
      constructor
      · rintro (h | ⟨_, h⟩) <;> omega
      · intro h; exact Or.inr ⟨rfl, by omega⟩
    · have : (b.toNat + 1) * q ≤ a.toNat * q := Nat.mul_le_mul_right q k
      rw [Nat.add_mul] at this
      constructor
      · rintro (h | ⟨h, _⟩)
        · omega
        · subst h; omega
      · intro h; omega
theorem less_put (n v u : Nat) (hv : v < 256 ^ n) (hu : u < 256 ^ n) : Op.bytesLess (putS n v).toList (putS n u).toList = decide (v < u) := by
  rw [ByteArray.toList_eq, ByteArray.toList_eq, putS_list, putS_list, less_take _ _ (by rw [putL_length, putL_length]), take_put n v hv, take_put n u hu]
theorem same_put (n v u : Nat) (hv : v < 256 ^ n) (hu : u < 256 ^ n) : ((putS n v).toList == (putS n u).toList) = decide (v = u) := by
  rw [ByteArray.toList_eq, ByteArray.toList_eq, putS_list, putS_list, Bool.eq_iff_iff]
  simp only [beq_iff_eq, decide_eq_true_eq]
  constructor
  · intro h
    rw [← take_put n v hv, h, take_put n u hu]
  · intro h; rw [h]
end Go.Proofs.YtmpfkommeakgbaaDoor
