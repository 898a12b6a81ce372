/-
  Several texts joined in one file: each says at its own head, below, what it proves, and its conditions.
-/
import Derived.Test.YtdgidbiolklneaaDoorJMV
import Derived.Test.YtdgidbiolklneaaDoorJMem
import Derived.Laws.BitsAllLaws
import Derived.Laws.StructEq
/-
  Whole methods: which are right, their bytes, the method of bytes; a right method is taken as it was, with anything behind it none is; what is taken is right, and laid as it was. No condition.
-/
namespace Go.Proofs.YtdgidbiolklneaaDoor

structure Me where
  c : Int
  i : Int
  l : List MV
def mLs (m : Me) : List UInt8 := (sOf m.c m.i).data.toList
def mE (m : Me) : Int := if sIs m.c m.i = true then (if (sOf m.c m.i).size = m.l.length then layEr (mLs m) m.l else 7) else 7
def mB (m : Me) : ByteArray := if mE m = 0 then putR 2 m.c ++ putR 2 m.i ++ layBy (mLs m) m.l [] else ⟨#[]⟩
def wfM (m : Me) : Prop := ∀ v ∈ m.l, wfV v
/-- the method that bytes are -/
def tmOf (c i : Int) (s : ByteArray) : Option Me := if sIs c i = true then (match tk (sOf c i).data.toList s with
  | some (l, r) => if r.size = 0 then some ⟨c, i, l⟩ else none
  | none => none) else none
def tm (s : ByteArray) : Option Me := if takeE (takeR s 2) 2 = 0 then tmOf (takeV s 2) (takeV (takeR s 2) 2) (takeR (takeR s 2) 2) else none

def metOk (m : Met) : Bool := m.v.data.toList.all isLet && decide (m.v.size ≤ 16) && decide (0 ≤ m.c ∧ m.c < 65536) && decide (0 ≤ m.i ∧ m.i < 65536)
theorem mets_ok : mets.all metOk = true := by kernel_rfl
theorem met_facts {c i : Int} (h : sIs c i = true) : (∀ x ∈ (sOf c i).data.toList, isLet x = true) ∧ (sOf c i).size ≤ 16 ∧ (0 ≤ c ∧ c < 65536) ∧ (0 ≤ i ∧ i < 65536) := by
  cases hf : mets.find? (isAt c i) with
  | none =>
    obtain ⟨-, h2⟩ := fst_none hf
    rw [sIs, List.any_eq_true] at h
    obtain ⟨m, hm, hp⟩ := h
    rw [h2 m hm] at hp
    cases hp
  | some m =>
    obtain ⟨h1, h2, h3⟩ := fst_mem hf
    have h4 := List.all_eq_true.1 mets_ok m h2
    simp only [metOk, Bool.and_eq_true, decide_eq_true_eq] at h4
    simp only [isAt, Bool.and_eq_true, beq_iff_eq] at h3
    rw [sOf, h1]
    obtain ⟨rfl, rfl⟩ := h3
    exact ⟨fun x hx => List.all_eq_true.1 h4.1.1.1 x hx, h4.1.1.2, h4.1.2, h4.2⟩
theorem mE_parts {m : Me} (h : mE m = 0) : sIs m.c m.i = true ∧ (sOf m.c m.i).size = m.l.length ∧ layEr (mLs m) m.l = 0 := by
  unfold mE at h
  by_cases h1 : sIs m.c m.i = true
  · rw [if_pos h1] at h
    by_cases h2 : (sOf m.c m.i).size = m.l.length
    · rw [if_pos h2] at h; exact ⟨h1, h2, h⟩
    · rw [if_neg h2] at h; cases h
  · rw [if_neg h1] at h; cases h
theorem mE_mk {m : Me} (h1 : sIs m.c m.i = true) (h2 : (sOf m.c m.i).size = m.l.length) (h3 : layEr (mLs m) m.l = 0) : mE m = 0 := by
  rw [mE, if_pos h1, if_pos h2, h3]
theorem put2_ok {x : Int} (h : 0 ≤ x ∧ x < 65536) : putOk 2 x = true := by
  have e : (256 : Int) ^ (2 : Int).toNat = 65536 := by decide
  simp only [putOk, e]
  simp only [Bool.and_eq_true, decide_eq_true_eq]
  exact ⟨by decide, h.2⟩
/-- a right method's bytes, with more behind them -/
theorem tm_back {m : Me} (hw : ∀ v ∈ m.l, 0 ≤ v.n) (h : mE m = 0) (more : ByteArray) : tm (mB m ++ more) = if more.size = 0 then some m else none := by
  obtain ⟨h1, h2, h3⟩ := mE_parts h
  obtain ⟨f1, f2, f3, f4⟩ := met_facts h1
  have p1 := put2_ok f3
  have p2 := put2_ok f4
  have hl : (mLs m).length = m.l.length := by rw [mLs, ba_len, h2]
  have hb := tk_back (mLs m).length (mLs m) m.l (Nat.le_refl _) (by rw [mLs, ba_len]; omega) hl hw h3 more
  have e : mB m ++ more = putR 2 m.c ++ (putR 2 m.i ++ (layBy (mLs m) m.l [] ++ more)) := by
    rw [mB, if_pos h, ByteArray.append_assoc, ByteArray.append_assoc]
  rw [e, tm, take_put_r p1, take_put_e p2, if_pos rfl, take_put_v p1 f3.1, take_put_v p2 f4.1, take_put_r p2, tmOf, if_pos h1]
  have hb' : tk (sOf m.c m.i).data.toList (layBy (mLs m) m.l [] ++ more) = some (m.l, more) := hb
  rw [hb']
theorem tm_self {m : Me} (hw : ∀ v ∈ m.l, 0 ≤ v.n) (h : mE m = 0) : tm (mB m) = some m := by
  have := tm_back hw h ⟨#[]⟩
  rw [ba_append_e] at this
  exact this
/-- what is taken is right, and laid as it was -/
theorem tm_forth {s : ByteArray} {m : Me} (h : tm s = some m) : mE m = 0 ∧ mB m = s ∧ ∀ v ∈ m.l, 0 ≤ v.n := by
  unfold tm at h
  by_cases g1 : takeE (takeR s 2) 2 = 0
  · rw [if_pos g1] at h
    have k2 := takeOk_of g1
    have k1 : takeOk s 2 = true := by
      cases g : takeOk s 2
      · rw [show takeR s 2 = ⟨#[]⟩ by rw [takeR, if_neg (by simp [g])]] at k2
        cases k2
      · rfl
    have q1 := put_take_s k1
    have q2 := put_take_s k2
    unfold tmOf at h
    by_cases g2 : sIs (takeV s 2) (takeV (takeR s 2) 2) = true
    · rw [if_pos g2] at h
      obtain ⟨f1, f2, f3, f4⟩ := met_facts g2
      cases ht : tk (sOf (takeV s 2) (takeV (takeR s 2) 2)).data.toList (takeR (takeR s 2) 2) with
      | none => rw [ht] at h; cases h
      | some x =>
        obtain ⟨l, r⟩ := x
        rw [ht] at h
        simp only at h
        by_cases g3 : r.size = 0
        · rw [if_pos g3] at h
          cases h
          obtain ⟨t1, t2, t3, t4⟩ := tk_forth _ _ _ _ _ (Nat.le_refl _) (by rw [ba_len]; omega) ht
          rw [ba_len] at t1
          have e := mE_mk (m := ⟨takeV s 2, takeV (takeR s 2) 2, l⟩) g2 t1 t2
          refine ⟨e, ?_, t4⟩
          rw [mB, if_pos e]
          simp only [mLs]
          rw [ba_empty g3, ba_append_e] at t3
          rw [t3, ByteArray.append_assoc, q2, q1]
        · rw [if_neg g3] at h; cases h
    · rw [if_neg g2] at h; cases h
  · rw [if_neg g1] at h; cases h
/-- no beginning of a method's bytes is a method's -/
theorem tm_cut {m : Me} (hw : ∀ v ∈ m.l, 0 ≤ v.n) (h : mE m = 0) {k : Nat} (hk : k < (mB m).size) : tm ((mB m).extract 0 k) = none := by
  cases ht : tm ((mB m).extract 0 k) with
  | none => rfl
  | some m' =>
    obtain ⟨e1, e2, e3⟩ := tm_forth ht
    have hsp : mB m = mB m' ++ (mB m).extract k (mB m).size := by
      rw [e2]
      apply ba_ext
      rw [ba_append, Lib.extract_data, Lib.extract_data]
      simp only [List.drop_zero, Nat.sub_zero]
      rw [List.take_of_length_le (l := List.drop _ _) (by rw [List.length_drop, ba_len]; exact Nat.le_refl _)]
      exact (List.take_append_drop _ _).symm
    have hn : ((mB m).extract k (mB m).size).size ≠ 0 := by rw [ByteArray.size_extract]; omega
    have h1 := tm_back e3 e1 ((mB m).extract k (mB m).size)
    rw [← hsp, tm_self hw h, if_neg hn] at h1
    cases h1
theorem mB_size {m : Me} (h : mE m = 0) : 4 ≤ (mB m).size ∧ (mB m).size ≤ 1099511627776 := by
  obtain ⟨h1, h2, h3⟩ := mE_parts h
  obtain ⟨f1, f2, f3, f4⟩ := met_facts h1
  have p1 := putR_size (put2_ok f3)
  have p2 := putR_size (put2_ok f4)
  have p3 := layBy_size 4294967401 (Nat.le_refl _) (mLs m) m.l [] h3
  have hl : (mLs m).length ≤ 16 := by rw [mLs, ba_len]; exact f2
  have hm : (mLs m).length * 4294967401 ≤ 16 * 4294967401 := Nat.mul_le_mul_right _ hl
  rw [List.length_nil] at p3
  rw [mB, if_pos h, ByteArray.size_append, ByteArray.size_append]
  omega
/-- two right methods with the same bytes are the same -/
theorem mB_inj {a b : Me} (ha : ∀ v ∈ a.l, 0 ≤ v.n) (hb : ∀ v ∈ b.l, 0 ≤ v.n) (h1 : mE a = 0) (h2 : mE b = 0) (h : mB a = mB b) : a = b := by
  have e1 := tm_self ha h1
  have e2 := tm_self hb h2
  rw [h, e2] at e1
  exact (Option.some.inj e1).symm
end Go.Proofs.YtdgidbiolklneaaDoor

/-
  Values that are right are well-formed; the form of a row of one's own. No condition.
-/
namespace Go.Proofs.YtdgidbiolklneaaDoor
open Go.RowKit

theorem wfV_right {c : UInt8} {v : MV} (hl : isLet c = true) (h0 : 0 ≤ v.n) (h : vE c v = 0) : wfV v := by
  obtain ⟨n, s⟩ := v
  unfold vE at h
  dsimp only at h h0
  refine ⟨h0, ?_⟩
  dsimp only
  by_cases h1 : c = 98
  · rw [if_pos h1] at h
    by_cases g : 1 < n
    · rw [if_pos g] at h; cases h
    · rw [if_neg g] at h
      by_cases g2 : s.size = 0
      · omega
      · rw [if_neg g2] at h; cases h
  rw [if_neg h1] at h
  by_cases h2 : c = 83
  · rw [if_pos h2] at h
    by_cases g : layOk 1 s = true
    · rw [if_pos g] at h
      rw [layOk_one] at g
      have g' : s.size ≤ 255 := by simpa using g
      by_cases g2 : n = 0
      · omega
      · rw [if_neg g2] at h; cases h
    · rw [if_neg g] at h; cases h
  rw [if_neg h2] at h
  by_cases h3 : c = 76
  · rw [if_pos h3] at h
    by_cases g : 131072 < s.size
    · rw [if_pos g] at h; cases h
    · rw [if_neg g] at h
      by_cases g2 : n = 0
      · omega
      · rw [if_neg g2] at h; cases h
  rw [if_neg h3] at h
  by_cases h4 : c = 84
  · rw [if_pos h4] at h
    by_cases g2 : n = 0
    · rw [if_pos g2] at h
      by_cases g : tabIs s = true
      · have := tabIs_size g
        omega
      · rw [if_neg g] at h; cases h
    · rw [if_neg g2] at h; cases h
  rw [if_neg h4] at h
  obtain ⟨k1, k2⟩ := putOk_of_num h
  dsimp only at k1 k2
  have k3 := putOk_lt k1
  have hp : (256 : Int) ^ (wid4 c).toNat ≤ 18446744073709551616 := by
    rcases let_cases hl with rfl | rfl | rfl | rfl | rfl | rfl | rfl | rfl <;> decide
  omega
theorem wf_list : ∀ (ls : List UInt8) (l : List MV), ls.length = l.length → (∀ c ∈ ls, isLet c = true) → (∀ v ∈ l, 0 ≤ v.n) → layEr ls l = 0 → ∀ v ∈ l, wfV v
  | [], [], _, _, _, _ => fun v hv => by cases hv
  | c :: ls, v :: l, hl, hc, h0, h => by
    obtain ⟨h1, h2⟩ := layEr_cons h
    intro u hu
    rcases List.mem_cons.1 hu with rfl | hu
    · exact wfV_right (hc c (List.mem_cons_self ..)) (h0 _ (List.mem_cons_self ..)) h1
    · exact wf_list ls l (by simpa using hl) (fun x hx => hc x (List.mem_cons_of_mem _ hx)) (fun x hx => h0 x (List.mem_cons_of_mem _ hx)) h2 u hu
theorem row_form {w : World} {base : Nat} {e : TypeId} {size : Nat} {v : Value} {l : List Value} {n : Nat} (h : w.ownsRow base e size v n l) : ∃ A c, v = .slice A n c ∧ ValsAt w A l ∧ (A = none → n = 0 ∧ c = 0) := by
  obtain ⟨hlen, ⟨rfl, h0⟩ | ⟨g, cap, cur, rfl, hg, hb, hn, hc, hs, ht⟩⟩ := h
  · exact ⟨none, 0, by rw [h0], fun h => by rw [hlen, h0] at h; omega, fun _ => ⟨h0, rfl⟩⟩
  · refine ⟨_, cap, rfl, fun _ => ⟨g, 0, rfl, (Array.getElem?_eq_some_iff.1 hb).1, fun i hi => ?_⟩, fun e => by cases e⟩
    have e1 : w.cell? ⟨g, 0 + i, none⟩ = cur[i]? := by simp [World.cell?, hb]
    rw [e1]
    have h2 : (List.take (n * size) cur.toList)[i]? = some l[i] := by rw [ht]; exact List.getElem?_eq_getElem hi
    rw [List.getElem?_take] at h2
    split at h2
    · rw [← h2, Array.getElem?_toList]
    · cases h2
end Go.Proofs.YtdgidbiolklneaaDoor

/-
  Heads as bytes, and out of bytes, as plain mathematics. No condition.
-/
namespace Go.Proofs.YtdgidbiolklneaaDoor

/-- a head -/
structure He where
  c : Int
  z : Int
  f : Int
  l : List MV
def wfH (h : He) : Prop := (0 ≤ h.z ∧ h.z < 18446744073709551616) ∧ (0 ≤ h.f ∧ h.f < 18446744073709551616) ∧ ∀ v ∈ h.l, wfV v
/-- the properties' letters -/
def pT : List UInt8 := [83, 83, 84, 111, 111, 83, 83, 83, 83, 113, 83, 83, 83, 83]
def pLet (i : Fin 14) : UInt8 := pT[i.1]'i.2
/-- do flags tell the i-th property? -/
def bitP (f : Int) (i : Fin 14) : Bool := f.toNat / 2 ^ (15 - i.1) % 2 == 1
def whK (f : Int) (k : Nat) : List (Fin 14) := ((List.finRange 14).take k).filter (bitP f)
def wh (f : Int) : List (Fin 14) := (List.finRange 14).filter (bitP f)
def hLs (f : Int) : List UInt8 := (wh f).map pLet

theorem whK_all (f : Int) : whK f 14 = wh f := rfl
theorem whK_pre (f : Int) (k : Nat) : whK f k <+: wh f := (List.take_prefix k _).filter _
theorem whK_succ (f : Int) (k : Nat) (hk : k < 14) : whK f (k + 1) = if bitP f ⟨k, hk⟩ = true then whK f k ++ [⟨k, hk⟩] else whK f k := by
  have e : (List.finRange 14).take (k + 1) = (List.finRange 14).take k ++ [⟨k, hk⟩] := by
    rw [List.take_add_one, List.getElem?_eq_getElem (by simpa using hk)]
    simp
  rw [whK, e, List.filter_append]
  by_cases h : bitP f ⟨k, hk⟩ = true
  · simp [whK, h]
  · simp [whK, h]
theorem whK_zero (f : Int) : whK f 0 = [] := rfl
theorem whK_le (f : Int) (k : Nat) : (whK f k).length ≤ (wh f).length := (whK_pre f k).length_le
theorem wh_le (f : Int) : (wh f).length ≤ 14 := by
  have := List.length_filter_le (bitP f) (List.finRange 14)
  rw [List.length_finRange] at this
  exact this
theorem pLet_cases : ∀ i : Fin 14, pLet i = 83 ∨ pLet i = 84 ∨ pLet i = 111 ∨ pLet i = 113 := by decide
theorem pLet_not (i : Fin 14) : ¬ pLet i = 98 := by rcases pLet_cases i with h | h | h | h <;> rw [h] <;> decide
theorem hLs_not {f : Int} {c : UInt8} (h : c ∈ hLs f) : ¬ c = 98 := by
  obtain ⟨i, -, rfl⟩ := List.mem_map.1 h
  exact pLet_not i
theorem hLs_length (f : Int) : (hLs f).length = (wh f).length := by rw [hLs, List.length_map]

/-- why it isn't right, whatever its values are -/
def shOk (h : He) : Prop := h.c = 60 ∧ h.f < 65536 ∧ h.f % 4 = 0 ∧ (wh h.f).length = h.l.length
instance (h : He) : Decidable (shOk h) := by unfold shOk; infer_instance
def shE (h : He) : Int := if shOk h then (if 65536 < h.z then 4 else 0) else 7
def hE (h : He) : Int := if shE h = 0 then layEr (hLs h.f) h.l else shE h
def begB (h : He) : ByteArray := putR 2 h.c ++ putR 2 0 ++ putR 8 h.z ++ putR 2 h.f
/-- values by their letters, one behind the other: the first error; their bytes -/
def erP : List (UInt8 × MV) → Int
  | [] => 0
  | x :: l => if vE x.1 x.2 = 0 then erP l else vE x.1 x.2
def catP : List (UInt8 × MV) → ByteArray
  | [] => ⟨#[]⟩
  | x :: l => vB x.1 x.2 ++ catP l
def hB (h : He) : ByteArray := if hE h = 0 then begB h ++ catP ((hLs h.f).zip h.l) else ⟨#[]⟩
theorem erP_zip : ∀ (ls : List UInt8) (l : List MV), erP (ls.zip l) = layEr ls l
  | [], l => by cases l <;> rfl
  | c :: ls, [] => rfl
  | c :: ls, v :: l => by rw [List.zip_cons_cons, erP, layEr, erP_zip ls l]
theorem catP_zip : ∀ (ls : List UInt8) (l : List MV), (∀ c ∈ ls, ¬ c = 98) → catP (ls.zip l) = layBy ls l []
  | [], l, _ => by cases l <;> rfl
  | c :: ls, [], _ => rfl
  | c :: ls, v :: l, h => by
    rw [List.zip_cons_cons, catP, layBy, if_neg (h c (by simp)), bitsS_nil, ba_e_append, catP_zip ls l (fun c hc => h c (by simp [hc]))]
theorem catP_snoc (x : UInt8 × MV) : ∀ l : List (UInt8 × MV), catP (l ++ [x]) = catP l ++ vB x.1 x.2
  | [] => by simp only [List.nil_append, catP]; rw [ba_append_e, ba_e_append]
  | y :: l => by rw [List.cons_append, catP, catP, catP_snoc x l, ByteArray.append_assoc]
theorem erP_snoc (x : UInt8 × MV) : ∀ l : List (UInt8 × MV), erP (l ++ [x]) = if erP l = 0 then vE x.1 x.2 else erP l
  | [] => by
    simp only [List.nil_append, erP]
    by_cases h : vE x.1 x.2 = 0
    · simp [h]
    · simp [h]
  | y :: l => by
    rw [List.cons_append, erP, erP, erP_snoc x l]
    by_cases h : vE y.1 y.2 = 0
    · simp [h]
    · simp [h]
theorem erP_pre {l m : List (UInt8 × MV)} (h : l <+: m) (h0 : ¬ erP l = 0) : erP m = erP l := by
  obtain ⟨t, rfl⟩ := h
  induction l with
  | nil => exact absurd rfl h0
  | cons x l ih =>
    rw [List.cons_append, erP, erP]
    by_cases hx : vE x.1 x.2 = 0
    · rw [if_pos hx, if_pos hx]
      rw [erP, if_pos hx] at h0
      exact ih h0
    · rw [if_neg hx, if_neg hx]
theorem catP_size : ∀ (l : List (UInt8 × MV)), erP l = 0 → (catP l).size ≤ l.length * 4294967400
  | [], _ => by decide
  | x :: l, h => by
    rw [erP] at h
    by_cases hx : vE x.1 x.2 = 0
    · rw [if_pos hx] at h
      have h1 := vB_size hx
      have h2 := catP_size l h
      rw [catP, ByteArray.size_append, List.length_cons, Nat.succ_mul]
      omega
    · rw [if_neg hx] at h
      exact absurd h hx
theorem erP_pre_zero {l m : List (UInt8 × MV)} (h : l <+: m) (h0 : erP m = 0) : erP l = 0 := by
  by_cases hl : erP l = 0
  · exact hl
  · rw [erP_pre h hl] at h0
    exact absurd h0 hl
end Go.Proofs.YtdgidbiolklneaaDoor

/-
  Values and rows of values that are the same. No condition.
-/
namespace Go.Proofs.YtdgidbiolklneaaDoor
open Go.RowKit

def sameV (x y : MV) : Bool := x.n == y.n && x.s.toList == y.s.toList
def sameL : List MV → List MV → Bool
  | x :: l, y :: m => sameV x y && sameL l m
  | [], [] => true
  | _, _ => false
theorem sameV_iff (x y : MV) : sameV x y = true ↔ x = y := by
  obtain ⟨n, s⟩ := x
  obtain ⟨n', s'⟩ := y
  simp only [sameV, Bool.and_eq_true, beq_iff_eq, MV.mk.injEq]
  constructor
  · rintro ⟨h1, h2⟩
    exact ⟨h1, ba_ext (by rw [ByteArray.toList_eq, ByteArray.toList_eq] at h2; exact h2)⟩
  · rintro ⟨rfl, rfl⟩; exact ⟨rfl, rfl⟩
theorem sameL_iff : ∀ l m : List MV, sameL l m = true ↔ l = m
  | [], [] => by simp [sameL]
  | [], _ :: _ => by simp [sameL]
  | _ :: _, [] => by simp [sameL]
  | x :: l, y :: m => by
    rw [sameL, Bool.and_eq_true, sameV_iff, sameL_iff l m]
    simp
theorem sameL_len {l m : List MV} (h : l.length ≠ m.length) : sameL l m = false := by
  cases hs : sameL l m
  · rfl
  · rw [sameL_iff] at hs; rw [hs] at h; exact absurd rfl h
theorem sameL_drop {l m : List MV} (k : Nat) (hl : k < l.length) (hm : k < m.length) : sameL (l.drop k) (m.drop k) = (sameV l[k] m[k] && sameL (l.drop (k + 1)) (m.drop (k + 1))) := by
  rw [List.drop_eq_getElem_cons hl, List.drop_eq_getElem_cons hm, sameL]
theorem eqV (a b : MV) (w : World) : (Op.equalIn 10000 41 (.agg #[.int .u64 a.n, .string a.s]) (.agg #[.int .u64 b.n, .string b.s])).run Tryd.prog w = .ok (sameV a b) w := by
  have u9 := Tryd.underlying9
  have a9 := Tryd.isAgg9
  have z9 := Tryd.sizeOf9
  have u25 := Tryd.underlying25
  have a25 := Tryd.isAgg25
  have z25 := Tryd.sizeOf25
  have u27 := Tryd.underlying41
  rw [show (10000 : Nat) = 9999 + 1 from rfl, run_equalIn_struct w 9999 41 _ _ (by kernel_rfl) (by kernel_rfl)]
  unfold sameV
  go_simp
  by_cases h1 : a.n = b.n <;> by_cases h2 : a.s.toList = b.s.toList <;> simp [h1, h2]

end Go.Proofs.YtdgidbiolklneaaDoor

/-
  Methods that are the same. No condition.
-/
namespace Go.Proofs.YtdgidbiolklneaaDoor
open Go.RowKit

def sameM (a b : Me) : Bool := a.c == b.c && a.i == b.i && sameL a.l b.l
theorem sameM_iff (a b : Me) : sameM a b = true ↔ a = b := by
  obtain ⟨c, i, l⟩ := a
  obtain ⟨c', i', l'⟩ := b
  simp only [sameM, Bool.and_eq_true, beq_iff_eq, sameL_iff, Me.mk.injEq, and_assoc]
end Go.Proofs.YtdgidbiolklneaaDoor

/-
  Heads that are the same. No condition.
-/
namespace Go.Proofs.YtdgidbiolklneaaDoor
open Go.RowKit

def sameH (a b : He) : Bool := a.c == b.c && a.z == b.z && a.f == b.f && sameL a.l b.l
theorem sameH_iff (a b : He) : sameH a b = true ↔ a = b := by
  obtain ⟨c, z, f, l⟩ := a
  obtain ⟨c', z', f', l'⟩ := b
  simp only [sameH, Bool.and_eq_true, beq_iff_eq, sameL_iff, He.mk.injEq, and_assoc]
end Go.Proofs.YtdgidbiolklneaaDoor
