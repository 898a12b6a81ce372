/-
  Several texts joined in one file: each says at its own head, below, what it proves, and its conditions.
-/
import Derived.Test.YtjpldfkhacchdaaDoorWPSet
import Derived.Test.YtjpldfkhacchdaaDoorJPSame
/-
  A head with another property, as plain mathematics: it stays right, the property is got, all others are as they were; two that are set hang on no order. No condition.
-/
namespace Go.Proofs.YtjpldfkhacchdaaDoor

/-- the value of a place, among places and values side by side -/
def gotL (ws : List (Fin 14)) (l : List MV) (i : Int) : Option MV := ((ws.zip l).find? (fun x => (x.1.1 : Int) == i)).map (·.2)
theorem gotL_idx (i : Int) (full : List MV) : ∀ (ws : List (Fin 14)) (l : List MV) (n : Nat), full.drop n = l → ws.length = l.length →
    ((ws.zipIdx n).find? (fun x => (x.1.1 : Int) == i)).map (fun x => full.getD x.2 noV) = gotL ws l i
  | [], l, n, _, _ => by simp [gotL]
  | w :: ws, [], n, _, h => by cases h
  | w :: ws, v :: l, n, hd, h => by
    have hn : full.getD n noV = v := by
      have e : (full.drop n)[0]? = some v := by rw [hd]; rfl
      rw [List.getElem?_drop, Nat.add_zero] at e
      rw [List.getD_eq_getElem?_getD, e]; rfl
    have hd2 : full.drop (n + 1) = l := by
      rw [← List.drop_drop, hd]; rfl
    have ih := gotL_idx i full ws l (n + 1) hd2 (by simpa using h)
    rw [List.zipIdx_cons, gotL, List.zip_cons_cons, List.find?_cons, List.find?_cons]
    by_cases hw : ((w.1 : Int) == i) = true
    · simp only [hw, Option.map_some, hn]
    · have hw' : ((w.1 : Int) == i) = false := by simpa using hw
      simp only [hw']
      exact ih
theorem gotV_L {h : He} (he : hE h = 0) (i : Int) : gotV h i = gotL (wh h.f) h.l i := by
  rw [gotV, if_pos he, whF]
  exact gotL_idx i h.l (wh h.f) h.l 0 rfl (hE_parts he).2.1.2.2.2
theorem gotL_append {a b : List (Fin 14)} {l m : List MV} (h : a.length = l.length) (i : Int) : gotL (a ++ b) (l ++ m) i = (gotL a l i).or (gotL b m i) := by
  rw [gotL, gotL, gotL, List.zip_append h, List.find?_append]
  cases (a.zip l).find? (fun x => (x.1.1 : Int) == i) <;> simp
theorem gotL_none {a : List (Fin 14)} {i : Int} (h : ∀ x ∈ a, ((x.1 : Int) == i) = false) (l : List MV) : gotL a l i = none := by
  rw [gotL, List.find?_eq_none.2]
  · rfl
  · intro x hx
    have := h x.1 (List.of_mem_zip hx).1
    simp [this]
/-- the properties ahead of one, and behind it -/
def whA (f : Int) (p : Fin 14) : List (Fin 14) := whK f p.1
def whB (f : Int) (p : Fin 14) : List (Fin 14) := ((List.finRange 14).drop (p.1 + 1)).filter (bitP f)
theorem fin_split (p : Fin 14) : List.finRange 14 = (List.finRange 14).take p.1 ++ (p :: (List.finRange 14).drop (p.1 + 1)) := by
  have h : p.1 < (List.finRange 14).length := by rw [List.length_finRange]; exact p.2
  have e := List.drop_eq_getElem_cons h
  rw [List.getElem_finRange] at e
  have e2 := (List.take_append_drop p.1 (List.finRange 14)).symm
  rw [e] at e2
  exact e2
theorem wh_split (f : Int) (p : Fin 14) : wh f = whA f p ++ ((if bitP f p = true then [p] else []) ++ whB f p) := by
  rw [wh]
  conv => lhs; rw [fin_split p]
  rw [List.filter_append, List.filter_cons]
  by_cases h : bitP f p = true
  · simp [h, whA, whK, whB]
  · simp [h, whA, whK, whB]
theorem whA_lt {f : Int} {p x : Fin 14} (h : x ∈ whA f p) : x.1 < p.1 := by
  have h2 := (List.mem_filter.1 h).1
  obtain ⟨k, hk, he⟩ := List.mem_take_iff_getElem.1 h2
  rw [List.getElem_finRange] at he
  rw [← he]
  show k < p.1
  omega
theorem whB_gt {f : Int} {p x : Fin 14} (h : x ∈ whB f p) : p.1 < x.1 := by
  have h2 := (List.mem_filter.1 h).1
  obtain ⟨k, hk, he⟩ := List.mem_drop_iff_getElem.1 h2
  rw [List.getElem_finRange] at he
  rw [← he]
  show p.1 < p.1 + 1 + k
  omega
theorem bit_or {f : Int} (p q : Fin 14) : bitP ((f.toNat ||| flagN p : Nat) : Int) q = (decide (p = q) || bitP f q) := by
  have hb : ∀ (a k : Nat), (a / 2 ^ k % 2 == 1) = a.testBit k := fun a k => by
    rw [Nat.testBit_eq_decide_div_mod_eq]; rfl
  rw [bitP, bitP, Int.toNat_natCast, hb, hb, Nat.testBit_or, flagN, Nat.testBit_two_pow, Bool.or_comm]
  congr 1
  rw [decide_eq_decide]
  constructor
  · intro h; apply Fin.ext; omega
  · rintro rfl; rfl
theorem wh_put (f : Int) (p : Fin 14) : wh ((f.toNat ||| flagN p : Nat) : Int) = whA f p ++ (p :: whB f p) := by
  have h1 : whA ((f.toNat ||| flagN p : Nat) : Int) p = whA f p := by
    rw [whA, whA, whK, whK]
    apply List.filter_congr
    intro x hx
    have hx2 : x.1 < p.1 := by
      obtain ⟨k, hk, he⟩ := List.mem_take_iff_getElem.1 hx
      rw [List.getElem_finRange] at he
      rw [← he]
      show k < p.1
      omega
    rw [bit_or, decide_eq_false (fun e => by rw [e] at hx2; omega), Bool.false_or]
  have h2 : whB ((f.toNat ||| flagN p : Nat) : Int) p = whB f p := by
    rw [whB, whB]
    apply List.filter_congr
    intro x hx
    have hx2 : p.1 < x.1 := by
      obtain ⟨k, hk, he⟩ := List.mem_drop_iff_getElem.1 hx
      rw [List.getElem_finRange] at he
      rw [← he]
      show p.1 < p.1 + 1 + k
      omega
    rw [bit_or, decide_eq_false (fun e => by rw [e] at hx2; omega), Bool.false_or]
  have h3 : bitP ((f.toNat ||| flagN p : Nat) : Int) p = true := by rw [bit_or, decide_eq_true rfl, Bool.true_or]
  rw [wh_split _ p, h1, h2, h3]
  simp
theorem layEr_append : ∀ (a b : List UInt8) (l m : List MV), a.length = l.length → layEr (a ++ b) (l ++ m) = if layEr a l = 0 then layEr b m else layEr a l
  | [], b, [], m, _ => by simp [layEr]
  | [], b, x :: l, m, h => by cases h
  | c :: a, b, [], m, h => by cases h
  | c :: a, b, x :: l, m, h => by
    rw [List.cons_append, List.cons_append, layEr, layEr, layEr_append a b l m (by simpa using h)]
    by_cases hv : vE c x = 0
    · simp [hv]
    · simp [hv]
/-- a right head's values, ahead of a place, at it, behind it -/
theorem right_parts {h : He} (he : hE h = 0) (p : Fin 14) : ∃ l1 m l3, h.l = l1 ++ (m ++ l3) ∧ l1.length = (whA h.f p).length ∧ m.length = (if bitP h.f p = true then [p] else []).length ∧ l3.length = (whB h.f p).length ∧
    layEr ((whA h.f p).map pLet) l1 = 0 ∧ layEr ((whB h.f p).map pLet) l3 = 0 ∧ h.l.take (whK h.f p.1).length = l1 ∧ h.l.drop (whK h.f (p.1 + 1)).length = l3 := by
  obtain ⟨-, hok, -, hlay⟩ := hE_parts he
  have hlen := hok.2.2.2
  obtain ⟨M, hM⟩ : ∃ M, M = (if bitP h.f p = true then [p] else []) := ⟨_, rfl⟩
  have hs := wh_split h.f p
  rw [← hM] at hs
  have hb : whK h.f (p.1 + 1) = whA h.f p ++ M := by
    rw [whK_succ h.f p.1 p.2, hM]
    by_cases hbit : bitP h.f p = true
    · rw [if_pos hbit, if_pos hbit]; rfl
    · rw [if_neg hbit, if_neg hbit, List.append_nil]; rfl
  have hbl : (whK h.f (p.1 + 1)).length = (whA h.f p).length + M.length := by rw [hb, List.length_append]
  have hl : h.l.length = (whA h.f p).length + (M.length + (whB h.f p).length) := by rw [← hlen, hs, List.length_append, List.length_append]
  have ha : (whK h.f p.1).length = (whA h.f p).length := rfl
  have e1 : h.l = h.l.take (whA h.f p).length ++ ((h.l.drop (whA h.f p).length).take M.length ++ h.l.drop ((whA h.f p).length + M.length)) := by
    have h1 := (List.take_append_drop (whA h.f p).length h.l).symm
    have h2 := (List.take_append_drop M.length (h.l.drop (whA h.f p).length)).symm
    rw [List.drop_drop] at h2
    rw [← h2]
    exact h1
  have n1 : (h.l.take (whA h.f p).length).length = (whA h.f p).length := by rw [List.length_take]; omega
  have n2 : ((h.l.drop (whA h.f p).length).take M.length).length = M.length := by rw [List.length_take, List.length_drop]; omega
  have n3 : (h.l.drop ((whA h.f p).length + M.length)).length = (whB h.f p).length := by rw [List.length_drop]; omega
  have hLs : hLs h.f = (whA h.f p).map pLet ++ (M.map pLet ++ (whB h.f p).map pLet) := by
    show (wh h.f).map pLet = _
    rw [hs, List.map_append, List.map_append]
  rw [hLs] at hlay
  generalize h.l.take (whA h.f p).length = l1 at *
  generalize (h.l.drop (whA h.f p).length).take M.length = m at *
  have hd : h.l.drop (whK h.f (p.1 + 1)).length = h.l.drop ((whA h.f p).length + M.length) := by rw [hbl]
  generalize h.l.drop ((whA h.f p).length + M.length) = l3 at *
  rw [e1, layEr_append _ _ _ _ (by rw [List.length_map, n1])] at hlay
  have k1 : layEr ((whA h.f p).map pLet) l1 = 0 := by
    by_cases h0 : layEr ((whA h.f p).map pLet) l1 = 0
    · exact h0
    · rw [if_neg h0] at hlay; exact absurd hlay h0
  rw [if_pos k1, layEr_append _ _ _ _ (by rw [List.length_map, n2])] at hlay
  have k2 : layEr ((whB h.f p).map pLet) l3 = 0 := by
    by_cases h0 : layEr (M.map pLet) m = 0
    · rw [if_pos h0] at hlay; exact hlay
    · rw [if_neg h0] at hlay; exact absurd hlay h0
  refine ⟨l1, m, l3, e1, n1, (by rw [← hM]; exact n2), n3, k1, k2, ?_, hd⟩
  have : h.l.take (whK h.f p.1).length = (l1 ++ (m ++ l3)).take l1.length := by rw [← e1, n1]; rfl
  rw [this, List.take_left]
theorem put_right {h : He} (hh : wfH h) (he : hE h = 0) (p : Fin 14) {v : MV} (hv : vE (pLet p) v = 0) : hE (putH h p v) = 0 := by
  obtain ⟨l1, m, l3, el, n1, n2, n3, k1, k2, t1, t2⟩ := right_parts he p
  obtain ⟨-, hok, hz, -⟩ := hE_parts he
  have hf : h.f.toNat < 2 ^ 16 := by have := hok.2.1; omega
  have hg : flagN p < 2 ^ 16 := Nat.pow_lt_pow_right (by decide) (by omega)
  have hlt := Nat.or_lt_two_pow hf hg
  have hm : (h.f.toNat ||| flagN p) % 2 ^ 2 = 0 := by
    rw [Nat.or_mod_two_pow]
    have a1 : h.f.toNat % 2 ^ 2 = 0 := by have := hok.2.2.1; have := hh.2.1.1; omega
    have a2 : flagN p % 2 ^ 2 = 0 := by
      have e : 15 - p.1 = (13 - p.1) + 2 := by omega
      rw [flagN, e, Nat.pow_add, Nat.mul_mod_left]
    rw [a1, a2]; rfl
  have hs : shOk (putH h p v) := by
    refine ⟨hok.1, ?_, ?_, ?_⟩
    · show (((h.f.toNat ||| flagN p : Nat)) : Int) < 65536
      omega
    · show (((h.f.toNat ||| flagN p : Nat)) : Int) % 4 = 0
      omega
    · show (wh ((h.f.toNat ||| flagN p : Nat) : Int)).length = (h.l.take (whK h.f p.1).length ++ v :: h.l.drop (whK h.f (p.1 + 1)).length).length
      rw [wh_put, t1, t2, List.length_append, List.length_append, List.length_cons, List.length_cons, n1, n3]
  have h1 : shE (putH h p v) = 0 := by
    rw [shE, if_pos hs]
    show (if 65536 < h.z then (4 : Int) else 0) = 0
    rw [if_neg (by omega)]
  rw [hE, if_pos h1]
  show layEr ((wh ((h.f.toNat ||| flagN p : Nat) : Int)).map pLet) (h.l.take (whK h.f p.1).length ++ v :: h.l.drop (whK h.f (p.1 + 1)).length) = 0
  rw [wh_put, t1, t2, List.map_append, List.map_cons, layEr_append _ _ _ _ (by rw [List.length_map, n1]), if_pos k1, layEr, if_pos hv]
  exact k2
theorem put_got {h : He} (hh : wfH h) (he : hE h = 0) (p : Fin 14) {v : MV} (hv : vE (pLet p) v = 0) (i : Int) : gotV (putH h p v) i = if i = (p.1 : Int) then some v else gotV h i := by
  obtain ⟨l1, m, l3, el, n1, n2, n3, k1, k2, t1, t2⟩ := right_parts he p
  rw [gotV_L (put_right hh he p hv), gotV_L he]
  show gotL (wh ((h.f.toNat ||| flagN p : Nat) : Int)) (h.l.take (whK h.f p.1).length ++ v :: h.l.drop (whK h.f (p.1 + 1)).length) i = _
  rw [wh_put, t1, t2, gotL_append n1.symm, wh_split h.f p, el, gotL_append n1.symm, gotL_append n2.symm]
  have e : gotL (p :: whB h.f p) (v :: l3) i = (if i = (p.1 : Int) then some v else gotL (whB h.f p) l3 i) := by
    rw [gotL, List.zip_cons_cons, List.find?_cons]
    by_cases hi : i = (p.1 : Int)
    · have hb : ((p.1 : Int) == i) = true := by simp [hi]
      simp only [hb, Option.map_some, if_pos hi]
    · have hb : ((p.1 : Int) == i) = false := by simp; omega
      simp only [hb, if_neg hi]
      rfl
  rw [e]
  by_cases hi : i = (p.1 : Int)
  · rw [if_pos hi, if_pos hi, gotL_none (fun x hx => by have := whA_lt hx; simp; omega)]
    rfl
  · rw [if_neg hi, if_neg hi]
    have e2 : gotL (if bitP h.f p = true then [p] else []) m i = none := gotL_none (fun x hx => by
      by_cases hbit : bitP h.f p = true
      · rw [if_pos hbit] at hx
        obtain rfl : x = p := by simpa using hx
        simp; omega
      · rw [if_neg hbit] at hx; cases hx) m
    rw [e2, Option.none_or]
theorem put_wf {h : He} (hh : wfH h) (p : Fin 14) {v : MV} (hv : wfV v) (hf : h.f < 65536) : wfH (putH h p v) := by
  have h1 : h.f.toNat < 2 ^ 16 := by omega
  have h2 : flagN p < 2 ^ 16 := Nat.pow_lt_pow_right (by decide) (by omega)
  have hlt := Nat.or_lt_two_pow h1 h2
  refine ⟨hh.1, ⟨?_, ?_⟩, ?_⟩
  · show (0 : Int) ≤ ((h.f.toNat ||| flagN p : Nat) : Int)
    omega
  · show ((h.f.toNat ||| flagN p : Nat) : Int) < 18446744073709551616
    omega
  · intro u hu
    rcases List.mem_append.1 hu with h3 | h3
    · exact hh.2.2 u (List.mem_of_mem_take h3)
    · rcases List.mem_cons.1 h3 with rfl | h4
      · exact hv
      · exact hh.2.2 u (List.mem_of_mem_drop h4)
theorem pI_some {i : Int} {p : Fin 14} (h : pI i = some p) : i = (p.1 : Int) := by
  rw [pI] at h
  split at h
  · cases h
    show i = ((i.toNat : Nat) : Int)
    omega
  · cases h
/-- where Set answers no error -/
theorem set_ok {h : He} {i : Int} {v : MV} (h0 : setE h i v = 0) : ∃ p : Fin 14, i = (p.1 : Int) ∧ hE h = 0 ∧ vE (pLet p) v = 0 ∧ setM h i v = putH h p v := by
  cases hp : pI i with
  | none => rw [setE, hp] at h0; cases h0
  | some p =>
    rw [setE, hp] at h0
    dsimp only at h0
    by_cases he : hE h = 0
    · rw [if_pos he] at h0
      refine ⟨p, pI_some hp, he, h0, ?_⟩
      rw [setM, hp]
      dsimp only
      rw [if_pos ⟨he, h0⟩]
    · rw [if_neg he] at h0; cases h0
theorem set_no {h : He} {i : Int} {v : MV} (h0 : ¬ setE h i v = 0) : setM h i v = h := by
  cases hp : pI i with
  | none => rw [setM, hp]
  | some p =>
    rw [setE, hp] at h0
    dsimp only at h0
    rw [setM, hp]
    dsimp only
    rw [if_neg]
    rintro ⟨h1, h2⟩
    rw [if_pos h1] at h0
    exact h0 h2
end Go.Proofs.YtjpldfkhacchdaaDoor

/-
  Two properties that are set hang on no order, as plain mathematics. No condition.
-/
namespace Go.Proofs.YtjpldfkhacchdaaDoor

theorem lists_eq : ∀ (ws : List (Fin 14)) (l m : List MV), ws.Nodup → ws.length = l.length → ws.length = m.length → (∀ x ∈ ws, gotL ws l (x.1 : Int) = gotL ws m (x.1 : Int)) → l = m
  | [], [], [], _, _, _, _ => rfl
  | [], _ :: _, _, _, h, _, _ => by cases h
  | [], _, _ :: _, _, _, h, _ => by cases h
  | _ :: _, [], _, _, h, _, _ => by cases h
  | _ :: _, _, [], _, _, h, _ => by cases h
  | w :: ws, a :: l, b :: m, hn, hl, hm, hg => by
    have hhd : ∀ (c : MV) (k : List MV), gotL (w :: ws) (c :: k) (w.1 : Int) = some c := fun c k => by
      rw [gotL, List.zip_cons_cons, List.find?_cons]
      have hb : ((w.1 : Int) == (w.1 : Int)) = true := by simp
      simp only [hb, Option.map_some]
    have htl : ∀ (c : MV) (k : List MV) (x : Fin 14), x ∈ ws → gotL (w :: ws) (c :: k) (x.1 : Int) = gotL ws k (x.1 : Int) := fun c k x hx => by
      rw [gotL, List.zip_cons_cons, List.find?_cons]
      have hne : w ≠ x := fun e => (List.nodup_cons.1 hn).1 (e ▸ hx)
      have hb : ((w.1 : Int) == (x.1 : Int)) = false := by
        simp only [beq_eq_false_iff_ne, ne_eq, Int.natCast_inj]
        exact fun e => hne (Fin.ext e)
      simp only [hb]
      rfl
    have h1 := hg w List.mem_cons_self
    rw [hhd, hhd] at h1
    cases h1
    rw [lists_eq ws l m (List.nodup_cons.1 hn).2 (by simpa using hl) (by simpa using hm) (fun x hx => by
      have h2 := hg x (List.mem_cons_of_mem _ hx)
      rwa [htl _ _ _ hx, htl _ _ _ hx] at h2)]
theorem wh_nodup (f : Int) : (wh f).Nodup := List.Pairwise.filter _ (by decide)
theorem put_two {h : He} (hh : wfH h) (he : hE h = 0) {p q : Fin 14} (hpq : p ≠ q) {v w : MV} (hv : vE (pLet p) v = 0) (hw : vE (pLet q) w = 0) (hwv : wfV v) (hww : wfV w) :
    putH (putH h p v) q w = putH (putH h q w) p v := by
  have f1 := (hE_parts he).2.1.2.1
  have a1 := put_right hh he p hv
  have a2 := put_wf hh p hwv f1
  have b1 := put_right hh he q hw
  have b2 := put_wf hh q hww f1
  have a3 := put_right a2 a1 q hw
  have b3 := put_right b2 b1 p hv
  have hf : (putH (putH h p v) q w).f = (putH (putH h q w) p v).f := by
    show (((((h.f.toNat ||| flagN p : Nat) : Int).toNat ||| flagN q) : Nat) : Int) = (((((h.f.toNat ||| flagN q : Nat) : Int).toNat ||| flagN p) : Nat) : Int)
    rw [Int.toNat_natCast, Int.toNat_natCast, Nat.or_assoc, Nat.or_comm (flagN p), ← Nat.or_assoc]
  have g : ∀ i, gotV (putH (putH h p v) q w) i = gotV (putH (putH h q w) p v) i := fun i => by
    rw [put_got a2 a1 q hw, put_got hh he p hv, put_got b2 b1 p hv, put_got hh he q hw]
    by_cases h1 : i = (q.1 : Int)
    · have h2 : ¬ i = (p.1 : Int) := fun e => hpq (Fin.ext (by omega))
      rw [if_pos h1, if_neg h2, if_pos h1]
    · rw [if_neg h1, if_neg h1]
  have l1 := (hE_parts a3).2.1.2.2.2
  have l2 := (hE_parts b3).2.1.2.2.2
  have hl : (putH (putH h p v) q w).l = (putH (putH h q w) p v).l := by
    refine lists_eq (wh (putH (putH h p v) q w).f) _ _ (wh_nodup _) l1 (by rw [hf]; exact l2) (fun x _ => ?_)
    have g1 := g (x.1 : Int)
    rw [gotV_L a3, gotV_L b3, ← hf] at g1
    exact g1
  have e1 : (putH (putH h p v) q w).c = (putH (putH h q w) p v).c := rfl
  have e2 : (putH (putH h p v) q w).z = (putH (putH h q w) p v).z := rfl
  generalize putH (putH h p v) q w = x at *
  generalize putH (putH h q w) p v = y at *
  cases x; cases y
  simp only at e1 e2 hf hl
  rw [e1, e2, hf, hl]
/-- two that are set where no error is told: the later value is got, and, of two places, they hang on no order -/
theorem two_ok {h : He} (hh : wfH h) {i k : Int} {v w : MV} (hv : wfV v) (hw : wfV w) (h1 : setE h i v = 0) (h2 : setE (setM h i v) k w = 0) (h3 : setE h k w = 0) :
    wfH (setM (setM h i v) k w) ∧ gotV (setM (setM h i v) k w) k = some w ∧ (¬ i = k → setM (setM h i v) k w = setM (setM h k w) i v) := by
  obtain ⟨p, rfl, he, hve, hm⟩ := set_ok h1
  obtain ⟨q, rfl, he2, hwe, hm2⟩ := set_ok h2
  have hf := (hE_parts he).2.1.2.1
  obtain ⟨q2, hq, he3, hwe3, hm3⟩ := set_ok h3
  obtain rfl : q = q2 := Fin.ext (by omega)
  rw [hm2, hm, hm3]
  rw [hm] at he2
  have hw2 := put_wf hh p hv hf
  have hf2 := (hE_parts he2).2.1.2.1
  have hb := put_right hh he q hwe
  have hbw := put_wf hh q hw hf
  have hx : setM (putH h q w) (p.1 : Int) v = putH (putH h q w) p v := by
    have hpi : pI (p.1 : Int) = some p := by
      rw [pI, dif_pos ⟨by omega, by omega⟩]
      congr 1
    rw [setM, hpi]
    dsimp only
    rw [if_pos ⟨hb, hve⟩]
  refine ⟨put_wf hw2 q hw hf2, ?_, fun hik => ?_⟩
  · rw [put_got hw2 he2 q hwe, if_pos rfl]
  · rw [hx]
    exact put_two hh he (fun e => hik (by rw [e])) hve hwe hv hw
end Go.Proofs.YtjpldfkhacchdaaDoor

/-
  A head with another property, place by place, as plain mathematics: the flags of the places so far, and the values of theirs. No condition.
-/
namespace Go.Proofs.YtjpldfkhacchdaaDoor

/-- the flags of the places ahead of k -/
def topF (f : Int) (k : Nat) : Nat := f.toNat / 2 ^ (16 - k) * 2 ^ (16 - k)
theorem topF_zero {f : Int} (h : f < 65536) : topF f 0 = 0 := by
  have e : f.toNat / 2 ^ (16 - 0) = 0 := Nat.div_eq_of_lt (by show f.toNat < 65536; omega)
  rw [topF, e, Nat.zero_mul]
theorem topF_all {f : Int} (h0 : 0 ≤ f) (h4 : f % 4 = 0) : ((topF f 14 : Nat) : Int) = f := by
  show ((f.toNat / 4 * 4 : Nat) : Int) = f
  omega
theorem topF_le {f : Int} (h : f < 65536) (k : Nat) : topF f k ≤ 65535 := by
  have := Nat.div_mul_le_self f.toNat (2 ^ (16 - k))
  unfold topF
  omega
theorem topF_succ (f : Int) (p : Fin 14) : topF f (p.1 + 1) = topF f p.1 + if bitP f p = true then 2 ^ (15 - p.1) else 0 := by
  have e1 : 16 - (p.1 + 1) = 15 - p.1 := by omega
  have e2 : 16 - p.1 = (15 - p.1) + 1 := by omega
  rw [topF, topF, e1, e2, Nat.pow_succ, ← Nat.div_div_eq_div_mul, bitP]
  generalize f.toNat / 2 ^ (15 - p.1) = a
  generalize 2 ^ (15 - p.1) = m
  obtain ⟨q, hq | hq⟩ : ∃ q, a = 2 * q ∨ a = 2 * q + 1 := ⟨a / 2, by omega⟩
  · have e3 : a / 2 = q := by omega
    have e4 : (a % 2 == 1) = false := by simp; omega
    rw [e3, e4, hq, Nat.mul_comm m 2, ← Nat.mul_assoc, Nat.mul_comm q 2]
    simp
  · have e3 : a / 2 = q := by omega
    have e4 : (a % 2 == 1) = true := by simp; omega
    rw [e3, e4, hq, Nat.add_mul, Nat.one_mul, Nat.mul_comm m 2, ← Nat.mul_assoc, Nat.mul_comm q 2]
    simp
theorem set_at {h : He} (he : hE h = 0) (p : Fin 14) : (bitP h.f p = true ∧ ∃ x, gotV h (p.1 : Int) = some x ∧ h.l.take (whK h.f (p.1 + 1)).length = h.l.take (whK h.f p.1).length ++ [x]) ∨
    (bitP h.f p = false ∧ gotV h (p.1 : Int) = none ∧ h.l.take (whK h.f (p.1 + 1)).length = h.l.take (whK h.f p.1).length) := by
  obtain ⟨l1, m, l3, el, n1, n2, n3, -, -, t1, t2⟩ := right_parts he p
  have g : gotV h (p.1 : Int) = gotL (if bitP h.f p = true then [p] else []) m (p.1 : Int) := by
    rw [gotV_L he]
    conv => lhs; rw [wh_split h.f p, el]
    rw [gotL_append n1.symm, gotL_append n2.symm, gotL_none (fun x hx => by have := whA_lt hx; simp; omega), gotL_none (a := whB h.f p) (fun x hx => by have := whB_gt hx; simp; omega)]
    cases gotL (if bitP h.f p = true then [p] else []) m (p.1 : Int) <;> rfl
  rw [t1, g]
  rw [whK_succ h.f p.1 p.2]
  have hl1 : (whK h.f p.1).length = l1.length := n1.symm
  cases hb : bitP h.f p
  · right
    rw [hb] at n2
    obtain rfl : m = [] := by simpa using n2
    refine ⟨rfl, rfl, ?_⟩
    rw [if_neg (by decide)]
    exact t1
  · left
    rw [hb] at n2
    obtain ⟨x, rfl⟩ : ∃ x, m = [x] := by
      match m, n2 with
      | [x], _ => exact ⟨x, rfl⟩
    refine ⟨rfl, x, ?_, ?_⟩
    · rw [gotL, if_pos rfl, List.zip_cons_cons, List.find?_cons]
      have hbb : ((p.1 : Int) == (p.1 : Int)) = true := by simp
      simp only [hbb, Option.map_some]
    · rw [if_pos rfl, List.length_append, hl1, el, List.take_length_add_append]
      simp
/-- a round of Set's loop, of the head that comes out -/
theorem set_round {h : He} (hh : wfH h) (he : hE h = 0) (p : Fin 14) {v : MV} (hv : vE (pLet p) v = 0) {k : Nat} (hk : k < 14) :
    (∃ x, (((k : Int) = (p.1 : Int) ∧ x = v) ∨ (¬ (k : Int) = (p.1 : Int) ∧ gV h (k : Int) = x ∧ gIs h (k : Int) = true)) ∧ (putH h p v).l.take (whK (putH h p v).f (k + 1)).length = (putH h p v).l.take (whK (putH h p v).f k).length ++ [x] ∧ topF (putH h p v).f (k + 1) = topF (putH h p v).f k + 2 ^ (15 - k)) ∨
    (¬ (k : Int) = (p.1 : Int) ∧ gIs h (k : Int) = false ∧ (putH h p v).l.take (whK (putH h p v).f (k + 1)).length = (putH h p v).l.take (whK (putH h p v).f k).length ∧ topF (putH h p v).f (k + 1) = topF (putH h p v).f k) := by
  have hg := put_got hh he p hv (k : Int)
  have hs := topF_succ (putH h p v).f ⟨k, hk⟩
  rcases set_at (put_right hh he p hv) ⟨k, hk⟩ with ⟨hb, x, g1, g2⟩ | ⟨hb, g1, g2⟩
  · left
    refine ⟨x, ?_, g2, by rw [hs, hb]; rfl⟩
    rw [g1] at hg
    by_cases hkp : (k : Int) = (p.1 : Int)
    · rw [if_pos hkp] at hg
      exact .inl ⟨hkp, by cases hg; rfl⟩
    · rw [if_neg hkp] at hg
      exact .inr ⟨hkp, by rw [gV, ← hg]; rfl, by rw [gIs, ← hg]; rfl⟩
  · right
    rw [g1] at hg
    by_cases hkp : (k : Int) = (p.1 : Int)
    · rw [if_pos hkp] at hg; cases hg
    · rw [if_neg hkp] at hg
      exact ⟨hkp, by rw [gIs, ← hg]; rfl, g2, by rw [hs, hb]; rfl⟩
end Go.Proofs.YtjpldfkhacchdaaDoor
