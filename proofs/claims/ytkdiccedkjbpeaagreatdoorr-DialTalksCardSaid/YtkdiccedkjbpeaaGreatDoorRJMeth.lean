/-
  Several texts joined in one file: each says at its own head, below, what it proves, and its conditions.
-/
import Derived.Test.YtkdiccedkjbpeaaGreatDoorRJTab2
import Derived.Test.YtkdiccedkjbpeaaGreatDoorRJBits
import Derived.Test.YtkdiccedkjbpeaaGreatDoorRJSig
/-
  Methods as bytes, and out of bytes, as plain mathematics: a right method is taken as it was, whatever stands behind it; what is taken is right, and laid as it was. No condition.
-/
namespace Go.Proofs.YtkdiccedkjbpeaaGreatDoorR

/-- a value -/
structure MV where
  n : Int
  s : ByteArray
def noV : MV := ⟨0, ⟨#[]⟩⟩
def wfV (v : MV) : Prop := 0 ≤ v.n ∧ v.n < 18446744073709551616 ∧ v.s.size < 140737488355328
/-- how many bytes a number of a letter has -/
def wid4 (c : UInt8) : Int := if c = 111 then 1 else if c = 115 then 2 else if c = 108 then 4 else 8
def isLet (c : UInt8) : Bool := c == 98 || c == 76 || c == 83 || c == 84 || c == 108 || c == 111 || c == 113 || c == 115
theorem let_cases {c : UInt8} (h : isLet c = true) : c = 98 ∨ c = 76 ∨ c = 83 ∨ c = 84 ∨ c = 108 ∨ c = 111 ∨ c = 113 ∨ c = 115 := by
  simp only [isLet, Bool.or_eq_true, beq_iff_eq] at h
  rcases h with ((((((h | h) | h) | h) | h) | h) | h) | h <;> simp [h]
/-- just the bytes of a table -/
def tabIs (s : ByteArray) : Bool := decide ((nest true s 32).err = 0) && decide ((nest true s 32).rest.size = 0)
/-- of a number, of so many bytes: the error, the bytes -/
def numE (k : Int) (v : MV) : Int := if putOk k v.n = true then (if v.s.size = 0 then 0 else 1) else 4
/-- why a value isn't right -/
def vE (c : UInt8) (v : MV) : Int :=
  if c = 98 then (if 1 < v.n then 4 else if v.s.size = 0 then 0 else 1)
  else if c = 83 then (if layOk 1 v.s = true then (if v.n = 0 then 0 else 1) else 4)
  else if c = 76 then (if 131072 < v.s.size then 4 else if v.n = 0 then 0 else 1)
  else if c = 84 then (if v.n = 0 then (if tabIs v.s = true then 0 else 3) else 1)
  else numE (wid4 c) v
/-- the bytes of a right value -/
def vB (c : UInt8) (v : MV) : ByteArray :=
  if c = 98 then ⟨#[]⟩ else if c = 83 then layR 1 v.s else if c = 76 then layR 4 v.s else if c = 84 then v.s else putR (wid4 c) v.n
/-- the first error; the bytes of right values, behind bits that wait -/
def layEr : List UInt8 → List MV → Int
  | c :: ls, v :: l => if vE c v = 0 then layEr ls l else vE c v
  | _, _ => 0
def layBy : List UInt8 → List MV → List Bool → ByteArray
  | c :: ls, v :: l, bs => if c = 98 then layBy ls l (bs ++ [v.n == 1]) else bitsS bs ++ (vB c v ++ layBy ls l [])
  | _, _, bs => bitsS bs
/-- the value that bytes begin with, of a letter that is no bit: the error, the value, the rest -/
def oE (c : UInt8) (s : ByteArray) : Int :=
  if c = 83 then ttE 1 s
  else if c = 76 then (if ttE 4 s = 0 then (if 131072 < (ttA 4 s).size then 4 else 0) else ttE 4 s)
  else if c = 84 then (nest true s 32).err
  else takeE s (wid4 c)
def oV (c : UInt8) (s : ByteArray) : MV :=
  if c = 83 then ⟨0, ttA 1 s⟩
  else if c = 76 then ⟨0, if oE 76 s = 0 then ttA 4 s else ⟨#[]⟩⟩
  else if c = 84 then ⟨0, takenA s (nest true s 32)⟩
  else ⟨takeV s (wid4 c), ⟨#[]⟩⟩
def oR (c : UInt8) (s : ByteArray) : ByteArray :=
  if c = 83 then ttR 1 s
  else if c = 76 then (if oE 76 s = 0 then ttR 4 s else ⟨#[]⟩)
  else if c = 84 then takenB (nest true s 32)
  else takeR s (wid4 c)
/-- how many bits stand side by side at the beginning -/
def nb : List UInt8 → Nat
  | c :: ls => if c = 98 then nb ls + 1 else 0
  | [] => 0
def bitV (b : Bool) : MV := ⟨if b = true then 1 else 0, ⟨#[]⟩⟩
/-- the values that bytes begin with, by their letters, and the rest -/
def tk (ls : List UInt8) (s : ByteArray) : Option (List MV × ByteArray) :=
  match ls with
  | [] => some ([], s)
  | c :: ls' =>
    if c = 98 then
      if tbE s ((nb ls' + 1 : Nat) : Int) = 0 then (tk (ls'.drop (nb ls')) (tbR s ((nb ls' + 1 : Nat) : Int))).map fun x => ((bitsOf s (nb ls' + 1)).map bitV ++ x.1, x.2)
      else none
    else if oE c s = 0 then (tk ls' (oR c s)).map fun x => (oV c s :: x.1, x.2) else none
  termination_by ls.length
  decreasing_by all_goals (simp; try omega)

theorem nb_le : ∀ ls : List UInt8, nb ls ≤ ls.length
  | [] => Nat.le_refl _
  | c :: ls => by
    have := nb_le ls
    unfold nb
    split <;> simp <;> omega
theorem layBy_nil (bs : List Bool) : ∀ l : List MV, layBy [] l bs = bitsS bs
  | [] => rfl
  | _ :: _ => rfl
theorem bitsS_nil : bitsS [] = ⟨#[]⟩ := rfl
theorem ba_e_append (a : ByteArray) : (⟨#[]⟩ : ByteArray) ++ a = a := by
  apply ba_ext
  rw [ba_append]
  rfl
theorem ba_append_e (a : ByteArray) : a ++ (⟨#[]⟩ : ByteArray) = a := by
  apply ba_ext
  rw [ba_append]
  simp
/-- bits that stand side by side are laid together -/
theorem layBy_run : ∀ (ls : List UInt8) (l : List MV) (bs : List Bool), ls.length = l.length →
    layBy ls l bs = bitsS (bs ++ (l.take (nb ls)).map (fun v => v.n == 1)) ++ layBy (ls.drop (nb ls)) (l.drop (nb ls)) []
  | [], [], bs, _ => by simp [nb, layBy, bitsS_nil, ba_append_e]
  | c :: ls, v :: l, bs, h => by
    by_cases hc : c = 98
    · have ih := layBy_run ls l (bs ++ [v.n == 1]) (by simpa using h)
      rw [layBy, if_pos hc, ih]
      simp [nb, hc]
    · rw [layBy, if_neg hc]
      simp [nb, hc]
      rw [layBy, if_neg hc, bitsS_nil, ba_e_append]

theorem putOk_of_num {k : Int} {v : MV} (h : numE k v = 0) : putOk k v.n = true ∧ v.s.size = 0 := by
  unfold numE at h
  by_cases h1 : putOk k v.n = true
  · rw [if_pos h1] at h
    by_cases h2 : v.s.size = 0
    · exact ⟨h1, h2⟩
    · rw [if_neg h2] at h; cases h
  · rw [if_neg h1] at h; cases h
theorem ba_empty {a : ByteArray} (h : a.size = 0) : a = ⟨#[]⟩ := by
  apply ba_ext
  have := ba_len a
  exact List.eq_nil_of_length_eq_zero (by omega)
theorem ne_of_let {c : UInt8} (h : isLet c = true) (h1 : ¬ c = 98) (h2 : ¬ c = 83) (h3 : ¬ c = 76) (h4 : ¬ c = 84) : isW (wid4 c) = true := by
  rcases let_cases h with rfl | rfl | rfl | rfl | rfl | rfl | rfl | rfl
  · exact absurd rfl h1
  · exact absurd rfl h3
  · exact absurd rfl h2
  · exact absurd rfl h4
  all_goals decide
/-- a value that is laid is taken -/
theorem one_back {c : UInt8} {v : MV} (hc : ¬ c = 98) (h0 : 0 ≤ v.n) (h : vE c v = 0) (more : ByteArray) : oE c (vB c v ++ more) = 0 ∧ oV c (vB c v ++ more) = v ∧ oR c (vB c v ++ more) = more := by
  obtain ⟨n, s⟩ := v
  unfold vE at h
  rw [if_neg hc] at h
  unfold vB
  rw [if_neg hc]
  by_cases h2 : c = 83
  · rw [if_pos h2] at h ⊢
    have hk : layOk 1 s = true ∧ n = 0 := by
      by_cases g : layOk 1 s = true
      · rw [if_pos g] at h
        by_cases g2 : n = 0
        · exact ⟨g, g2⟩
        · rw [if_neg g2] at h; cases h
      · rw [if_neg g] at h; cases h
    obtain ⟨g1, g2, g3⟩ := tt_lay hk.1 more
    simp only [oE, oV, oR, if_pos h2]
    exact ⟨g1, by rw [g2, hk.2], g3⟩
  rw [if_neg h2] at h ⊢
  by_cases h3 : c = 76
  · rw [if_pos h3] at h ⊢
    have hk : ¬ 131072 < s.size ∧ n = 0 := by
      by_cases g : 131072 < s.size
      · rw [if_pos g] at h; cases h
      · rw [if_neg g] at h
        by_cases g2 : n = 0
        · exact ⟨g, g2⟩
        · rw [if_neg g2] at h; cases h
    have hl : layOk 4 s = true := by rw [layOk_four]; simp; omega
    obtain ⟨g1, g2, g3⟩ := tt_lay hl more
    have e : oE 76 (layR 4 s ++ more) = 0 := by
      simp only [oE]
      rw [if_neg (by decide), if_pos trivial, if_pos g1, g2, if_neg hk.1]
    simp only [oV, oR, if_neg h2, if_pos h3, if_pos e]
    rw [h3]
    exact ⟨e, by rw [g2, hk.2], g3⟩
  rw [if_neg h3] at h ⊢
  by_cases h4 : c = 84
  · rw [if_pos h4] at h ⊢
    have hk : tabIs s = true ∧ n = 0 := by
      by_cases g2 : n = 0
      · rw [if_pos g2] at h
        by_cases g : tabIs s = true
        · exact ⟨g, g2⟩
        · rw [if_neg g] at h; cases h
      · rw [if_neg g2] at h; cases h
    have ht := hk.1
    simp only [tabIs, Bool.and_eq_true, decide_eq_true_eq] at ht
    obtain ⟨-, g2, a, g3, -, g4⟩ := nest_good ht.1
    rw [ba_empty ht.2, ba_append_e] at g3
    have e := g4 more 32 g2
    rw [← g3] at e
    simp only [oE, oV, oR, if_neg h2, if_neg h3, if_pos h4]
    rw [e]
    refine ⟨rfl, ?_, ?_⟩
    · rw [takenA, if_pos rfl, front_append, hk.2]
    · rw [takenB, if_pos rfl]
  rw [if_neg h4] at h ⊢
  obtain ⟨k1, k2⟩ := putOk_of_num h
  simp only [oE, oV, oR, if_neg h2, if_neg h3, if_neg h4]
  refine ⟨take_put_e k1 more, ?_, take_put_r k1 more⟩
  have k2' : s.size = 0 := k2
  rw [take_put_v k1 h0 more, ba_empty k2']
theorem takeOk_of {s : ByteArray} {n : Int} (h : takeE s n = 0) : takeOk s n = true := by
  cases g : takeOk s n
  · have := (takeE_not g).2
    rw [h] at this
    cases this
  · rfl
theorem ttOk_of {s : ByteArray} {k : Int} (h : ttE k s = 0) : ttOk k s = true := by
  have := ttE_zero k s
  rw [h] at this
  simpa using this.symm
theorem long_parts {s : ByteArray} (h : oE 76 s = 0) : ttE 4 s = 0 ∧ ¬ 131072 < (ttA 4 s).size := by
  simp only [oE] at h
  rw [if_neg (by decide), if_pos trivial] at h
  by_cases g : ttE 4 s = 0
  · rw [if_pos g] at h
    by_cases g2 : 131072 < (ttA 4 s).size
    · rw [if_pos g2] at h; cases h
    · exact ⟨g, g2⟩
  · rw [if_neg g] at h; exact absurd h g
theorem takenA_front {s a : ByteArray} {r : Res} (h : r.err = 0) (e : s = a ++ r.rest) : takenA s r = a := by
  rw [takenA, if_pos h]
  obtain ⟨d, y, x⟩ := r
  dsimp only at e ⊢
  subst e
  exact front_append a y
/-- a value that is taken is right, and laid as it was -/
theorem one_forth {c : UInt8} {s : ByteArray} (hc : ¬ c = 98) (h : oE c s = 0) : vE c (oV c s) = 0 ∧ vB c (oV c s) ++ oR c s = s ∧ 0 ≤ (oV c s).n := by
  unfold vE vB
  rw [if_neg hc, if_neg hc]
  by_cases h2 : c = 83
  · simp only [oE, oV, oR, if_pos h2] at h ⊢
    obtain ⟨g1, g2⟩ := lay_tt (ttOk_of h)
    exact ⟨by rw [if_pos g1, if_pos trivial], g2, Int.le_refl _⟩
  by_cases h3 : c = 76
  · subst h3
    obtain ⟨g1, g2⟩ := long_parts h
    obtain ⟨g3, g4⟩ := lay_tt (ttOk_of g1)
    have e1 : oV 76 s = ⟨0, ttA 4 s⟩ := by simp [oV, h]
    have e2 : oR 76 s = ttR 4 s := by simp [oR, h]
    rw [e1, e2]
    exact ⟨by rw [if_neg h2, if_pos rfl, if_neg g2, if_pos rfl], by rw [if_neg h2, if_pos rfl]; exact g4, Int.le_refl _⟩
  by_cases h4 : c = 84
  · simp only [oE, oV, oR, if_neg h2, if_neg h3, if_pos h4] at h ⊢
    obtain ⟨-, g2, a, g3, -, g4⟩ := nest_good h
    have e := g4 ⟨#[]⟩ 32 g2
    rw [ba_append_e] at e
    have ea := takenA_front h g3
    refine ⟨?_, ?_, Int.le_refl _⟩
    · rw [ea, if_pos trivial, if_pos (by rw [tabIs, e]; rfl)]
    · rw [ea, takenB, if_pos h]
      exact g3.symm
  simp only [oE, oV, oR, if_neg h2, if_neg h3, if_neg h4] at h ⊢
  have k := takeOk_of h
  exact ⟨by rw [numE, if_pos (put_take_ok k)]; rfl, put_take_s k, takeV_nonneg _ _⟩
end Go.Proofs.YtkdiccedkjbpeaaGreatDoorR

/-
  Whole methods as bytes, and out of bytes: a right method is taken as it was, with anything behind it none is; what is taken is right, and laid as it was. No condition.
-/
namespace Go.Proofs.YtkdiccedkjbpeaaGreatDoorR

theorem layEr_cons {c : UInt8} {ls : List UInt8} {v : MV} {l : List MV} (h : layEr (c :: ls) (v :: l) = 0) : vE c v = 0 ∧ layEr ls l = 0 := by
  unfold layEr at h
  by_cases g : vE c v = 0
  · rw [if_pos g] at h; exact ⟨g, h⟩
  · rw [if_neg g] at h; exact absurd h g
theorem layEr_mk {c : UInt8} {ls : List UInt8} {v : MV} {l : List MV} (h1 : vE c v = 0) (h2 : layEr ls l = 0) : layEr (c :: ls) (v :: l) = 0 := by
  unfold layEr
  rw [if_pos h1, h2]
theorem layEr_drop : ∀ (k : Nat) (ls : List UInt8) (l : List MV), layEr ls l = 0 → layEr (ls.drop k) (l.drop k) = 0
  | 0, _, _, h => h
  | _ + 1, [], _, _ => by simp [layEr]
  | _ + 1, _ :: _, [], _ => by simp [layEr]
  | k + 1, _ :: ls, _ :: l, h => layEr_drop k ls l (layEr_cons h).2
theorem bit_right {v : MV} (h0 : 0 ≤ v.n) (h : vE 98 v = 0) : bitV (v.n == 1) = v := by
  obtain ⟨n, s⟩ := v
  unfold vE at h
  rw [if_pos rfl] at h
  by_cases g : 1 < n
  · rw [if_pos g] at h; cases h
  · rw [if_neg g] at h
    by_cases g2 : s.size = 0
    · have h0' : 0 ≤ n := h0
      rw [ba_empty g2]
      have : n = 0 ∨ n = 1 := by omega
      rcases this with rfl | rfl <;> rfl
    · rw [if_neg g2] at h; cases h
theorem run_right : ∀ (ls : List UInt8) (l : List MV), ls.length = l.length → (∀ v ∈ l, 0 ≤ v.n) → layEr ls l = 0 → ((l.take (nb ls)).map (fun v => v.n == 1)).map bitV = l.take (nb ls)
  | [], _, _, _, _ => by simp [nb]
  | c :: ls, v :: l, hl, hw, h => by
    unfold nb
    by_cases hc : c = 98
    · rw [if_pos hc]
      subst hc
      obtain ⟨h1, h2⟩ := layEr_cons h
      have ih := run_right ls l (by simpa using hl) (fun v hv => hw v (List.mem_cons_of_mem _ hv)) h2
      rw [List.take_succ_cons, List.map_cons, List.map_cons, ih, bit_right (hw v (List.mem_cons_self ..)) h1]
    · rw [if_neg hc]; rfl
theorem tk_nil (s : ByteArray) : tk [] s = some ([], s) := by rw [tk]
theorem tk_one {c : UInt8} (hc : ¬ c = 98) (ls : List UInt8) (s : ByteArray) : tk (c :: ls) s = if oE c s = 0 then (tk ls (oR c s)).map fun x => (oV c s :: x.1, x.2) else none := by
  rw [tk, if_neg hc]
theorem tk_bits (ls : List UInt8) (s : ByteArray) : tk (98 :: ls) s = if tbE s ((nb ls + 1 : Nat) : Int) = 0 then (tk (ls.drop (nb ls)) (tbR s ((nb ls + 1 : Nat) : Int))).map fun x => ((bitsOf s (nb ls + 1)).map bitV ++ x.1, x.2) else none := by
  rw [tk, if_pos rfl]
/-- what was laid is taken -/
theorem tk_back : ∀ (n : Nat) (ls : List UInt8) (l : List MV), ls.length ≤ n → ls.length ≤ 64 → ls.length = l.length → (∀ v ∈ l, 0 ≤ v.n) → layEr ls l = 0 → ∀ more, tk ls (layBy ls l [] ++ more) = some (l, more)
  | _, [], [], _, _, _, _, _, more => by rw [tk_nil, layBy_nil, bitsS_nil, ba_e_append]
  | 0, _ :: _, _, hn, _, _, _, _, _ => by simp at hn
  | n + 1, c :: ls, v :: l, hn, h64, hl, hw, h, more => by
    have hl' : ls.length = l.length := by simpa using hl
    have hn' : ls.length ≤ n := by simpa using hn
    have h64' : ls.length ≤ 63 := by simpa using h64
    obtain ⟨h1, h2⟩ := layEr_cons h
    by_cases hc : c = 98
    · subst hc
      have e := layBy_run (98 :: ls) (v :: l) [] hl
      have hr := run_right (98 :: ls) (v :: l) hl hw h
      have hnb := nb_le ls
      have e98 : nb (98 :: ls) = nb ls + 1 := by simp [nb]
      rw [e98] at e hr
      rw [List.nil_append, List.drop_succ_cons, List.drop_succ_cons] at e
      have hlen : (((v :: l).take (nb ls + 1)).map (fun v => v.n == 1)).length = nb ls + 1 := by
        rw [List.length_map, List.length_take, List.length_cons]; omega
      generalize ((v :: l).take (nb ls + 1)).map (fun v => v.n == 1) = bs at e hr hlen
      have ih := tk_back n (ls.drop (nb ls)) (l.drop (nb ls)) (by rw [List.length_drop]; omega) (by rw [List.length_drop]; omega) (by rw [List.length_drop, List.length_drop, hl'])
        (fun v hv => hw v (List.mem_cons_of_mem _ (List.mem_of_mem_drop hv))) (layEr_drop _ _ _ h2) more
      rw [e, ByteArray.append_assoc, tk_bits, ← hlen, tbE_bits bs _ (by omega), if_pos rfl, tbR_bits bs _ (by omega), ih, bitsOf_bits, hr]
      simp only [Option.map_some, Option.some.injEq, Prod.mk.injEq, and_true]
      rw [List.take_succ_cons, List.cons_append, List.take_append_drop]
    · have ih := tk_back n ls l hn' (by omega) hl' (fun v hv => hw v (List.mem_cons_of_mem _ hv)) h2 more
      rw [layBy, if_neg hc, bitsS_nil, ba_e_append, ByteArray.append_assoc]
      obtain ⟨g1, g2, g3⟩ := one_back hc (hw v (List.mem_cons_self ..)) h1 (layBy ls l [] ++ more)
      rw [tk_one hc, if_pos g1, g2, g3, ih]
      rfl
theorem bitV_n (b : Bool) : ((bitV b).n == 1) = b := by cases b <;> rfl
theorem bitV_right (b : Bool) : vE 98 (bitV b) = 0 ∧ 0 ≤ (bitV b).n := by cases b <;> exact ⟨rfl, by decide⟩
/-- bits ahead of the others: right, and laid together -/
theorem run_forth : ∀ (ls : List UInt8) (bs : List Bool) (l : List MV), bs.length = nb ls → layEr (ls.drop (nb ls)) l = 0 → layEr ls (bs.map bitV ++ l) = 0
  | [], bs, l, hb, h => by
    have : bs = [] := List.eq_nil_of_length_eq_zero (by simpa [nb] using hb)
    subst this
    exact h
  | c :: ls, bs, l, hb, h => by
    by_cases hc : c = 98
    · subst hc
      have e98 : nb (98 :: ls) = nb ls + 1 := by simp [nb]
      rw [e98] at hb h
      match bs, hb with
      | b :: bs, hb =>
        rw [List.drop_succ_cons] at h
        exact layEr_mk (bitV_right b).1 (run_forth ls bs l (by simpa using hb) h)
    · have e : nb (c :: ls) = 0 := by simp [nb, hc]
      rw [e] at hb h
      have : bs = [] := List.eq_nil_of_length_eq_zero hb
      subst this
      exact h
/-- what is taken is right, and laid as it was -/
theorem tk_forth : ∀ (n : Nat) (ls : List UInt8) (s : ByteArray) (l : List MV) (r : ByteArray), ls.length ≤ n → ls.length ≤ 64 → tk ls s = some (l, r) → ls.length = l.length ∧ layEr ls l = 0 ∧ layBy ls l [] ++ r = s ∧ ∀ v ∈ l, 0 ≤ v.n
  | _, [], s, l, r, _, _, h => by
    rw [tk_nil] at h
    cases h
    exact ⟨rfl, rfl, by rw [layBy_nil, bitsS_nil, ba_e_append], fun v hv => by cases hv⟩
  | 0, _ :: _, _, _, _, hn, _, _ => by simp at hn
  | n + 1, c :: ls, s, l, r, hn, h64, h => by
    have hn' : ls.length ≤ n := by simpa using hn
    have h64' : ls.length ≤ 63 := by simpa using h64
    have hnb := nb_le ls
    by_cases hc : c = 98
    · subst hc
      rw [tk_bits] at h
      by_cases g : tbE s ((nb ls + 1 : Nat) : Int) = 0
      · rw [if_pos g] at h
        cases ht : tk (ls.drop (nb ls)) (tbR s ((nb ls + 1 : Nat) : Int)) with
        | none => rw [ht] at h; cases h
        | some x =>
          obtain ⟨l2, r2⟩ := x
          rw [ht] at h
          simp only [Option.map_some, Option.some.injEq, Prod.mk.injEq] at h
          obtain ⟨rfl, rfl⟩ := h
          obtain ⟨i1, i2, i3, i4⟩ := tk_forth n _ _ _ _ (by rw [List.length_drop]; omega) (by rw [List.length_drop]; omega) ht
          rw [List.length_drop] at i1
          have hbl : (bitsOf s (nb ls + 1)).length = nb ls + 1 := bitsOf_length _ _
          have hlen : (98 :: ls).length = ((bitsOf s (nb ls + 1)).map bitV ++ l2).length := by
            rw [List.length_append, List.length_map, hbl, List.length_cons]; omega
          refine ⟨hlen, ?_, ?_, ?_⟩
          · exact run_forth (98 :: ls) _ l2 (by rw [hbl]; simp [nb]) (by
              have e98 : nb (98 :: ls) = nb ls + 1 := by simp [nb]
              rw [e98, List.drop_succ_cons]; exact i2)
          · obtain ⟨k, hk, hk2, hk3, hk4⟩ := tbE_parts g
            obtain rfl : k = nb ls + 1 := by omega
            have hb := bits_back hk3 hk4
            have e98 : nb (98 :: ls) = nb ls + 1 := by simp [nb]
            rw [layBy_run _ _ _ hlen, e98, List.nil_append, List.drop_succ_cons]
            have t1 : ((bitsOf s (nb ls + 1)).map bitV ++ l2).take (nb ls + 1) = (bitsOf s (nb ls + 1)).map bitV := by
              rw [List.take_append_of_le_length (by rw [List.length_map, hbl]; exact Nat.le_refl _), List.take_of_length_le (by rw [List.length_map, hbl]; exact Nat.le_refl _)]
            have t2 : ((bitsOf s (nb ls + 1)).map bitV ++ l2).drop (nb ls + 1) = l2 := List.drop_left' (by rw [List.length_map, hbl])
            have t3 : ((bitsOf s (nb ls + 1)).map bitV).map (fun v => v.n == 1) = bitsOf s (nb ls + 1) := by
              rw [List.map_map]
              conv => rhs; rw [← List.map_id (bitsOf s (nb ls + 1))]
              exact List.map_congr_left (fun b _ => bitV_n b)
            rw [t1, t2, t3, ByteArray.append_assoc, i3, tbR, if_pos g, Int.toNat_natCast]
            exact hb
          · intro v hv
            rcases List.mem_append.1 hv with hv | hv
            · obtain ⟨b, -, rfl⟩ := List.mem_map.1 hv
              exact (bitV_right b).2
            · exact i4 v hv
      · rw [if_neg g] at h; cases h
    · rw [tk_one hc] at h
      by_cases g : oE c s = 0
      · rw [if_pos g] at h
        cases ht : tk ls (oR c s) with
        | none => rw [ht] at h; cases h
        | some x =>
          obtain ⟨l2, r2⟩ := x
          rw [ht] at h
          simp only [Option.map_some, Option.some.injEq, Prod.mk.injEq] at h
          obtain ⟨rfl, rfl⟩ := h
          obtain ⟨i1, i2, i3, i4⟩ := tk_forth n _ _ _ _ hn' (by omega) ht
          obtain ⟨f1, f2, f3⟩ := one_forth hc g
          refine ⟨by simp [i1], layEr_mk f1 i2, ?_, ?_⟩
          · rw [layBy, if_neg hc, bitsS_nil, ba_e_append, ByteArray.append_assoc, i3, f2]
          · intro v hv
            rcases List.mem_cons.1 hv with rfl | hv
            · exact f3
            · exact i4 v hv
      · rw [if_neg g] at h; cases h
end Go.Proofs.YtkdiccedkjbpeaaGreatDoorR
