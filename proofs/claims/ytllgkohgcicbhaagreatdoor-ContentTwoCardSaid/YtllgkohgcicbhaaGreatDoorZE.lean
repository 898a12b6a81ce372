/-
  Several texts joined in one file: each says at its own head, below, what it proves, and its conditions.
-/
import Derived.Test.YtllgkohgcicbhaaGreatDoorZC
import Derived.Test.YtllgkohgcicbhaaGreatDoorZA
import Derived.Laws.BitsAllLaws
import Derived.Laws.StructEq
/-
  Methods as bytes, and out of bytes, as plain mathematics: a right method is taken as it was, whatever stands behind it; what is taken is right, and laid as it was. No condition.
-/
namespace Go.Proofs.YtllgkohgcicbhaaGreatDoor

/-- a value -/
structure MV where
  n : Int
  s : ByteArray
def noV : MV := ⟨0, ⟨#[]⟩⟩
def wfV (v : MV) : Prop := 0 ≤ v.n ∧ v.n < 18446744073709551616 ∧ v.s.size < 140737488355328
/-- how many bytes a number of a letter has -/
def wid4 (c : UInt8) : Int := if c = 111 then 1 else if c = 115 then 2 else if c = 108 then 4 else 8
def isLet (c : UInt8) : Bool := c == 98 || c == 76 || c == 83 || c == 84 || c == 108 || c == 111 || c == 113 || c == 115
theorem let_cases {c : UInt8} (h : isLet c = true) : c = 98 ∨ c = 76 ∨ c = 83 ∨ c = 84 ∨ c = 108 ∨ c = 111 ∨ c = 113 ∨ c = 115 := by
  simp only [isLet, Bool.or_eq_true, beq_iff_eq] at h
  rcases h with ((((((h | h) | h) | h) | h) | h) | h) | h <;> simp [h]
/-- just the bytes of a table -/
def tabIs (s : ByteArray) : Bool := decide ((nest true s 32).err = 0) && decide ((nest true s 32).rest.size = 0)
/-- of a number, of so many bytes: the error, the bytes -/
def numE (k : Int) (v : MV) : Int := if putOk k v.n = true then (if v.s.size = 0 then 0 else 1) else 4
/-- why a value isn't right -/
def vE (c : UInt8) (v : MV) : Int :=
  if c = 98 then (if 1 < v.n then 4 else if v.s.size = 0 then 0 else 1)
  else if c = 83 then (if layOk 1 v.s = true then (if v.n = 0 then 0 else 1) else 4)
  else if c = 76 then (if 131072 < v.s.size then 4 else if v.n = 0 then 0 else 1)
  else if c = 84 then (if v.n = 0 then (if tabIs v.s = true then 0 else 3) else 1)
  else numE (wid4 c) v
/-- the bytes of a right value -/
def vB (c : UInt8) (v : MV) : ByteArray :=
  if c = 98 then ⟨#[]⟩ else if c = 83 then layR 1 v.s else if c = 76 then layR 4 v.s else if c = 84 then v.s else putR (wid4 c) v.n
/-- the first error; the bytes of right values, behind bits that wait -/
def layEr : List UInt8 → List MV → Int
  | c :: ls, v :: l => if vE c v = 0 then layEr ls l else vE c v
  | _, _ => 0
def layBy : List UInt8 → List MV → List Bool → ByteArray
  | c :: ls, v :: l, bs => if c = 98 then layBy ls l (bs ++ [v.n == 1]) else bitsS bs ++ (vB c v ++ layBy ls l [])
  | _, _, bs => bitsS bs
/-- the value that bytes begin with, of a letter that is no bit: the error, the value, the rest -/
def oE (c : UInt8) (s : ByteArray) : Int :=
  if c = 83 then ttE 1 s
  else if c = 76 then (if ttE 4 s = 0 then (if 131072 < (ttA 4 s).size then 4 else 0) else ttE 4 s)
  else if c = 84 then (nest true s 32).err
  else takeE s (wid4 c)
def oV (c : UInt8) (s : ByteArray) : MV :=
  if c = 83 then ⟨0, ttA 1 s⟩
  else if c = 76 then ⟨0, if oE 76 s = 0 then ttA 4 s else ⟨#[]⟩⟩
  else if c = 84 then ⟨0, takenA s (nest true s 32)⟩
  else ⟨takeV s (wid4 c), ⟨#[]⟩⟩
def oR (c : UInt8) (s : ByteArray) : ByteArray :=
  if c = 83 then ttR 1 s
  else if c = 76 then (if oE 76 s = 0 then ttR 4 s else ⟨#[]⟩)
  else if c = 84 then takenB (nest true s 32)
  else takeR s (wid4 c)
/-- how many bits stand side by side at the beginning -/
def nb : List UInt8 → Nat
  | c :: ls => if c = 98 then nb ls + 1 else 0
  | [] => 0
def bitV (b : Bool) : MV := ⟨if b = true then 1 else 0, ⟨#[]⟩⟩
/-- the values that bytes begin with, by their letters, and the rest -/
def tk (ls : List UInt8) (s : ByteArray) : Option (List MV × ByteArray) :=
  match ls with
  | [] => some ([], s)
  | c :: ls' =>
    if c = 98 then
      if tbE s ((nb ls' + 1 : Nat) : Int) = 0 then (tk (ls'.drop (nb ls')) (tbR s ((nb ls' + 1 : Nat) : Int))).map fun x => ((bitsOf s (nb ls' + 1)).map bitV ++ x.1, x.2)
      else none
    else if oE c s = 0 then (tk ls' (oR c s)).map fun x => (oV c s :: x.1, x.2) else none
  termination_by ls.length
  decreasing_by all_goals (simp; try omega)

theorem nb_le : ∀ ls : List UInt8, nb ls ≤ ls.length
  | [] => Nat.le_refl _
  | c :: ls => by
    have := nb_le ls
    unfold nb
    split <;> simp <;> omega
theorem layBy_nil (bs : List Bool) : ∀ l : List MV, layBy [] l bs = bitsS bs
  | [] => rfl
  | _ :: _ => rfl
theorem bitsS_nil : bitsS [] = ⟨#[]⟩ := rfl
theorem ba_e_append (a : ByteArray) : (⟨#[]⟩ : ByteArray) ++ a = a := by
  apply ba_ext
  rw [ba_append]
  rfl
theorem ba_append_e (a : ByteArray) : a ++ (⟨#[]⟩ : ByteArray) = a := by
  apply ba_ext
  rw [ba_append]
  simp
/-- bits that stand side by side are laid together -/
theorem layBy_run : ∀ (ls : List UInt8) (l : List MV) (bs : List Bool), ls.length = l.length →
    layBy ls l bs = bitsS (bs ++ (l.take (nb ls)).map (fun v => v.n == 1)) ++ layBy (ls.drop (nb ls)) (l.drop (nb ls)) []
  | [], [], bs, _ => by simp [nb, layBy, bitsS_nil, ba_append_e]
  | c :: ls, v :: l, bs, h => by
    by_cases hc : c = 98
    · have ih := layBy_run ls l (bs ++ [v.n == 1]) (by simpa using h)
      rw [layBy, if_pos hc, ih]
      simp [nb, hc]
    · rw [layBy, if_neg hc]
      simp [nb, hc]
      rw [layBy, if_neg hc, bitsS_nil, ba_e_append]

theorem putOk_of_num {k : Int} {v : MV} (h : numE k v = 0) : putOk k v.n = true ∧ v.s.size = 0 := by
  unfold numE at h
  by_cases h1 : putOk k v.n = true
  · rw [if_pos h1] at h
    by_cases h2 : v.s.size = 0
    · exact ⟨h1, h2⟩
    · rw [if_neg h2] at h; cases h
  · rw [if_neg h1] at h; cases h
theorem ba_empty {a : ByteArray} (h : a.size = 0) : a = ⟨#[]⟩ := by
  apply ba_ext
  have := ba_len a
  exact List.eq_nil_of_length_eq_zero (by omega)
theorem ne_of_let {c : UInt8} (h : isLet c = true) (h1 : ¬ c = 98) (h2 : ¬ c = 83) (h3 : ¬ c = 76) (h4 : ¬ c = 84) : isW (wid4 c) = true := by
  rcases let_cases h with rfl | rfl | rfl | rfl | rfl | rfl | rfl | rfl
  · exact absurd rfl h1
  · exact absurd rfl h3
  · exact absurd rfl h2
  · exact absurd rfl h4
  all_goals decide
/-- a value that is laid is taken -/
theorem one_back {c : UInt8} {v : MV} (hc : ¬ c = 98) (h0 : 0 ≤ v.n) (h : vE c v = 0) (more : ByteArray) : oE c (vB c v ++ more) = 0 ∧ oV c (vB c v ++ more) = v ∧ oR c (vB c v ++ more) = more := by
  obtain ⟨n, s⟩ := v
  unfold vE at h
  rw [if_neg hc] at h
  unfold vB
  rw [if_neg hc]
  by_cases h2 : c = 83
  · rw [if_pos h2] at h ⊢
    have hk : layOk 1 s = true ∧ n = 0 := by
      by_cases g : layOk 1 s = true
      · rw [if_pos g] at h
        by_cases g2 : n = 0
        · exact ⟨g, g2⟩
        · rw [if_neg g2] at h; cases h
      · rw [if_neg g] at h; cases h
    obtain ⟨g1, g2, g3⟩ := tt_lay hk.1 more
    simp only [oE, oV, oR, if_pos h2]
    exact ⟨g1, by rw [g2, hk.2], g3⟩
  rw [if_neg h2] at h ⊢
  by_cases h3 : c = 76
  · rw [if_pos h3] at h ⊢
    have hk : ¬ 131072 < s.size ∧ n = 0 := by
      by_cases g : 131072 < s.size
      · rw [if_pos g] at h; cases h
      · rw [if_neg g] at h
        by_cases g2 : n = 0
        · exact ⟨g, g2⟩
        · rw [if_neg g2] at h; cases h
    have hl : layOk 4 s = true := by rw [layOk_four]; simp; omega
    obtain ⟨g1, g2, g3⟩ := tt_lay hl more
    have e : oE 76 (layR 4 s ++ more) = 0 := by
      simp only [oE]
      rw [if_neg (by decide), if_pos trivial, if_pos g1, g2, if_neg hk.1]
    simp only [oV, oR, if_neg h2, if_pos h3, if_pos e]
    rw [h3]
    exact ⟨e, by rw [g2, hk.2], g3⟩
  rw [if_neg h3] at h ⊢
  by_cases h4 : c = 84
  · rw [if_pos h4] at h ⊢
    have hk : tabIs s = true ∧ n = 0 := by
      by_cases g2 : n = 0
      · rw [if_pos g2] at h
        by_cases g : tabIs s = true
        · exact ⟨g, g2⟩
        · rw [if_neg g] at h; cases h
      · rw [if_neg g2] at h; cases h
    have ht := hk.1
    simp only [tabIs, Bool.and_eq_true, decide_eq_true_eq] at ht
    obtain ⟨-, g2, a, g3, -, g4⟩ := nest_good ht.1
    rw [ba_empty ht.2, ba_append_e] at g3
    have e := g4 more 32 g2
    rw [← g3] at e
    simp only [oE, oV, oR, if_neg h2, if_neg h3, if_pos h4]
    rw [e]
    refine ⟨rfl, ?_, ?_⟩
    · rw [takenA, if_pos rfl, front_append, hk.2]
    · rw [takenB, if_pos rfl]
  rw [if_neg h4] at h ⊢
  obtain ⟨k1, k2⟩ := putOk_of_num h
  simp only [oE, oV, oR, if_neg h2, if_neg h3, if_neg h4]
  refine ⟨take_put_e k1 more, ?_, take_put_r k1 more⟩
  have k2' : s.size = 0 := k2
  rw [take_put_v k1 h0 more, ba_empty k2']
theorem takeOk_of {s : ByteArray} {n : Int} (h : takeE s n = 0) : takeOk s n = true := by
  cases g : takeOk s n
  · have := (takeE_not g).2
    rw [h] at this
    cases this
  · rfl
theorem ttOk_of {s : ByteArray} {k : Int} (h : ttE k s = 0) : ttOk k s = true := by
  have := ttE_zero k s
  rw [h] at this
  simpa using this.symm
theorem long_parts {s : ByteArray} (h : oE 76 s = 0) : ttE 4 s = 0 ∧ ¬ 131072 < (ttA 4 s).size := by
  simp only [oE] at h
  rw [if_neg (by decide), if_pos trivial] at h
  by_cases g : ttE 4 s = 0
  · rw [if_pos g] at h
    by_cases g2 : 131072 < (ttA 4 s).size
    · rw [if_pos g2] at h; cases h
    · exact ⟨g, g2⟩
  · rw [if_neg g] at h; exact absurd h g
theorem takenA_front {s a : ByteArray} {r : Res} (h : r.err = 0) (e : s = a ++ r.rest) : takenA s r = a := by
  rw [takenA, if_pos h]
  obtain ⟨d, y, x⟩ := r
  dsimp only at e ⊢
  subst e
  exact front_append a y
/-- a value that is taken is right, and laid as it was -/
theorem one_forth {c : UInt8} {s : ByteArray} (hc : ¬ c = 98) (h : oE c s = 0) : vE c (oV c s) = 0 ∧ vB c (oV c s) ++ oR c s = s ∧ 0 ≤ (oV c s).n := by
  unfold vE vB
  rw [if_neg hc, if_neg hc]
  by_cases h2 : c = 83
  · simp only [oE, oV, oR, if_pos h2] at h ⊢
    obtain ⟨g1, g2⟩ := lay_tt (ttOk_of h)
    exact ⟨by rw [if_pos g1, if_pos trivial], g2, Int.le_refl _⟩
  by_cases h3 : c = 76
  · subst h3
    obtain ⟨g1, g2⟩ := long_parts h
    obtain ⟨g3, g4⟩ := lay_tt (ttOk_of g1)
    have e1 : oV 76 s = ⟨0, ttA 4 s⟩ := by simp [oV, h]
    have e2 : oR 76 s = ttR 4 s := by simp [oR, h]
    rw [e1, e2]
    exact ⟨by rw [if_neg h2, if_pos rfl, if_neg g2, if_pos rfl], by rw [if_neg h2, if_pos rfl]; exact g4, Int.le_refl _⟩
  by_cases h4 : c = 84
  · simp only [oE, oV, oR, if_neg h2, if_neg h3, if_pos h4] at h ⊢
    obtain ⟨-, g2, a, g3, -, g4⟩ := nest_good h
    have e := g4 ⟨#[]⟩ 32 g2
    rw [ba_append_e] at e
    have ea := takenA_front h g3
    refine ⟨?_, ?_, Int.le_refl _⟩
    · rw [ea, if_pos trivial, if_pos (by rw [tabIs, e]; rfl)]
    · rw [ea, takenB, if_pos h]
      exact g3.symm
  simp only [oE, oV, oR, if_neg h2, if_neg h3, if_neg h4] at h ⊢
  have k := takeOk_of h
  exact ⟨by rw [numE, if_pos (put_take_ok k)]; rfl, put_take_s k, takeV_nonneg _ _⟩
end Go.Proofs.YtllgkohgcicbhaaGreatDoor

/-
  Whole methods as bytes, and out of bytes: a right method is taken as it was, with anything behind it none is; what is taken is right, and laid as it was. No condition.
-/
namespace Go.Proofs.YtllgkohgcicbhaaGreatDoor

theorem layEr_cons {c : UInt8} {ls : List UInt8} {v : MV} {l : List MV} (h : layEr (c :: ls) (v :: l) = 0) : vE c v = 0 ∧ layEr ls l = 0 := by
  unfold layEr at h
  by_cases g : vE c v = 0
  · rw [if_pos g] at h; exact ⟨g, h⟩
  · rw [if_neg g] at h; exact absurd h g
theorem layEr_mk {c : UInt8} {ls : List UInt8} {v : MV} {l : List MV} (h1 : vE c v = 0) (h2 : layEr ls l = 0) : layEr (c :: ls) (v :: l) = 0 := by
  unfold layEr
  rw [if_pos h1, h2]
theorem layEr_drop : ∀ (k : Nat) (ls : List UInt8) (l : List MV), layEr ls l = 0 → layEr (ls.drop k) (l.drop k) = 0
  | 0, _, _, h => h
  | _ + 1, [], _, _ => by simp [layEr]
  | _ + 1, _ :: _, [], _ => by simp [layEr]
  | k + 1, _ :: ls, _ :: l, h => layEr_drop k ls l (layEr_cons h).2
theorem bit_right {v : MV} (h0 : 0 ≤ v.n) (h : vE 98 v = 0) : bitV (v.n == 1) = v := by
  obtain ⟨n, s⟩ := v
  unfold vE at h
  rw [if_pos rfl] at h
  by_cases g : 1 < n
  · rw [if_pos g] at h; cases h
  · rw [if_neg g] at h
    by_cases g2 : s.size = 0
    · have h0' : 0 ≤ n := h0
      rw [ba_empty g2]
      have : n = 0 ∨ n = 1 := by omega
      rcases this with rfl | rfl <;> rfl
    · rw [if_neg g2] at h; cases h
theorem run_right : ∀ (ls : List UInt8) (l : List MV), ls.length = l.length → (∀ v ∈ l, 0 ≤ v.n) → layEr ls l = 0 → ((l.take (nb ls)).map (fun v => v.n == 1)).map bitV = l.take (nb ls)
  | [], _, _, _, _ => by simp [nb]
  | c :: ls, v :: l, hl, hw, h => by
    unfold nb
    by_cases hc : c = 98
    · rw [if_pos hc]
      subst hc
      obtain ⟨h1, h2⟩ := layEr_cons h
      have ih := run_right ls l (by simpa using hl) (fun v hv => hw v (List.mem_cons_of_mem _ hv)) h2
      rw [List.take_succ_cons, List.map_cons, List.map_cons, ih, bit_right (hw v (List.mem_cons_self ..)) h1]
    · rw [if_neg hc]; rfl
theorem tk_nil (s : ByteArray) : tk [] s = some ([], s) := by rw [tk]
theorem tk_one {c : UInt8} (hc : ¬ c = 98) (ls : List UInt8) (s : ByteArray) : tk (c :: ls) s = if oE c s = 0 then (tk ls (oR c s)).map fun x => (oV c s :: x.1, x.2) else none := by
  rw [tk, if_neg hc]
theorem tk_bits (ls : List UInt8) (s : ByteArray) : tk (98 :: ls) s = if tbE s ((nb ls + 1 : Nat) : Int) = 0 then (tk (ls.drop (nb ls)) (tbR s ((nb ls + 1 : Nat) : Int))).map fun x => ((bitsOf s (nb ls + 1)).map bitV ++ x.1, x.2) else none := by
  rw [tk, if_pos rfl]
/-- what was laid is taken -/
theorem tk_back : ∀ (n : Nat) (ls : List UInt8) (l : List MV), ls.length ≤ n → ls.length ≤ 64 → ls.length = l.length → (∀ v ∈ l, 0 ≤ v.n) → layEr ls l = 0 → ∀ more, tk ls (layBy ls l [] ++ more) = some (l, more)
  | _, [], [], _, _, _, _, _, more => by rw [tk_nil, layBy_nil, bitsS_nil, ba_e_append]
  | 0, _ :: _, _, hn, _, _, _, _, _ => by simp at hn
  | n + 1, c :: ls, v :: l, hn, h64, hl, hw, h, more => by
    have hl' : ls.length = l.length := by simpa using hl
    have hn' : ls.length ≤ n := by simpa using hn
    have h64' : ls.length ≤ 63 := by simpa using h64
    obtain ⟨h1, h2⟩ := layEr_cons h
    by_cases hc : c = 98
    · subst hc
      have e := layBy_run (98 :: ls) (v :: l) [] hl
      have hr := run_right (98 :: ls) (v :: l) hl hw h
      have hnb := nb_le ls
      have e98 : nb (98 :: ls) = nb ls + 1 := by simp [nb]
      rw [e98] at e hr
      rw [List.nil_append, List.drop_succ_cons, List.drop_succ_cons] at e
      have hlen : (((v :: l).take (nb ls + 1)).map (fun v => v.n == 1)).length = nb ls + 1 := by
        rw [List.length_map, List.length_take, List.length_cons]; omega
      generalize ((v :: l).take (nb ls + 1)).map (fun v => v.n == 1) = bs at e hr hlen
      have ih := tk_back n (ls.drop (nb ls)) (l.drop (nb ls)) (by rw [List.length_drop]; omega) (by rw [List.length_drop]; omega) (by rw [List.length_drop, List.length_drop, hl'])
        (fun v hv => hw v (List.mem_cons_of_mem _ (List.mem_of_mem_drop hv))) (layEr_drop _ _ _ h2) more
      rw [e, ByteArray.append_assoc, tk_bits, ← hlen, tbE_bits bs _ (by omega), if_pos rfl, tbR_bits bs _ (by omega), ih, bitsOf_bits, hr]
      simp only [Option.map_some, Option.some.injEq, Prod.mk.injEq, and_true]
      rw [List.take_succ_cons, List.cons_append, List.take_append_drop]
    · have ih := tk_back n ls l hn' (by omega) hl' (fun v hv => hw v (List.mem_cons_of_mem _ hv)) h2 more
      rw [layBy, if_neg hc, bitsS_nil, ba_e_append, ByteArray.append_assoc]
      obtain ⟨g1, g2, g3⟩ := one_back hc (hw v (List.mem_cons_self ..)) h1 (layBy ls l [] ++ more)
      rw [tk_one hc, if_pos g1, g2, g3, ih]
      rfl
theorem bitV_n (b : Bool) : ((bitV b).n == 1) = b := by cases b <;> rfl
theorem bitV_right (b : Bool) : vE 98 (bitV b) = 0 ∧ 0 ≤ (bitV b).n := by cases b <;> exact ⟨rfl, by decide⟩
/-- bits ahead of the others: right, and laid together -/
theorem run_forth : ∀ (ls : List UInt8) (bs : List Bool) (l : List MV), bs.length = nb ls → layEr (ls.drop (nb ls)) l = 0 → layEr ls (bs.map bitV ++ l) = 0
  | [], bs, l, hb, h => by
    have : bs = [] := List.eq_nil_of_length_eq_zero (by simpa [nb] using hb)
    subst this
    exact h
  | c :: ls, bs, l, hb, h => by
    by_cases hc : c = 98
    · subst hc
      have e98 : nb (98 :: ls) = nb ls + 1 := by simp [nb]
      rw [e98] at hb h
      match bs, hb with
      | b :: bs, hb =>
        rw [List.drop_succ_cons] at h
        exact layEr_mk (bitV_right b).1 (run_forth ls bs l (by simpa using hb) h)
    · have e : nb (c :: ls) = 0 := by simp [nb, hc]
      rw [e] at hb h
      have : bs = [] := List.eq_nil_of_length_eq_zero hb
      subst this
      exact h
/-- what is taken is right, and laid as it was -/
theorem tk_forth : ∀ (n : Nat) (ls : List UInt8) (s : ByteArray) (l : List MV) (r : ByteArray), ls.length ≤ n → ls.length ≤ 64 → tk ls s = some (l, r) → ls.length = l.length ∧ layEr ls l = 0 ∧ layBy ls l [] ++ r = s ∧ ∀ v ∈ l, 0 ≤ v.n
  | _, [], s, l, r, _, _, h => by
    rw [tk_nil] at h
    cases h
    exact ⟨rfl, rfl, by rw [layBy_nil, bitsS_nil, ba_e_append], fun v hv => by cases hv⟩
  | 0, _ :: _, _, _, _, hn, _, _ => by simp at hn
  | n + 1, c :: ls, s, l, r, hn, h64, h => by
    have hn' : ls.length ≤ n := by simpa using hn
    have h64' : ls.length ≤ 63 := by simpa using h64
    have hnb := nb_le ls
    by_cases hc : c = 98
    · subst hc
      rw [tk_bits] at h
      by_cases g : tbE s ((nb ls + 1 : Nat) : Int) = 0
      · rw [if_pos g] at h
        cases ht : tk (ls.drop (nb ls)) (tbR s ((nb ls + 1 : Nat) : Int)) with
        | none => rw [ht] at h; cases h
        | some x =>
          obtain ⟨l2, r2⟩ := x
          rw [ht] at h
          simp only [Option.map_some, Option.some.injEq, Prod.mk.injEq] at h
          obtain ⟨rfl, rfl⟩ := h
          obtain ⟨i1, i2, i3, i4⟩ := tk_forth n _ _ _ _ (by rw [List.length_drop]; omega) (by rw [List.length_drop]; omega) ht
          rw [List.length_drop] at i1
          have hbl : (bitsOf s (nb ls + 1)).length = nb ls + 1 := bitsOf_length _ _
          have hlen : (98 :: ls).length = ((bitsOf s (nb ls + 1)).map bitV ++ l2).length := by
            rw [List.length_append, List.length_map, hbl, List.length_cons]; omega
          refine ⟨hlen, ?_, ?_, ?_⟩
          · exact run_forth (98 :: ls) _ l2 (by rw [hbl]; simp [nb]) (by
              have e98 : nb (98 :: ls) = nb ls + 1 := by simp [nb]
              rw [e98, List.drop_succ_cons]; exact i2)
          · obtain ⟨k, hk, hk2, hk3, hk4⟩ := tbE_parts g
            obtain rfl : k = nb ls + 1 := by omega
            have hb := bits_back hk3 hk4
            have e98 : nb (98 :: ls) = nb ls + 1 := by simp [nb]
            rw [layBy_run _ _ _ hlen, e98, List.nil_append, List.drop_succ_cons]
            have t1 : ((bitsOf s (nb ls + 1)).map bitV ++ l2).take (nb ls + 1) = (bitsOf s (nb ls + 1)).map bitV := by
              rw [List.take_append_of_le_length (by rw [List.length_map, hbl]; exact Nat.le_refl _), List.take_of_length_le (by rw [List.length_map, hbl]; exact Nat.le_refl _)]
            have t2 : ((bitsOf s (nb ls + 1)).map bitV ++ l2).drop (nb ls + 1) = l2 := List.drop_left' (by rw [List.length_map, hbl])
            have t3 : ((bitsOf s (nb ls + 1)).map bitV).map (fun v => v.n == 1) = bitsOf s (nb ls + 1) := by
              rw [List.map_map]
              conv => rhs; rw [← List.map_id (bitsOf s (nb ls + 1))]
              exact List.map_congr_left (fun b _ => bitV_n b)
            rw [t1, t2, t3, ByteArray.append_assoc, i3, tbR, if_pos g, Int.toNat_natCast]
            exact hb
          · intro v hv
            rcases List.mem_append.1 hv with hv | hv
            · obtain ⟨b, -, rfl⟩ := List.mem_map.1 hv
              exact (bitV_right b).2
            · exact i4 v hv
      · rw [if_neg g] at h; cases h
    · rw [tk_one hc] at h
      by_cases g : oE c s = 0
      · rw [if_pos g] at h
        cases ht : tk ls (oR c s) with
        | none => rw [ht] at h; cases h
        | some x =>
          obtain ⟨l2, r2⟩ := x
          rw [ht] at h
          simp only [Option.map_some, Option.some.injEq, Prod.mk.injEq] at h
          obtain ⟨rfl, rfl⟩ := h
          obtain ⟨i1, i2, i3, i4⟩ := tk_forth n _ _ _ _ hn' (by omega) ht
          obtain ⟨f1, f2, f3⟩ := one_forth hc g
          refine ⟨by simp [i1], layEr_mk f1 i2, ?_, ?_⟩
          · rw [layBy, if_neg hc, bitsS_nil, ba_e_append, ByteArray.append_assoc, i3, f2]
          · intro v hv
            rcases List.mem_cons.1 hv with rfl | hv
            · exact f3
            · exact i4 v hv
      · rw [if_neg g] at h; cases h
end Go.Proofs.YtllgkohgcicbhaaGreatDoor

/-
  Values in memory, and what is answered of one. No condition.
-/
namespace Go.Proofs.YtllgkohgcicbhaaGreatDoor
open Go.RowKit

def encV (v : MV) : Value := .agg #[.int .u64 v.n, .string v.s]
def cellsV (v : MV) : List Value := [.int .u64 v.n, .string v.s]
/-- what is answered of a value: its bytes, if it is right -/
def vRes (c : UInt8) (v : MV) : ByteArray := if vE c v = 0 then vB c v else ⟨#[]⟩
def numR (k : Int) (v : MV) : ByteArray := if numE k v = 0 then putR k v.n else ⟨#[]⟩
theorem str_cases (s : ByteArray) : (s = ⟨#[]⟩ ∧ s.size = 0) ∨ ((s.toList == []) = false ∧ ¬ s.size = 0) := by
  by_cases h : s.size = 0
  · exact .inl ⟨ba_nil h, h⟩
  · exact .inr ⟨ba_ne h, h⟩
end Go.Proofs.YtllgkohgcicbhaaGreatDoor

/-
  Rows of values in memory: their cells; the sizes of what is laid. No condition.
-/
namespace Go.Proofs.YtllgkohgcicbhaaGreatDoor
open Go.RowKit

def rowV (l : List MV) : List Value := l.flatMap cellsV
theorem rowV_length (l : List MV) : (rowV l).length = l.length * 2 := by
  induction l with
  | nil => rfl
  | cons v l ih => simp only [rowV, List.flatMap_cons, List.length_append, List.length_cons] at ih ⊢; simp only [cellsV, List.length_cons, List.length_nil]; omega
theorem rowV_snoc (l : List MV) (v : MV) : rowV (l ++ [v]) = rowV l ++ cellsV v := by simp [rowV]
theorem rowV_append (l m : List MV) : rowV (l ++ m) = rowV l ++ rowV m := by simp [rowV]
theorem v_cells (l : List MV) : ∀ (k : Nat) (h : k < l.length), (rowV l)[k * 2]? = some (.int .u64 l[k].n) ∧ (rowV l)[k * 2 + 1]? = some (.string l[k].s) := by
  induction l with
  | nil => intro k h; cases h
  | cons f l ih =>
    intro k h
    have e : rowV (f :: l) = [.int .u64 f.n, .string f.s] ++ rowV l := by simp [rowV, cellsV]
    cases k with
    | zero => rw [e]; simp
    | succ k =>
      obtain ⟨h1, h2⟩ := ih k (by simpa using h)
      rw [e]
      refine ⟨?_, ?_⟩
      · rw [show (k + 1) * 2 = k * 2 + 1 + 1 by omega]
        simpa using h1
      · rw [show (k + 1) * 2 + 1 = (k * 2 + 1) + 1 + 1 by omega]
        simpa using h2
theorem vals_v {w : World} {A : Option Addr} {l : List MV} (h : ValsAt w A (rowV l)) (h0 : 0 < l.length) : ∃ b off, A = some ⟨b, off, none⟩ ∧ b < w.heap.size ∧ ∀ k (hk : k < l.length),
    w.cell? ⟨b, off + k * 2, none⟩ = some (.int .u64 l[k].n) ∧ w.cell? ⟨b, off + k * 2 + 1, none⟩ = some (.string l[k].s) := by
  have hl := rowV_length l
  obtain ⟨b, off, hA, hlt, hc⟩ := h (by omega)
  refine ⟨b, off, hA, hlt, fun k hk => ?_⟩
  obtain ⟨h1, h2⟩ := v_cells l k hk
  have g : ∀ i v, (rowV l)[i]? = some v → w.cell? ⟨b, off + i, none⟩ = some v := fun i v hv => by
    obtain ⟨hi, he⟩ := List.getElem?_eq_some_iff.1 hv
    rw [hc i hi, he]
  exact ⟨g _ _ h1, g _ _ h2⟩

theorem ttA_four_small {s : ByteArray} (h : ttOk 4 s = true) : (ttA 4 s).size < 4294967296 := by
  have e := ttA_size h
  have h2 := takeV_pow (ttOk_parts h).1
  have h3 := takeV_nonneg s 4
  have h4 : (256 : Nat) ^ (4 : Int).toNat = 4294967296 := by decide
  omega
theorem tabIs_size {s : ByteArray} (h : tabIs s = true) : s.size < 4294967400 := by
  simp only [tabIs, Bool.and_eq_true, decide_eq_true_eq] at h
  obtain ⟨-, -, a, g3, g4, -⟩ := nest_good h.1
  rw [ba_empty h.2, ba_append_e] at g3
  have hk : ttOk 4 s = true := by
    rcases Bool.eq_false_or_eq_true (ttOk 4 s) with hk | hk
    · exact hk
    · have := h.1
      rw [nest, nestOf, if_neg (by simp [hk])] at this
      simp only at this
      rw [ttE_four hk] at this
      cases this
  have h1 := ttA_four_small hk
  have h2 := layR_le 4 (ttA 4 s)
  rw [g4] at g3
  have h3 := congrArg ByteArray.size g3
  omega
theorem vB_size {c : UInt8} {v : MV} (h : vE c v = 0) : (vB c v).size ≤ 4294967400 := by
  unfold vE at h
  unfold vB
  by_cases h1 : c = 98
  · rw [if_pos h1]; exact Nat.zero_le _
  rw [if_neg h1] at h ⊢
  by_cases h2 : c = 83
  · rw [if_pos h2] at h ⊢
    have hk : layOk 1 v.s = true := by
      by_cases g : layOk 1 v.s = true
      · exact g
      · rw [if_neg g] at h; cases h
    have e := layR_size hk
    rw [layOk_one] at hk
    have : v.s.size ≤ 255 := by simpa using hk
    omega
  rw [if_neg h2] at h ⊢
  by_cases h3 : c = 76
  · rw [if_pos h3] at h ⊢
    have hk : ¬ 131072 < v.s.size := by
      intro g
      rw [if_pos g] at h; cases h
    have := layR_le 4 v.s
    omega
  rw [if_neg h3] at h ⊢
  by_cases h4 : c = 84
  · rw [if_pos h4] at h ⊢
    have hk : tabIs v.s = true := by
      by_cases g2 : v.n = 0
      · rw [if_pos g2] at h
        by_cases g : tabIs v.s = true
        · exact g
        · rw [if_neg g] at h; cases h
      · rw [if_neg g2] at h; cases h
    have := tabIs_size hk
    omega
  rw [if_neg h4] at h ⊢
  obtain ⟨k1, -⟩ := putOk_of_num h
  have e := putR_size k1
  have := isW_nat (putOk_w k1)
  omega
theorem layBy_size (K : Nat) (hK : 4294967401 ≤ K) : ∀ (ls : List UInt8) (l : List MV) (bs : List Bool), layEr ls l = 0 → (layBy ls l bs).size ≤ ls.length * K + bs.length + 7
  | [], l, bs, _ => by rw [layBy_nil, bitsS_len]; omega
  | c :: ls, [], bs, _ => by
    have e : layBy (c :: ls) [] bs = bitsS bs := rfl
    rw [e, bitsS_len]
    omega
  | c :: ls, v :: l, bs, h => by
    obtain ⟨h1, h2⟩ := layEr_cons h
    have e1 : (c :: ls).length * K = ls.length * K + K := by rw [List.length_cons, Nat.succ_mul]
    have h4 := vB_size h1
    rw [layBy, e1]
    by_cases hc : c = 98
    · rw [if_pos hc]
      have h3 := layBy_size K hK ls l (bs ++ [v.n == 1]) h2
      rw [List.length_append, List.length_singleton] at h3
      omega
    · rw [if_neg hc, ByteArray.size_append, ByteArray.size_append, bitsS_len]
      have h3 := layBy_size K hK ls l [] h2
      rw [List.length_nil] at h3
      omega
end Go.Proofs.YtllgkohgcicbhaaGreatDoor

/-
  What the program's text says of a value's cells. No condition.
-/
namespace Go.Proofs.YtllgkohgcicbhaaGreatDoor
open Go.RowKit

theorem infoVal : (Tryz.prog.info? 58).map (fun i => (i.zero, i.size, i.bytes)) = some (some (.agg #[.int .u64 0, .string ⟨#[]⟩]), 2, 24) := by kernel_rfl
theorem info_partsV {P : Program} {t : TypeId} {z : Option Value} {a b : Nat} (h : (P.info? t).map (fun i => (i.zero, i.size, i.bytes)) = some (z, a, b)) : ∃ i, P.info? t = some i ∧ i.zero = z ∧ i.size = a ∧ i.bytes = b := by
  obtain ⟨i, hi, he⟩ := Option.map_eq_some_iff.1 h
  simp only [Prod.mk.injEq] at he
  exact ⟨i, hi, he.1, he.2.1, he.2.2⟩
theorem rowV_one (l : List MV) : ∀ u ∈ rowV l, u.oneCell' = true := by
  intro u hu
  simp only [rowV, List.mem_flatMap, cellsV, List.mem_cons, List.not_mem_nil, or_false] at hu
  obtain ⟨v, -, rfl | rfl⟩ := hu <;> rfl
end Go.Proofs.YtllgkohgcicbhaaGreatDoor

/-
  One of a row's values. No condition.
-/
namespace Go.Proofs.YtllgkohgcicbhaaGreatDoor
open Go.RowKit

def argV (l : List MV) (i : Int) : MV := if 0 ≤ i then l.getD i.toNat noV else noV
theorem argV_low (l : List MV) {i : Int} (h : i < 0) : argV l i = noV := by rw [argV, if_neg (by omega)]
theorem argV_high (l : List MV) (k : Nat) (h : l.length ≤ k) : argV l (k : Int) = noV := by
  rw [argV, if_pos (by omega), Int.toNat_natCast, List.getD_eq_getElem?_getD, List.getElem?_eq_none h]; rfl
theorem argV_at (l : List MV) (k : Nat) (h : k < l.length) : argV l (k : Int) = l[k] := by
  rw [argV, if_pos (by omega), Int.toNat_natCast, List.getD_eq_getElem?_getD, List.getElem?_eq_getElem h]; rfl
theorem int_cases (i : Int) (n : Nat) : i < 0 ∨ (∃ k : Nat, i = k ∧ k < n) ∨ (∃ k : Nat, i = k ∧ n ≤ k) := by
  by_cases h : i < 0
  · exact .inl h
  · obtain ⟨k, rfl⟩ := Int.eq_ofNat_of_zero_le (show 0 ≤ i by omega)
    by_cases g : k < n
    · exact .inr (.inl ⟨k, rfl, g⟩)
    · exact .inr (.inr ⟨k, rfl, by omega⟩)
end Go.Proofs.YtllgkohgcicbhaaGreatDoor

/-
  Whole methods: which are right, their bytes, the method of bytes; a right method is taken as it was, with anything behind it none is; what is taken is right, and laid as it was. No condition.
-/
namespace Go.Proofs.YtllgkohgcicbhaaGreatDoor

structure Me where
  c : Int
  i : Int
  l : List MV
def mLs (m : Me) : List UInt8 := (sOf m.c m.i).data.toList
def mE (m : Me) : Int := if sIs m.c m.i = true then (if (sOf m.c m.i).size = m.l.length then layEr (mLs m) m.l else 7) else 7
def mB (m : Me) : ByteArray := if mE m = 0 then putR 2 m.c ++ putR 2 m.i ++ layBy (mLs m) m.l [] else ⟨#[]⟩
def wfM (m : Me) : Prop := ∀ v ∈ m.l, wfV v
/-- the method that bytes are -/
def tmOf (c i : Int) (s : ByteArray) : Option Me := if sIs c i = true then (match tk (sOf c i).data.toList s with
  | some (l, r) => if r.size = 0 then some ⟨c, i, l⟩ else none
  | none => none) else none
def tm (s : ByteArray) : Option Me := if takeE (takeR s 2) 2 = 0 then tmOf (takeV s 2) (takeV (takeR s 2) 2) (takeR (takeR s 2) 2) else none

def metOk (m : Met) : Bool := m.v.data.toList.all isLet && decide (m.v.size ≤ 16) && decide (0 ≤ m.c ∧ m.c < 65536) && decide (0 ≤ m.i ∧ m.i < 65536)
theorem mets_ok : mets.all metOk = true := by kernel_rfl
theorem met_facts {c i : Int} (h : sIs c i = true) : (∀ x ∈ (sOf c i).data.toList, isLet x = true) ∧ (sOf c i).size ≤ 16 ∧ (0 ≤ c ∧ c < 65536) ∧ (0 ≤ i ∧ i < 65536) := by
  cases hf : mets.find? (isAt c i) with
  | none =>
    obtain ⟨-, h2⟩ := fst_none hf
    rw [sIs, List.any_eq_true] at h
    obtain ⟨m, hm, hp⟩ := h
    rw [h2 m hm] at hp
    cases hp
  | some m =>
    obtain ⟨h1, h2, h3⟩ := fst_mem hf
    have h4 := List.all_eq_true.1 mets_ok m h2
    simp only [metOk, Bool.and_eq_true, decide_eq_true_eq] at h4
    simp only [isAt, Bool.and_eq_true, beq_iff_eq] at h3
    rw [sOf, h1]
    obtain ⟨rfl, rfl⟩ := h3
    exact ⟨fun x hx => List.all_eq_true.1 h4.1.1.1 x hx, h4.1.1.2, h4.1.2, h4.2⟩
theorem mE_parts {m : Me} (h : mE m = 0) : sIs m.c m.i = true ∧ (sOf m.c m.i).size = m.l.length ∧ layEr (mLs m) m.l = 0 := by
  unfold mE at h
  by_cases h1 : sIs m.c m.i = true
  · rw [if_pos h1] at h
    by_cases h2 : (sOf m.c m.i).size = m.l.length
    · rw [if_pos h2] at h; exact ⟨h1, h2, h⟩
    · rw [if_neg h2] at h; cases h
  · rw [if_neg h1] at h; cases h
theorem mE_mk {m : Me} (h1 : sIs m.c m.i = true) (h2 : (sOf m.c m.i).size = m.l.length) (h3 : layEr (mLs m) m.l = 0) : mE m = 0 := by
  rw [mE, if_pos h1, if_pos h2, h3]
theorem put2_ok {x : Int} (h : 0 ≤ x ∧ x < 65536) : putOk 2 x = true := by
  have e : (256 : Int) ^ (2 : Int).toNat = 65536 := by decide
  simp only [putOk, e]
  simp only [Bool.and_eq_true, decide_eq_true_eq]
  exact ⟨by decide, h.2⟩
/-- a right method's bytes, with more behind them -/
theorem tm_back {m : Me} (hw : ∀ v ∈ m.l, 0 ≤ v.n) (h : mE m = 0) (more : ByteArray) : tm (mB m ++ more) = if more.size = 0 then some m else none := by
  obtain ⟨h1, h2, h3⟩ := mE_parts h
  obtain ⟨f1, f2, f3, f4⟩ := met_facts h1
  have p1 := put2_ok f3
  have p2 := put2_ok f4
  have hl : (mLs m).length = m.l.length := by rw [mLs, ba_len, h2]
  have hb := tk_back (mLs m).length (mLs m) m.l (Nat.le_refl _) (by rw [mLs, ba_len]; omega) hl hw h3 more
  have e : mB m ++ more = putR 2 m.c ++ (putR 2 m.i ++ (layBy (mLs m) m.l [] ++ more)) := by
    rw [mB, if_pos h, ByteArray.append_assoc, ByteArray.append_assoc]
  rw [e, tm, take_put_r p1, take_put_e p2, if_pos rfl, take_put_v p1 f3.1, take_put_v p2 f4.1, take_put_r p2, tmOf, if_pos h1]
  have hb' : tk (sOf m.c m.i).data.toList (layBy (mLs m) m.l [] ++ more) = some (m.l, more) := hb
  rw [hb']
theorem tm_self {m : Me} (hw : ∀ v ∈ m.l, 0 ≤ v.n) (h : mE m = 0) : tm (mB m) = some m := by
  have := tm_back hw h ⟨#[]⟩
  rw [ba_append_e] at this
  exact this
/-- what is taken is right, and laid as it was -/
theorem tm_forth {s : ByteArray} {m : Me} (h : tm s = some m) : mE m = 0 ∧ mB m = s ∧ ∀ v ∈ m.l, 0 ≤ v.n := by
  unfold tm at h
  by_cases g1 : takeE (takeR s 2) 2 = 0
  · rw [if_pos g1] at h
    have k2 := takeOk_of g1
    have k1 : takeOk s 2 = true := by
      cases g : takeOk s 2
      · rw [show takeR s 2 = ⟨#[]⟩ by rw [takeR, if_neg (by simp [g])]] at k2
        cases k2
      · rfl
    have q1 := put_take_s k1
    have q2 := put_take_s k2
    unfold tmOf at h
    by_cases g2 : sIs (takeV s 2) (takeV (takeR s 2) 2) = true
    · rw [if_pos g2] at h
      obtain ⟨f1, f2, f3, f4⟩ := met_facts g2
      cases ht : tk (sOf (takeV s 2) (takeV (takeR s 2) 2)).data.toList (takeR (takeR s 2) 2) with
      | none => rw [ht] at h; cases h
      | some x =>
        obtain ⟨l, r⟩ := x
        rw [ht] at h
        simp only at h
        by_cases g3 : r.size = 0
        · rw [if_pos g3] at h
          cases h
          obtain ⟨t1, t2, t3, t4⟩ := tk_forth _ _ _ _ _ (Nat.le_refl _) (by rw [ba_len]; omega) ht
          rw [ba_len] at t1
          have e := mE_mk (m := ⟨takeV s 2, takeV (takeR s 2) 2, l⟩) g2 t1 t2
          refine ⟨e, ?_, t4⟩
          rw [mB, if_pos e]
          simp only [mLs]
          rw [ba_empty g3, ba_append_e] at t3
          rw [t3, ByteArray.append_assoc, q2, q1]
        · rw [if_neg g3] at h; cases h
    · rw [if_neg g2] at h; cases h
  · rw [if_neg g1] at h; cases h
/-- no beginning of a method's bytes is a method's -/
theorem tm_cut {m : Me} (hw : ∀ v ∈ m.l, 0 ≤ v.n) (h : mE m = 0) {k : Nat} (hk : k < (mB m).size) : tm ((mB m).extract 0 k) = none := by
  cases ht : tm ((mB m).extract 0 k) with
  | none => rfl
  | some m' =>
    obtain ⟨e1, e2, e3⟩ := tm_forth ht
    have hsp : mB m = mB m' ++ (mB m).extract k (mB m).size := by
      rw [e2]
      apply ba_ext
      rw [ba_append, Lib.extract_data, Lib.extract_data]
      simp only [List.drop_zero, Nat.sub_zero]
      rw [List.take_of_length_le (l := List.drop _ _) (by rw [List.length_drop, ba_len]; exact Nat.le_refl _)]
      exact (List.take_append_drop _ _).symm
    have hn : ((mB m).extract k (mB m).size).size ≠ 0 := by rw [ByteArray.size_extract]; omega
    have h1 := tm_back e3 e1 ((mB m).extract k (mB m).size)
    rw [← hsp, tm_self hw h, if_neg hn] at h1
    cases h1
theorem mB_size {m : Me} (h : mE m = 0) : 4 ≤ (mB m).size ∧ (mB m).size ≤ 1099511627776 := by
  obtain ⟨h1, h2, h3⟩ := mE_parts h
  obtain ⟨f1, f2, f3, f4⟩ := met_facts h1
  have p1 := putR_size (put2_ok f3)
  have p2 := putR_size (put2_ok f4)
  have p3 := layBy_size 4294967401 (Nat.le_refl _) (mLs m) m.l [] h3
  have hl : (mLs m).length ≤ 16 := by rw [mLs, ba_len]; exact f2
  have hm : (mLs m).length * 4294967401 ≤ 16 * 4294967401 := Nat.mul_le_mul_right _ hl
  rw [List.length_nil] at p3
  rw [mB, if_pos h, ByteArray.size_append, ByteArray.size_append]
  omega
/-- two right methods with the same bytes are the same -/
theorem mB_inj {a b : Me} (ha : ∀ v ∈ a.l, 0 ≤ v.n) (hb : ∀ v ∈ b.l, 0 ≤ v.n) (h1 : mE a = 0) (h2 : mE b = 0) (h : mB a = mB b) : a = b := by
  have e1 := tm_self ha h1
  have e2 := tm_self hb h2
  rw [h, e2] at e1
  exact (Option.some.inj e1).symm
end Go.Proofs.YtllgkohgcicbhaaGreatDoor

/-
  Values that are right are well-formed; the form of a row of one's own. No condition.
-/
namespace Go.Proofs.YtllgkohgcicbhaaGreatDoor
open Go.RowKit

theorem wfV_right {c : UInt8} {v : MV} (hl : isLet c = true) (h0 : 0 ≤ v.n) (h : vE c v = 0) : wfV v := by
  obtain ⟨n, s⟩ := v
  unfold vE at h
  dsimp only at h h0
  refine ⟨h0, ?_⟩
  dsimp only
  by_cases h1 : c = 98
  · rw [if_pos h1] at h
    by_cases g : 1 < n
    · rw [if_pos g] at h; cases h
    · rw [if_neg g] at h
      by_cases g2 : s.size = 0
      · omega
      · rw [if_neg g2] at h; cases h
  rw [if_neg h1] at h
  by_cases h2 : c = 83
  · rw [if_pos h2] at h
    by_cases g : layOk 1 s = true
    · rw [if_pos g] at h
      rw [layOk_one] at g
      have g' : s.size ≤ 255 := by simpa using g
      by_cases g2 : n = 0
      · omega
      · rw [if_neg g2] at h; cases h
    · rw [if_neg g] at h; cases h
  rw [if_neg h2] at h
  by_cases h3 : c = 76
  · rw [if_pos h3] at h
    by_cases g : 131072 < s.size
    · rw [if_pos g] at h; cases h
    · rw [if_neg g] at h
      by_cases g2 : n = 0
      · omega
      · rw [if_neg g2] at h; cases h
  rw [if_neg h3] at h
  by_cases h4 : c = 84
  · rw [if_pos h4] at h
    by_cases g2 : n = 0
    · rw [if_pos g2] at h
      by_cases g : tabIs s = true
      · have := tabIs_size g
        omega
      · rw [if_neg g] at h; cases h
    · rw [if_neg g2] at h; cases h
  rw [if_neg h4] at h
  obtain ⟨k1, k2⟩ := putOk_of_num h
  dsimp only at k1 k2
  have k3 := putOk_lt k1
  have hp : (256 : Int) ^ (wid4 c).toNat ≤ 18446744073709551616 := by
    rcases let_cases hl with rfl | rfl | rfl | rfl | rfl | rfl | rfl | rfl <;> decide
  omega
theorem wf_list : ∀ (ls : List UInt8) (l : List MV), ls.length = l.length → (∀ c ∈ ls, isLet c = true) → (∀ v ∈ l, 0 ≤ v.n) → layEr ls l = 0 → ∀ v ∈ l, wfV v
  | [], [], _, _, _, _ => fun v hv => by cases hv
  | c :: ls, v :: l, hl, hc, h0, h => by
    obtain ⟨h1, h2⟩ := layEr_cons h
    intro u hu
    rcases List.mem_cons.1 hu with rfl | hu
    · exact wfV_right (hc c (List.mem_cons_self ..)) (h0 _ (List.mem_cons_self ..)) h1
    · exact wf_list ls l (by simpa using hl) (fun x hx => hc x (List.mem_cons_of_mem _ hx)) (fun x hx => h0 x (List.mem_cons_of_mem _ hx)) h2 u hu
theorem row_form {w : World} {base : Nat} {e : TypeId} {size : Nat} {v : Value} {l : List Value} {n : Nat} (h : w.ownsRow base e size v n l) : ∃ A c, v = .slice A n c ∧ ValsAt w A l ∧ (A = none → n = 0 ∧ c = 0) := by
  obtain ⟨hlen, ⟨rfl, h0⟩ | ⟨g, cap, cur, rfl, hg, hb, hn, hc, hs, ht⟩⟩ := h
  · exact ⟨none, 0, by rw [h0], fun h => by rw [hlen, h0] at h; omega, fun _ => ⟨h0, rfl⟩⟩
  · refine ⟨_, cap, rfl, fun _ => ⟨g, 0, rfl, (Array.getElem?_eq_some_iff.1 hb).1, fun i hi => ?_⟩, fun e => by cases e⟩
    have e1 : w.cell? ⟨g, 0 + i, none⟩ = cur[i]? := by simp [World.cell?, hb]
    rw [e1]
    have h2 : (List.take (n * size) cur.toList)[i]? = some l[i] := by rw [ht]; exact List.getElem?_eq_getElem hi
    rw [List.getElem?_take] at h2
    split at h2
    · rw [← h2, Array.getElem?_toList]
    · cases h2
end Go.Proofs.YtllgkohgcicbhaaGreatDoor

/-
  Heads as bytes, and out of bytes, as plain mathematics. No condition.
-/
namespace Go.Proofs.YtllgkohgcicbhaaGreatDoor

/-- a head -/
structure He where
  c : Int
  z : Int
  f : Int
  l : List MV
def wfH (h : He) : Prop := (0 ≤ h.z ∧ h.z < 18446744073709551616) ∧ (0 ≤ h.f ∧ h.f < 18446744073709551616) ∧ ∀ v ∈ h.l, wfV v
/-- the properties' letters -/
def pT : List UInt8 := [83, 83, 84, 111, 111, 83, 83, 83, 83, 113, 83, 83, 83, 83]
def pLet (i : Fin 14) : UInt8 := pT[i.1]'i.2
/-- do flags tell the i-th property? -/
def bitP (f : Int) (i : Fin 14) : Bool := f.toNat / 2 ^ (15 - i.1) % 2 == 1
def whK (f : Int) (k : Nat) : List (Fin 14) := ((List.finRange 14).take k).filter (bitP f)
def wh (f : Int) : List (Fin 14) := (List.finRange 14).filter (bitP f)
def hLs (f : Int) : List UInt8 := (wh f).map pLet

theorem whK_all (f : Int) : whK f 14 = wh f := rfl
theorem whK_pre (f : Int) (k : Nat) : whK f k <+: wh f := (List.take_prefix k _).filter _
theorem whK_succ (f : Int) (k : Nat) (hk : k < 14) : whK f (k + 1) = if bitP f ⟨k, hk⟩ = true then whK f k ++ [⟨k, hk⟩] else whK f k := by
  have e : (List.finRange 14).take (k + 1) = (List.finRange 14).take k ++ [⟨k, hk⟩] := by
    rw [List.take_add_one, List.getElem?_eq_getElem (by simpa using hk)]
    simp
  rw [whK, e, List.filter_append]
  by_cases h : bitP f ⟨k, hk⟩ = true
  · simp [whK, h]
  · simp [whK, h]
theorem whK_zero (f : Int) : whK f 0 = [] := rfl
theorem whK_le (f : Int) (k : Nat) : (whK f k).length ≤ (wh f).length := (whK_pre f k).length_le
theorem wh_le (f : Int) : (wh f).length ≤ 14 := by
  have := List.length_filter_le (bitP f) (List.finRange 14)
  rw [List.length_finRange] at this
  exact this
theorem pLet_cases : ∀ i : Fin 14, pLet i = 83 ∨ pLet i = 84 ∨ pLet i = 111 ∨ pLet i = 113 := by decide
theorem pLet_not (i : Fin 14) : ¬ pLet i = 98 := by rcases pLet_cases i with h | h | h | h <;> rw [h] <;> decide
theorem hLs_not {f : Int} {c : UInt8} (h : c ∈ hLs f) : ¬ c = 98 := by
  obtain ⟨i, -, rfl⟩ := List.mem_map.1 h
  exact pLet_not i
theorem hLs_length (f : Int) : (hLs f).length = (wh f).length := by rw [hLs, List.length_map]

/-- why it isn't right, whatever its values are -/
def shOk (h : He) : Prop := h.c = 60 ∧ h.f < 65536 ∧ h.f % 4 = 0 ∧ (wh h.f).length = h.l.length
instance (h : He) : Decidable (shOk h) := by unfold shOk; infer_instance
def shE (h : He) : Int := if shOk h then (if 65536 < h.z then 4 else 0) else 7
def hE (h : He) : Int := if shE h = 0 then layEr (hLs h.f) h.l else shE h
def begB (h : He) : ByteArray := putR 2 h.c ++ putR 2 0 ++ putR 8 h.z ++ putR 2 h.f
/-- values by their letters, one behind the other: the first error; their bytes -/
def erP : List (UInt8 × MV) → Int
  | [] => 0
  | x :: l => if vE x.1 x.2 = 0 then erP l else vE x.1 x.2
def catP : List (UInt8 × MV) → ByteArray
  | [] => ⟨#[]⟩
  | x :: l => vB x.1 x.2 ++ catP l
def hB (h : He) : ByteArray := if hE h = 0 then begB h ++ catP ((hLs h.f).zip h.l) else ⟨#[]⟩
theorem erP_zip : ∀ (ls : List UInt8) (l : List MV), erP (ls.zip l) = layEr ls l
  | [], l => by cases l <;> rfl
  | c :: ls, [] => rfl
  | c :: ls, v :: l => by rw [List.zip_cons_cons, erP, layEr, erP_zip ls l]
theorem catP_zip : ∀ (ls : List UInt8) (l : List MV), (∀ c ∈ ls, ¬ c = 98) → catP (ls.zip l) = layBy ls l []
  | [], l, _ => by cases l <;> rfl
  | c :: ls, [], _ => rfl
  | c :: ls, v :: l, h => by
    rw [List.zip_cons_cons, catP, layBy, if_neg (h c (by simp)), bitsS_nil, ba_e_append, catP_zip ls l (fun c hc => h c (by simp [hc]))]
theorem catP_snoc (x : UInt8 × MV) : ∀ l : List (UInt8 × MV), catP (l ++ [x]) = catP l ++ vB x.1 x.2
  | [] => by simp only [List.nil_append, catP]; rw [ba_append_e, ba_e_append]
  | y :: l => by rw [List.cons_append, catP, catP, catP_snoc x l, ByteArray.append_assoc]
theorem erP_snoc (x : UInt8 × MV) : ∀ l : List (UInt8 × MV), erP (l ++ [x]) = if erP l = 0 then vE x.1 x.2 else erP l
  | [] => by
    simp only [List.nil_append, erP]
    by_cases h : vE x.1 x.2 = 0
    · simp [h]
    · simp [h]
  | y :: l => by
    rw [List.cons_append, erP, erP, erP_snoc x l]
    by_cases h : vE y.1 y.2 = 0
    · simp [h]
    · simp [h]
theorem erP_pre {l m : List (UInt8 × MV)} (h : l <+: m) (h0 : ¬ erP l = 0) : erP m = erP l := by
  obtain ⟨t, rfl⟩ := h
  induction l with
  | nil => exact absurd rfl h0
  | cons x l ih =>
    rw [List.cons_append, erP, erP]
    by_cases hx : vE x.1 x.2 = 0
    · rw [if_pos hx, if_pos hx]
      rw [erP, if_pos hx] at h0
      exact ih h0
    · rw [if_neg hx, if_neg hx]
theorem catP_size : ∀ (l : List (UInt8 × MV)), erP l = 0 → (catP l).size ≤ l.length * 4294967400
  | [], _ => by decide
  | x :: l, h => by
    rw [erP] at h
    by_cases hx : vE x.1 x.2 = 0
    · rw [if_pos hx] at h
      have h1 := vB_size hx
      have h2 := catP_size l h
      rw [catP, ByteArray.size_append, List.length_cons, Nat.succ_mul]
      omega
    · rw [if_neg hx] at h
      exact absurd h hx
theorem erP_pre_zero {l m : List (UInt8 × MV)} (h : l <+: m) (h0 : erP m = 0) : erP l = 0 := by
  by_cases hl : erP l = 0
  · exact hl
  · rw [erP_pre h hl] at h0
    exact absurd h0 hl
end Go.Proofs.YtllgkohgcicbhaaGreatDoor

/-
  Values and rows of values that are the same. No condition.
-/
namespace Go.Proofs.YtllgkohgcicbhaaGreatDoor
open Go.RowKit

def sameV (x y : MV) : Bool := x.n == y.n && x.s.toList == y.s.toList
def sameL : List MV → List MV → Bool
  | x :: l, y :: m => sameV x y && sameL l m
  | [], [] => true
  | _, _ => false
theorem sameV_iff (x y : MV) : sameV x y = true ↔ x = y := by
  obtain ⟨n, s⟩ := x
  obtain ⟨n', s'⟩ := y
  simp only [sameV, Bool.and_eq_true, beq_iff_eq, MV.mk.injEq]
  constructor
  · rintro ⟨h1, h2⟩
    exact ⟨h1, ba_ext (by rw [ByteArray.toList_eq, ByteArray.toList_eq] at h2; exact h2)⟩
  · rintro ⟨rfl, rfl⟩; exact ⟨rfl, rfl⟩
theorem sameL_iff : ∀ l m : List MV, sameL l m = true ↔ l = m
  | [], [] => by simp [sameL]
  | [], _ :: _ => by simp [sameL]
  | _ :: _, [] => by simp [sameL]
  | x :: l, y :: m => by
    rw [sameL, Bool.and_eq_true, sameV_iff, sameL_iff l m]
    simp
theorem sameL_len {l m : List MV} (h : l.length ≠ m.length) : sameL l m = false := by
  cases hs : sameL l m
  · rfl
  · rw [sameL_iff] at hs; rw [hs] at h; exact absurd rfl h
theorem sameL_drop {l m : List MV} (k : Nat) (hl : k < l.length) (hm : k < m.length) : sameL (l.drop k) (m.drop k) = (sameV l[k] m[k] && sameL (l.drop (k + 1)) (m.drop (k + 1))) := by
  rw [List.drop_eq_getElem_cons hl, List.drop_eq_getElem_cons hm, sameL]
theorem eqV (a b : MV) (w : World) : (Op.equalIn 10000 58 (.agg #[.int .u64 a.n, .string a.s]) (.agg #[.int .u64 b.n, .string b.s])).run Tryz.prog w = .ok (sameV a b) w := by
  have u9 := Tryz.underlying9
  have a9 := Tryz.isAgg9
  have z9 := Tryz.sizeOf9
  have u25 := Tryz.underlying25
  have a25 := Tryz.isAgg25
  have z25 := Tryz.sizeOf25
  have u27 := Tryz.underlying58
  rw [show (10000 : Nat) = 9999 + 1 from rfl, run_equalIn_struct w 9999 58 _ _ (by kernel_rfl) (by kernel_rfl)]
  unfold sameV
  go_simp
  by_cases h1 : a.n = b.n <;> by_cases h2 : a.s.toList = b.s.toList <;> simp [h1, h2]

end Go.Proofs.YtllgkohgcicbhaaGreatDoor

/-
  Methods that are the same. No condition.
-/
namespace Go.Proofs.YtllgkohgcicbhaaGreatDoor
open Go.RowKit

def sameM (a b : Me) : Bool := a.c == b.c && a.i == b.i && sameL a.l b.l
theorem sameM_iff (a b : Me) : sameM a b = true ↔ a = b := by
  obtain ⟨c, i, l⟩ := a
  obtain ⟨c', i', l'⟩ := b
  simp only [sameM, Bool.and_eq_true, beq_iff_eq, sameL_iff, Me.mk.injEq, and_assoc]
end Go.Proofs.YtllgkohgcicbhaaGreatDoor

/-
  Heads that are the same. No condition.
-/
namespace Go.Proofs.YtllgkohgcicbhaaGreatDoor
open Go.RowKit

def sameH (a b : He) : Bool := a.c == b.c && a.z == b.z && a.f == b.f && sameL a.l b.l
theorem sameH_iff (a b : He) : sameH a b = true ↔ a = b := by
  obtain ⟨c, z, f, l⟩ := a
  obtain ⟨c', z', f', l'⟩ := b
  simp only [sameH, Bool.and_eq_true, beq_iff_eq, sameL_iff, He.mk.injEq, and_assoc]
end Go.Proofs.YtllgkohgcicbhaaGreatDoor
