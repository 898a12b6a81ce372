/-
  Values out of bytes by their letters, one behind the other; heads out of bytes: plain mathematics. No condition.
-/
import Derived.Test.YtjpldfkhacchdaaDoorWPShape
import Derived.Test.YtjpldfkhacchdaaDoorMWf
namespace Go.Proofs.YtjpldfkhacchdaaDoor

def tkE : List UInt8 → ByteArray → Int
  | [], _ => 0
  | c :: ls, s => if oE c s = 0 then tkE ls (oR c s) else oE c s
def tkR : List UInt8 → ByteArray → ByteArray
  | [], s => s
  | c :: ls, s => tkR ls (oR c s)
def tkVs : List UInt8 → ByteArray → List MV
  | [], _ => []
  | c :: ls, s => oV c s :: tkVs ls (oR c s)
theorem tkVs_length : ∀ (ls : List UInt8) (s : ByteArray), (tkVs ls s).length = ls.length
  | [], _ => rfl
  | c :: ls, s => by rw [tkVs, List.length_cons, List.length_cons, tkVs_length]
theorem tkR_snoc (c : UInt8) : ∀ (ls : List UInt8) (s : ByteArray), tkR (ls ++ [c]) s = oR c (tkR ls s)
  | [], _ => rfl
  | d :: ls, s => by rw [List.cons_append, tkR, tkR, tkR_snoc c ls]
theorem tkVs_snoc (c : UInt8) : ∀ (ls : List UInt8) (s : ByteArray), tkVs (ls ++ [c]) s = tkVs ls s ++ [oV c (tkR ls s)]
  | [], _ => rfl
  | d :: ls, s => by rw [List.cons_append, tkVs, tkVs, tkR, tkVs_snoc c ls]; rfl
theorem tkE_snoc (c : UInt8) : ∀ (ls : List UInt8) (s : ByteArray), tkE (ls ++ [c]) s = if tkE ls s = 0 then oE c (tkR ls s) else tkE ls s
  | [], s => by
    simp only [List.nil_append, tkE, tkR]
    by_cases h : oE c s = 0
    · simp [h]
    · simp [h]
  | d :: ls, s => by
    rw [List.cons_append, tkE, tkE, tkR, tkE_snoc c ls]
    by_cases h : oE d s = 0
    · simp [h]
    · simp [h]
theorem tkE_pre {l m : List UInt8} (h : l <+: m) {s : ByteArray} (h0 : ¬ tkE l s = 0) : tkE m s = tkE l s := by
  obtain ⟨t, rfl⟩ := h
  induction l generalizing s with
  | nil => exact absurd rfl h0
  | cons c l ih =>
    rw [List.cons_append, tkE, tkE]
    by_cases hx : oE c s = 0
    · rw [if_pos hx, if_pos hx]
      rw [tkE, if_pos hx] at h0
      exact ih h0
    · rw [if_neg hx, if_neg hx]
theorem tk_lay : ∀ (ls : List UInt8) (l : List MV) (r : ByteArray), (∀ c ∈ ls, ¬ c = 98) → ls.length = l.length → (∀ v ∈ l, 0 ≤ v.n) → layEr ls l = 0 → tkE ls (catP (ls.zip l) ++ r) = 0 ∧ tkVs ls (catP (ls.zip l) ++ r) = l ∧ tkR ls (catP (ls.zip l) ++ r) = r
  | [], [], r, _, _, _, _ => by
    refine ⟨rfl, rfl, ?_⟩
    exact ba_e_append r
  | c :: ls, [], r, _, h, _, _ => by cases h
  | [], v :: l, r, _, h, _, _ => by cases h
  | c :: ls, v :: l, r, hc, hl, hn, he => by
    obtain ⟨e1, e2⟩ := layEr_cons he
    have e : catP ((c :: ls).zip (v :: l)) ++ r = vB c v ++ (catP (ls.zip l) ++ r) := by rw [List.zip_cons_cons, catP, ByteArray.append_assoc]
    obtain ⟨b1, b2, b3⟩ := one_back (hc c (by simp)) (hn v (by simp)) e1 (catP (ls.zip l) ++ r)
    obtain ⟨i1, i2, i3⟩ := tk_lay ls l r (fun x hx => hc x (by simp [hx])) (by simpa using hl) (fun x hx => hn x (by simp [hx])) e2
    rw [e, tkE, tkVs, tkR, b1, b2, b3, if_pos rfl, i2]
    exact ⟨i1, rfl, i3⟩
theorem lay_tk : ∀ (ls : List UInt8) (s : ByteArray), (∀ c ∈ ls, ¬ c = 98) → tkE ls s = 0 → layEr ls (tkVs ls s) = 0 ∧ catP (ls.zip (tkVs ls s)) ++ tkR ls s = s ∧ ∀ v ∈ tkVs ls s, 0 ≤ v.n
  | [], s, _, _ => by
    refine ⟨rfl, ?_, fun v hv => by cases hv⟩
    exact ba_e_append s
  | c :: ls, s, hc, he => by
    rw [tkE] at he
    by_cases h0 : oE c s = 0
    · rw [if_pos h0] at he
      obtain ⟨f1, f2, f3⟩ := one_forth (hc c (by simp)) h0
      obtain ⟨i1, i2, i3⟩ := lay_tk ls (oR c s) (fun x hx => hc x (by simp [hx])) he
      rw [tkVs, tkR, List.zip_cons_cons, catP]
      refine ⟨layEr_mk f1 i1, ?_, ?_⟩
      · rw [ByteArray.append_assoc, i2]; exact f2
      · intro v hv
        rcases List.mem_cons.1 hv with rfl | hv
        · exact f3
        · exact i3 v hv
    · rw [if_neg h0] at he
      exact absurd he h0
def tpR1 (s : ByteArray) : ByteArray := takeR s 2
def tpR2 (s : ByteArray) : ByteArray := takeR (tpR1 s) 2
def tpR3 (s : ByteArray) : ByteArray := takeR (tpR2 s) 8
def tpR4 (s : ByteArray) : ByteArray := takeR (tpR3 s) 2
def tpF (s : ByteArray) : Int := takeV (tpR3 s) 2
/-- the head that bytes begin with, if they do -/
def tpH (s : ByteArray) : He := ⟨takeV s 2, takeV (tpR2 s) 8, tpF s, tkVs (hLs (tpF s)) (tpR4 s)⟩
def tpErr (s : ByteArray) : Int := if takeE (tpR3 s) 2 = 0 then (if tkE (hLs (tpF s)) (tpR4 s) = 0 ∧ takeV (tpR1 s) 2 = 0 ∧ (tkR (hLs (tpF s)) (tpR4 s)).size = 0 then shE (tpH s) else 7) else 7
theorem hE_parts {h : He} (he : hE h = 0) : shE h = 0 ∧ shOk h ∧ h.z ≤ 65536 ∧ layEr (hLs h.f) h.l = 0 := by
  have h1 : shE h = 0 := by
    by_cases hs : shE h = 0
    · exact hs
    · rw [hE, if_neg hs] at he; exact absurd he hs
  have h2 : shOk h := by
    by_cases hk : shOk h
    · exact hk
    · rw [shE, if_neg hk] at h1; cases h1
  refine ⟨h1, h2, ?_, ?_⟩
  · rw [shE, if_pos h2] at h1
    by_cases hz : 65536 < h.z
    · rw [if_pos hz] at h1; cases h1
    · omega
  · rw [hE, if_pos h1] at he; exact he
theorem pLet_is (i : Fin 14) : isLet (pLet i) = true := by
  rcases pLet_cases i with h | h | h | h <;> rw [h] <;> decide
theorem hLs_is {f : Int} {c : UInt8} (h : c ∈ hLs f) : isLet c = true := by
  obtain ⟨i, -, rfl⟩ := List.mem_map.1 h
  exact pLet_is i
theorem tp_back {h : He} (hh : wfH h) (he : hE h = 0) : tpErr (hB h) = 0 ∧ tpH (hB h) = h := by
  obtain ⟨h1, h2, h3, h4⟩ := hE_parts he
  obtain ⟨k1, k2, k3, k4⟩ := h2
  have p1 : putOk 2 h.c = true := by rw [k1]; decide
  have p2 : putOk 2 0 = true := by decide
  have p3 := put8_ok hh.1
  have p4 := put2_okP ⟨hh.2.1.1, k2⟩
  have e : hB h = putR 2 h.c ++ (putR 2 0 ++ (putR 8 h.z ++ (putR 2 h.f ++ (catP ((hLs h.f).zip h.l) ++ ⟨#[]⟩)))) := by
    rw [hB, if_pos he, begB, ba_append_e]
    simp only [ByteArray.append_assoc]
  obtain ⟨t1, t2, t3⟩ := tk_lay (hLs h.f) h.l ⟨#[]⟩ (fun c hc => hLs_not hc) (by rw [hLs_length, k4]) (fun v hv => (hh.2.2 v hv).1) h4
  have e1 : tpR1 (hB h) = putR 2 0 ++ (putR 8 h.z ++ (putR 2 h.f ++ (catP ((hLs h.f).zip h.l) ++ ⟨#[]⟩))) := by rw [tpR1, e, take_put_r p1]
  have e2 : tpR2 (hB h) = putR 8 h.z ++ (putR 2 h.f ++ (catP ((hLs h.f).zip h.l) ++ ⟨#[]⟩)) := by rw [tpR2, e1, take_put_r p2]
  have e3 : tpR3 (hB h) = putR 2 h.f ++ (catP ((hLs h.f).zip h.l) ++ ⟨#[]⟩) := by rw [tpR3, e2, take_put_r p3]
  have e4 : tpR4 (hB h) = catP ((hLs h.f).zip h.l) ++ ⟨#[]⟩ := by rw [tpR4, e3, take_put_r p4]
  have ef : tpF (hB h) = h.f := by rw [tpF, e3, take_put_v p4 hh.2.1.1]
  have eh : tpH (hB h) = h := by
    rw [tpH, ef, e4, t2, e2, take_put_v p3 hh.1.1, e, take_put_v p1 (by omega)]
  refine ⟨?_, eh⟩
  have hz : (⟨#[]⟩ : ByteArray).size = 0 := rfl
  rw [tpErr, eh, ef, e4, t1, t3, e3, take_put_e p4, e1, take_put_v p2 (Int.le_refl 0), hz]
  simp only [and_self, if_true]
  exact h1
theorem take_ahead {s : ByteArray} {n m : Int} (h : takeOk (takeR s n) m = true) : takeOk s n = true := by
  cases g : takeOk s n
  · rw [show takeR s n = ⟨#[]⟩ by rw [takeR, if_neg (by simp [g])]] at h
    have h2 := takeR_size h
    have h3 := (takeOk_w h).1
    have h4 : 0 < m := by
      simp only [isW, Bool.or_eq_true, beq_iff_eq] at h3
      omega
    have h5 : ((⟨#[]⟩ : ByteArray).size : Int) = 0 := rfl
    omega
  · rfl
theorem tp_parts {s : ByteArray} (h : tpErr s = 0) : takeE (tpR3 s) 2 = 0 ∧ tkE (hLs (tpF s)) (tpR4 s) = 0 ∧ takeV (tpR1 s) 2 = 0 ∧ (tkR (hLs (tpF s)) (tpR4 s)).size = 0 ∧ shE (tpH s) = 0 := by
  rw [tpErr] at h
  by_cases h1 : takeE (tpR3 s) 2 = 0
  · rw [if_pos h1] at h
    by_cases h2 : tkE (hLs (tpF s)) (tpR4 s) = 0 ∧ takeV (tpR1 s) 2 = 0 ∧ (tkR (hLs (tpF s)) (tpR4 s)).size = 0
    · rw [if_pos h2] at h
      exact ⟨h1, h2.1, h2.2.1, h2.2.2, h⟩
    · rw [if_neg h2] at h; cases h
  · rw [if_neg h1] at h; cases h
theorem tk_wf {f : Int} {s : ByteArray} (h : tkE (hLs f) s = 0) : ∀ v ∈ tkVs (hLs f) s, wfV v := by
  obtain ⟨l1, -, l3⟩ := lay_tk (hLs f) s (fun c hc => hLs_not hc) h
  exact wf_list (hLs f) _ (tkVs_length _ _).symm (fun c hc => hLs_is hc) l3 l1
theorem tp_wf {s : ByteArray} (hk : tkE (hLs (tpF s)) (tpR4 s) = 0) : wfH (tpH s) := by
  have a1 := takeV_nonneg (tpR2 s) 8
  have a2 := takeV_lt (tpR2 s) 8
  have b1 : 0 ≤ tpF s := takeV_nonneg (tpR3 s) 2
  have b2 : tpF s < 18446744073709551616 := takeV_lt (tpR3 s) 2
  unfold wfH tpH
  dsimp only
  exact ⟨⟨a1, a2⟩, ⟨b1, b2⟩, tk_wf hk⟩
theorem tp_e1 (s : ByteArray) : tpR1 s = takeR s 2 := rfl
theorem tp_e2 (s : ByteArray) : tpR2 s = takeR (tpR1 s) 2 := rfl
theorem tp_e3 (s : ByteArray) : tpR3 s = takeR (tpR2 s) 8 := rfl
theorem tp_e4 (s : ByteArray) : tpR4 s = takeR (tpR3 s) 2 := rfl
theorem tp_hc (s : ByteArray) : (tpH s).c = takeV s 2 := by rw [tpH]
theorem tp_hz (s : ByteArray) : (tpH s).z = takeV (tpR2 s) 8 := by rw [tpH]
theorem tp_hf (s : ByteArray) : (tpH s).f = takeV (tpR3 s) 2 := by rw [tpH, tpF]
theorem tp_hl (s : ByteArray) : (tpH s).l = tkVs (hLs (tpF s)) (tpR4 s) := by rw [tpH]
theorem tp_forth_e {s : ByteArray} (h : tpErr s = 0) : hE (tpH s) = 0 := by
  obtain ⟨-, h2, -, -, h5⟩ := tp_parts h
  obtain ⟨l1, -, -⟩ := lay_tk (hLs (tpF s)) (tpR4 s) (fun c hc => hLs_not hc) h2
  rw [hE, if_pos h5, tp_hf, tp_hl]
  rw [tpF] at l1
  rw [tpF]
  exact l1
theorem tp_forth_b {s : ByteArray} (h : tpErr s = 0) : hB (tpH s) = s := by
  have he := tp_forth_e h
  obtain ⟨h1, h2, h3, h4, -⟩ := tp_parts h
  have k4 := takeOk_of h1
  have k3 : takeOk (tpR2 s) 8 = true := by rw [tp_e3] at k4; exact take_ahead k4
  have k2 : takeOk (tpR1 s) 2 = true := by rw [tp_e2] at k3; exact take_ahead k3
  have k1 : takeOk s 2 = true := by rw [tp_e1] at k2; exact take_ahead k2
  have q1 := put_take_s k1
  have q2 := put_take_s k2
  have q3 := put_take_s k3
  have q4 := put_take_s k4
  rw [← tp_e4] at q4
  rw [← tp_e3] at q3
  rw [← tp_e2, h3] at q2
  rw [← tp_e1] at q1
  obtain ⟨-, l2, -⟩ := lay_tk (hLs (tpF s)) (tpR4 s) (fun c hc => hLs_not hc) h2
  rw [ba_empty h4, ba_append_e, tpF] at l2
  rw [hB, if_pos he, begB, tp_hc, tp_hz, tp_hf, tp_hl, tpF, l2]
  simp only [ByteArray.append_assoc]
  rw [q4, q3, q2, q1]
theorem tp_forth {s : ByteArray} (h : tpErr s = 0) : hE (tpH s) = 0 ∧ hB (tpH s) = s ∧ wfH (tpH s) :=
  ⟨tp_forth_e h, tp_forth_b h, tp_wf (tp_parts h).2.1⟩
end Go.Proofs.YtjpldfkhacchdaaDoor
