/-
  Several texts joined in one file: each says at its own head, below, what it proves, and its conditions.
-/
import Derived.Test.YtllgkohgcicbhaaGreatDoorZF
import Derived.Test.YtllgkohgcicbhaaGreatDoorZE
import Derived.Test.YtllgkohgcicbhaaGreatDoorZB
/-
  Values out of bytes by their letters, one behind the other; heads out of bytes: plain mathematics. No condition.
-/
namespace Go.Proofs.YtllgkohgcicbhaaGreatDoor

def tkE : List UInt8 → ByteArray → Int
  | [], _ => 0
  | c :: ls, s => if oE c s = 0 then tkE ls (oR c s) else oE c s
def tkR : List UInt8 → ByteArray → ByteArray
  | [], s => s
  | c :: ls, s => tkR ls (oR c s)
def tkVs : List UInt8 → ByteArray → List MV
  | [], _ => []
  | c :: ls, s => oV c s :: tkVs ls (oR c s)
theorem tkVs_length : ∀ (ls : List UInt8) (s : ByteArray), (tkVs ls s).length = ls.length
  | [], _ => rfl
  | c :: ls, s => by rw [tkVs, List.length_cons, List.length_cons, tkVs_length]
theorem tkR_snoc (c : UInt8) : ∀ (ls : List UInt8) (s : ByteArray), tkR (ls ++ [c]) s = oR c (tkR ls s)
  | [], _ => rfl
  | d :: ls, s => by rw [List.cons_append, tkR, tkR, tkR_snoc c ls]
theorem tkVs_snoc (c : UInt8) : ∀ (ls : List UInt8) (s : ByteArray), tkVs (ls ++ [c]) s = tkVs ls s ++ [oV c (tkR ls s)]
  | [], _ => rfl
  | d :: ls, s => by rw [List.cons_append, tkVs, tkVs, tkR, tkVs_snoc c ls]; rfl
theorem tkE_snoc (c : UInt8) : ∀ (ls : List UInt8) (s : ByteArray), tkE (ls ++ [c]) s = if tkE ls s = 0 then oE c (tkR ls s) else tkE ls s
  | [], s => by
    simp only [List.nil_append, tkE, tkR]
    by_cases h : oE c s = 0
    · simp [h]
    · simp [h]
  | d :: ls, s => by
    rw [List.cons_append, tkE, tkE, tkR, tkE_snoc c ls]
    by_cases h : oE d s = 0
    · simp [h]
    · simp [h]
theorem tkE_pre {l m : List UInt8} (h : l <+: m) {s : ByteArray} (h0 : ¬ tkE l s = 0) : tkE m s = tkE l s := by
  obtain ⟨t, rfl⟩ := h
  induction l generalizing s with
  | nil => exact absurd rfl h0
  | cons c l ih =>
    rw [List.cons_append, tkE, tkE]
    by_cases hx : oE c s = 0
    · rw [if_pos hx, if_pos hx]
      rw [tkE, if_pos hx] at h0
      exact ih h0
    · rw [if_neg hx, if_neg hx]
theorem tk_lay : ∀ (ls : List UInt8) (l : List MV) (r : ByteArray), (∀ c ∈ ls, ¬ c = 98) → ls.length = l.length → (∀ v ∈ l, 0 ≤ v.n) → layEr ls l = 0 → tkE ls (catP (ls.zip l) ++ r) = 0 ∧ tkVs ls (catP (ls.zip l) ++ r) = l ∧ tkR ls (catP (ls.zip l) ++ r) = r
  | [], [], r, _, _, _, _ => by
    refine ⟨rfl, rfl, ?_⟩
    exact ba_e_append r
  | c :: ls, [], r, _, h, _, _ => by cases h
  | [], v :: l, r, _, h, _, _ => by cases h
  | c :: ls, v :: l, r, hc, hl, hn, he => by
    obtain ⟨e1, e2⟩ := layEr_cons he
    have e : catP ((c :: ls).zip (v :: l)) ++ r = vB c v ++ (catP (ls.zip l) ++ r) := by rw [List.zip_cons_cons, catP, ByteArray.append_assoc]
    obtain ⟨b1, b2, b3⟩ := one_back (hc c (by simp)) (hn v (by simp)) e1 (catP (ls.zip l) ++ r)
    obtain ⟨i1, i2, i3⟩ := tk_lay ls l r (fun x hx => hc x (by simp [hx])) (by simpa using hl) (fun x hx => hn x (by simp [hx])) e2
    rw [e, tkE, tkVs, tkR, b1, b2, b3, if_pos rfl, i2]
    exact ⟨i1, rfl, i3⟩
theorem lay_tk : ∀ (ls : List UInt8) (s : ByteArray), (∀ c ∈ ls, ¬ c = 98) → tkE ls s = 0 → layEr ls (tkVs ls s) = 0 ∧ catP (ls.zip (tkVs ls s)) ++ tkR ls s = s ∧ ∀ v ∈ tkVs ls s, 0 ≤ v.n
  | [], s, _, _ => by
    refine ⟨rfl, ?_, fun v hv => by cases hv⟩
    exact ba_e_append s
  | c :: ls, s, hc, he => by
    rw [tkE] at he
    by_cases h0 : oE c s = 0
    · rw [if_pos h0] at he
      obtain ⟨f1, f2, f3⟩ := one_forth (hc c (by simp)) h0
      obtain ⟨i1, i2, i3⟩ := lay_tk ls (oR c s) (fun x hx => hc x (by simp [hx])) he
      rw [tkVs, tkR, List.zip_cons_cons, catP]
      refine ⟨layEr_mk f1 i1, ?_, ?_⟩
      · rw [ByteArray.append_assoc, i2]; exact f2
      · intro v hv
        rcases List.mem_cons.1 hv with rfl | hv
        · exact f3
        · exact i3 v hv
    · rw [if_neg h0] at he
      exact absurd he h0
def tpR1 (s : ByteArray) : ByteArray := takeR s 2
def tpR2 (s : ByteArray) : ByteArray := takeR (tpR1 s) 2
def tpR3 (s : ByteArray) : ByteArray := takeR (tpR2 s) 8
def tpR4 (s : ByteArray) : ByteArray := takeR (tpR3 s) 2
def tpF (s : ByteArray) : Int := takeV (tpR3 s) 2
/-- the head that bytes begin with, if they do -/
def tpH (s : ByteArray) : He := ⟨takeV s 2, takeV (tpR2 s) 8, tpF s, tkVs (hLs (tpF s)) (tpR4 s)⟩
def tpErr (s : ByteArray) : Int := if takeE (tpR3 s) 2 = 0 then (if tkE (hLs (tpF s)) (tpR4 s) = 0 ∧ takeV (tpR1 s) 2 = 0 ∧ (tkR (hLs (tpF s)) (tpR4 s)).size = 0 then shE (tpH s) else 7) else 7
theorem hE_parts {h : He} (he : hE h = 0) : shE h = 0 ∧ shOk h ∧ h.z ≤ 65536 ∧ layEr (hLs h.f) h.l = 0 := by
  have h1 : shE h = 0 := by
    by_cases hs : shE h = 0
    · exact hs
    · rw [hE, if_neg hs] at he; exact absurd he hs
  have h2 : shOk h := by
    by_cases hk : shOk h
    · exact hk
    · rw [shE, if_neg hk] at h1; cases h1
  refine ⟨h1, h2, ?_, ?_⟩
  · rw [shE, if_pos h2] at h1
    by_cases hz : 65536 < h.z
    · rw [if_pos hz] at h1; cases h1
    · omega
  · rw [hE, if_pos h1] at he; exact he
theorem pLet_is (i : Fin 14) : isLet (pLet i) = true := by
  rcases pLet_cases i with h | h | h | h <;> rw [h] <;> decide
theorem hLs_is {f : Int} {c : UInt8} (h : c ∈ hLs f) : isLet c = true := by
  obtain ⟨i, -, rfl⟩ := List.mem_map.1 h
  exact pLet_is i
theorem tp_back {h : He} (hh : wfH h) (he : hE h = 0) : tpErr (hB h) = 0 ∧ tpH (hB h) = h := by
  obtain ⟨h1, h2, h3, h4⟩ := hE_parts he
  obtain ⟨k1, k2, k3, k4⟩ := h2
  have p1 : putOk 2 h.c = true := by rw [k1]; decide
  have p2 : putOk 2 0 = true := by decide
  have p3 := put8_ok hh.1
  have p4 := put2_okP ⟨hh.2.1.1, k2⟩
  have e : hB h = putR 2 h.c ++ (putR 2 0 ++ (putR 8 h.z ++ (putR 2 h.f ++ (catP ((hLs h.f).zip h.l) ++ ⟨#[]⟩)))) := by
    rw [hB, if_pos he, begB, ba_append_e]
    simp only [ByteArray.append_assoc]
  obtain ⟨t1, t2, t3⟩ := tk_lay (hLs h.f) h.l ⟨#[]⟩ (fun c hc => hLs_not hc) (by rw [hLs_length, k4]) (fun v hv => (hh.2.2 v hv).1) h4
  have e1 : tpR1 (hB h) = putR 2 0 ++ (putR 8 h.z ++ (putR 2 h.f ++ (catP ((hLs h.f).zip h.l) ++ ⟨#[]⟩))) := by rw [tpR1, e, take_put_r p1]
  have e2 : tpR2 (hB h) = putR 8 h.z ++ (putR 2 h.f ++ (catP ((hLs h.f).zip h.l) ++ ⟨#[]⟩)) := by rw [tpR2, e1, take_put_r p2]
  have e3 : tpR3 (hB h) = putR 2 h.f ++ (catP ((hLs h.f).zip h.l) ++ ⟨#[]⟩) := by rw [tpR3, e2, take_put_r p3]
  have e4 : tpR4 (hB h) = catP ((hLs h.f).zip h.l) ++ ⟨#[]⟩ := by rw [tpR4, e3, take_put_r p4]
  have ef : tpF (hB h) = h.f := by rw [tpF, e3, take_put_v p4 hh.2.1.1]
  have eh : tpH (hB h) = h := by
    rw [tpH, ef, e4, t2, e2, take_put_v p3 hh.1.1, e, take_put_v p1 (by omega)]
  refine ⟨?_, eh⟩
  have hz : (⟨#[]⟩ : ByteArray).size = 0 := rfl
  rw [tpErr, eh, ef, e4, t1, t3, e3, take_put_e p4, e1, take_put_v p2 (Int.le_refl 0), hz]
  simp only [and_self, if_true]
  exact h1
theorem take_ahead {s : ByteArray} {n m : Int} (h : takeOk (takeR s n) m = true) : takeOk s n = true := by
  cases g : takeOk s n
  · rw [show takeR s n = ⟨#[]⟩ by rw [takeR, if_neg (by simp [g])]] at h
    have h2 := takeR_size h
    have h3 := (takeOk_w h).1
    have h4 : 0 < m := by
      simp only [isW, Bool.or_eq_true, beq_iff_eq] at h3
      omega
    have h5 : ((⟨#[]⟩ : ByteArray).size : Int) = 0 := rfl
    omega
  · rfl
theorem tp_parts {s : ByteArray} (h : tpErr s = 0) : takeE (tpR3 s) 2 = 0 ∧ tkE (hLs (tpF s)) (tpR4 s) = 0 ∧ takeV (tpR1 s) 2 = 0 ∧ (tkR (hLs (tpF s)) (tpR4 s)).size = 0 ∧ shE (tpH s) = 0 := by
  rw [tpErr] at h
  by_cases h1 : takeE (tpR3 s) 2 = 0
  · rw [if_pos h1] at h
    by_cases h2 : tkE (hLs (tpF s)) (tpR4 s) = 0 ∧ takeV (tpR1 s) 2 = 0 ∧ (tkR (hLs (tpF s)) (tpR4 s)).size = 0
    · rw [if_pos h2] at h
      exact ⟨h1, h2.1, h2.2.1, h2.2.2, h⟩
    · rw [if_neg h2] at h; cases h
  · rw [if_neg h1] at h; cases h
theorem tk_wf {f : Int} {s : ByteArray} (h : tkE (hLs f) s = 0) : ∀ v ∈ tkVs (hLs f) s, wfV v := by
  obtain ⟨l1, -, l3⟩ := lay_tk (hLs f) s (fun c hc => hLs_not hc) h
  exact wf_list (hLs f) _ (tkVs_length _ _).symm (fun c hc => hLs_is hc) l3 l1
theorem tp_wf {s : ByteArray} (hk : tkE (hLs (tpF s)) (tpR4 s) = 0) : wfH (tpH s) := by
  have a1 := takeV_nonneg (tpR2 s) 8
  have a2 := takeV_lt (tpR2 s) 8
  have b1 : 0 ≤ tpF s := takeV_nonneg (tpR3 s) 2
  have b2 : tpF s < 18446744073709551616 := takeV_lt (tpR3 s) 2
  unfold wfH tpH
  dsimp only
  exact ⟨⟨a1, a2⟩, ⟨b1, b2⟩, tk_wf hk⟩
theorem tp_e1 (s : ByteArray) : tpR1 s = takeR s 2 := rfl
theorem tp_e2 (s : ByteArray) : tpR2 s = takeR (tpR1 s) 2 := rfl
theorem tp_e3 (s : ByteArray) : tpR3 s = takeR (tpR2 s) 8 := rfl
theorem tp_e4 (s : ByteArray) : tpR4 s = takeR (tpR3 s) 2 := rfl
theorem tp_hc (s : ByteArray) : (tpH s).c = takeV s 2 := by rw [tpH]
theorem tp_hz (s : ByteArray) : (tpH s).z = takeV (tpR2 s) 8 := by rw [tpH]
theorem tp_hf (s : ByteArray) : (tpH s).f = takeV (tpR3 s) 2 := by rw [tpH, tpF]
theorem tp_hl (s : ByteArray) : (tpH s).l = tkVs (hLs (tpF s)) (tpR4 s) := by rw [tpH]
theorem tp_forth_e {s : ByteArray} (h : tpErr s = 0) : hE (tpH s) = 0 := by
  obtain ⟨-, h2, -, -, h5⟩ := tp_parts h
  obtain ⟨l1, -, -⟩ := lay_tk (hLs (tpF s)) (tpR4 s) (fun c hc => hLs_not hc) h2
  rw [hE, if_pos h5, tp_hf, tp_hl]
  rw [tpF] at l1
  rw [tpF]
  exact l1
theorem tp_forth_b {s : ByteArray} (h : tpErr s = 0) : hB (tpH s) = s := by
  have he := tp_forth_e h
  obtain ⟨h1, h2, h3, h4, -⟩ := tp_parts h
  have k4 := takeOk_of h1
  have k3 : takeOk (tpR2 s) 8 = true := by rw [tp_e3] at k4; exact take_ahead k4
  have k2 : takeOk (tpR1 s) 2 = true := by rw [tp_e2] at k3; exact take_ahead k3
  have k1 : takeOk s 2 = true := by rw [tp_e1] at k2; exact take_ahead k2
  have q1 := put_take_s k1
  have q2 := put_take_s k2
  have q3 := put_take_s k3
  have q4 := put_take_s k4
  rw [← tp_e4] at q4
  rw [← tp_e3] at q3
  rw [← tp_e2, h3] at q2
  rw [← tp_e1] at q1
  obtain ⟨-, l2, -⟩ := lay_tk (hLs (tpF s)) (tpR4 s) (fun c hc => hLs_not hc) h2
  rw [ba_empty h4, ba_append_e, tpF] at l2
  rw [hB, if_pos he, begB, tp_hc, tp_hz, tp_hf, tp_hl, tpF, l2]
  simp only [ByteArray.append_assoc]
  rw [q4, q3, q2, q1]
theorem tp_forth {s : ByteArray} (h : tpErr s = 0) : hE (tpH s) = 0 ∧ hB (tpH s) = s ∧ wfH (tpH s) :=
  ⟨tp_forth_e h, tp_forth_b h, tp_wf (tp_parts h).2.1⟩
end Go.Proofs.YtllgkohgcicbhaaGreatDoor

/-
  Commands as frames, and out of frames, as plain mathematics: what was cut into frames comes out whole at the last one, and not ahead of it. No condition.
-/
namespace Go.Proofs.YtllgkohgcicbhaaGreatDoor

/-- a command -/
structure Cm where
  m : Me
  h : He
  b : ByteArray
/-- a channel's command as far as it has come -/
structure As where
  st : Int
  c : Cm
def noH : He := ⟨0, 0, 0, []⟩
def cm0 : Cm := ⟨⟨0, 0, []⟩, noH, ⟨#[]⟩⟩
def as0 : As := ⟨0, cm0⟩
def ofM (m : Me) : Cm := ⟨m, noH, ⟨#[]⟩⟩
def wfC (c : Cm) : Prop := wfM c.m ∧ wfH c.h
/-- does a content follow? -/
def fol (m : Me) : Bool := sCont m.c m.i
/-- is it the head of nothing? -/
def noHead (h : He) : Prop := h.c = 0 ∧ h.z = 0 ∧ h.f = 0 ∧ h.l = []
/-- why a command isn't right -/
def cE (c : Cm) : Int := if mE c.m = 0 then (if fol c.m = true then (if hE c.h = 0 then (if c.h.z = c.b.size then 0 else 3) else hE c.h) else (if c.h.c = 0 ∧ c.h.z = 0 ∧ c.h.f = 0 ∧ c.h.l.length = 0 ∧ c.b.size = 0 then 0 else 3)) else mE c.m
/-- what a frame that is fed answers -/
structure Fd where
  a : As
  c : Cm
  b : Bool
  e : Int
def fNo (e : Int) : Fd := ⟨as0, cm0, false, e⟩
def fWhole (c : Cm) : Fd := ⟨as0, c, true, 0⟩
def fMore (s : Int) (c : Cm) : Fd := ⟨⟨s, c⟩, cm0, false, 0⟩
def feedM (d : ByteArray) : Fd := match tm d with
  | none => fNo 7
  | some m => if fol m = true then fMore 1 (ofM m) else fWhole (ofM m)
def feedH (c : Cm) (d : ByteArray) : Fd := if tpErr d = 0 then (if 0 < (tpH d).z then fMore 2 ⟨c.m, tpH d, ⟨#[]⟩⟩ else fWhole ⟨c.m, tpH d, ⟨#[]⟩⟩) else fNo (tpErr d)
def feedB (c : Cm) (d : ByteArray) : Fd := if c.h.z < (c.b ++ d).size then fNo 6 else if (c.b ++ d).size < c.h.z then fMore 2 ⟨c.m, c.h, c.b ++ d⟩ else fWhole ⟨c.m, c.h, c.b ++ d⟩
def feed (a : As) (t : Int) (d : ByteArray) : Fd :=
  if a.st < 0 ∨ 2 < a.st then fNo 1 else if ¬ t = a.st + 1 then fNo 10 else if a.st = 0 then feedM d else if a.st = 1 then feedH a.c d else feedB a.c d

def roomN (most : Int) : Nat := (roomOf most).toNat
theorem room_is (most : Int) : ((roomN most : Nat) : Int) = roomOf most ∧ 4088 ≤ roomN most ∧ roomN most ≤ 131064 := by unfold roomN roomOf; omega
/-- a command's frames -/
def cFrsL (c : Cm) (ch : Int) (r : Nat) : List Fr := ⟨1, ch, mB c.m⟩ :: (if fol c.m = true then ⟨2, ch, hB c.h⟩ :: (cutL r c.b).map (fun p => ⟨3, ch, p⟩) else [])
def cFrsE (c : Cm) (ch : Int) (r : Nat) : Int := if cE c = 0 then (if ch < 1 ∨ 65535 < ch then 1 else if r < (mB c.m).size ∨ (fol c.m = true ∧ r < (hB c.h).size) then 4 else 0) else cE c
def cFrs (c : Cm) (ch : Int) (r : Nat) : List Fr := if cFrsE c ch r = 0 then cFrsL c ch r else []

/-- pieces together -/
def catB : List ByteArray → ByteArray
  | [] => ⟨#[]⟩
  | p :: l => p ++ catB l
theorem catB_snoc (p : ByteArray) : ∀ l : List ByteArray, catB (l ++ [p]) = catB l ++ p
  | [] => by simp only [List.nil_append, catB]; rw [ba_append_e, ba_e_append]
  | q :: l => by rw [List.cons_append, catB, catB, catB_snoc p l, ByteArray.append_assoc]
theorem catB_append : ∀ l m : List ByteArray, catB (l ++ m) = catB l ++ catB m
  | [], m => by rw [List.nil_append, catB, ba_e_append]
  | p :: l, m => by rw [List.cons_append, catB, catB, catB_append l m, ByteArray.append_assoc]
theorem ba_split (s : ByteArray) (k : Nat) : s.extract 0 k ++ s.extract k s.size = s := by
  apply ba_ext
  rw [ba_append, Lib.extract_data, Lib.extract_data, List.drop_zero, Nat.sub_zero]
  rw [List.take_of_length_le (l := List.drop _ _) (by rw [List.length_drop, ba_len]; exact Nat.le_refl _)]
  exact List.take_append_drop _ _
theorem cut_facts {n : Nat} (hn : 0 < n) : ∀ (k : Nat) (s : ByteArray), s.size = k → catB (cutL n s) = s ∧ ∀ p ∈ cutL n s, 0 < p.size ∧ p.size ≤ n := by
  intro k
  induction k using Nat.strongRecOn with
  | ind k ih =>
    intro s hs
    rcases Nat.eq_zero_or_pos s.size with h | h
    · rw [cutL_nil n h]
      exact ⟨(ba_empty h).symm, fun p hp => by cases hp⟩
    · rw [cutL_cons h hn]
      have h1 : (s.extract (min n s.size) s.size).size = s.size - min n s.size := by rw [ByteArray.size_extract]; omega
      have h2 : (s.extract 0 (min n s.size)).size = min n s.size := by rw [ByteArray.size_extract]; omega
      obtain ⟨g1, g2⟩ := ih _ (by rw [← hs]; omega) (s.extract (min n s.size) s.size) h1
      refine ⟨by rw [catB, g1, ba_split s _], fun p hp => ?_⟩
      rcases List.mem_cons.1 hp with rfl | hp
      · rw [h2]; omega
      · exact g2 p hp
theorem cut_cat {n : Nat} (hn : 0 < n) (s : ByteArray) : catB (cutL n s) = s := (cut_facts hn _ s rfl).1
theorem cut_size {n : Nat} (hn : 0 < n) {s p : ByteArray} (h : p ∈ cutL n s) : 0 < p.size ∧ p.size ≤ n := (cut_facts hn _ s rfl).2 p h

theorem cE_parts {c : Cm} (h : cE c = 0) : mE c.m = 0 ∧ ((fol c.m = true ∧ hE c.h = 0 ∧ c.h.z = c.b.size) ∨ (fol c.m = false ∧ c.h = noH ∧ c.b = ⟨#[]⟩)) := by
  unfold cE at h
  by_cases h1 : mE c.m = 0
  · rw [if_pos h1] at h
    refine ⟨h1, ?_⟩
    cases hf : fol c.m
    · rw [if_neg (by simp [hf])] at h
      by_cases h2 : c.h.c = 0 ∧ c.h.z = 0 ∧ c.h.f = 0 ∧ c.h.l.length = 0 ∧ c.b.size = 0
      · obtain ⟨g1, g2, g3, g4, g5⟩ := h2
        refine .inr ⟨rfl, ?_, ba_empty g5⟩
        obtain ⟨m, ⟨x, z, f, l⟩, b⟩ := c
        dsimp only at *
        subst g1 g2 g3
        rw [List.eq_nil_of_length_eq_zero g4]
        rfl
      · rw [if_neg h2] at h; cases h
    · rw [if_pos hf] at h
      by_cases h2 : hE c.h = 0
      · rw [if_pos h2] at h
        by_cases h3 : c.h.z = c.b.size
        · exact .inl ⟨rfl, h2, h3⟩
        · rw [if_neg h3] at h; cases h
      · rw [if_neg h2] at h; exact absurd h h2
  · rw [if_neg h1] at h; exact absurd h h1
/-- a right command's body isn't great -/
theorem cE_small {c : Cm} (h : cE c = 0) : c.b.size ≤ 65536 := by
  obtain ⟨-, ⟨-, g2, g3⟩ | ⟨-, -, g3⟩⟩ := cE_parts h
  · have := (hE_parts g2).2.2.1
    omega
  · rw [g3]; decide
theorem cFrsE_parts {c : Cm} {ch : Int} {r : Nat} (h : cFrsE c ch r = 0) : cE c = 0 ∧ (1 ≤ ch ∧ ch ≤ 65535) ∧ (mB c.m).size ≤ r ∧ (fol c.m = true → (hB c.h).size ≤ r) := by
  unfold cFrsE at h
  by_cases h1 : cE c = 0
  · rw [if_pos h1] at h
    by_cases h2 : ch < 1 ∨ 65535 < ch
    · rw [if_pos h2] at h; cases h
    · rw [if_neg h2] at h
      by_cases h3 : r < (mB c.m).size ∨ (fol c.m = true ∧ r < (hB c.h).size)
      · rw [if_pos h3] at h; cases h
      · rw [not_or, not_and] at h3
        rw [not_or] at h2
        exact ⟨h1, ⟨by omega, by omega⟩, by omega, fun hf => by have := h3.2 hf; omega⟩
  · rw [if_neg h1] at h; exact absurd h h1

/-- how far a command has come when k of its frames were fed -/
def stAt (c : Cm) (r : Nat) : Nat → As
  | 0 => as0
  | 1 => ⟨1, ofM c.m⟩
  | k + 2 => ⟨2, ⟨c.m, c.h, catB ((cutL r c.b).take k)⟩⟩
theorem feed_in {a : As} {t : Int} {d : ByteArray} (h1 : 0 ≤ a.st ∧ a.st ≤ 2) (h2 : t = a.st + 1) : feed a t d = if a.st = 0 then feedM d else if a.st = 1 then feedH a.c d else feedB a.c d := by
  rw [feed, if_neg (by omega), if_neg (by omega)]
theorem z_le {a b : Nat} (h : a < b) : ¬ ((b : Int) < (a : Int)) := by omega
/-- each of a command's frames is taken: the last one makes it whole -/
theorem feed_at {c : Cm} {ch : Int} {r : Nat} (hr : 0 < r) (hw : wfC c) (he : cFrsE c ch r = 0) {k : Nat} (hk : k < (cFrsL c ch r).length) :
    feed (stAt c r k) ((cFrsL c ch r)[k]).t ((cFrsL c ch r)[k]).d = (if k + 1 = (cFrsL c ch r).length then fWhole c else ⟨stAt c r (k + 1), cm0, false, 0⟩) ∧ ((cFrsL c ch r)[k]).c = ch := by
  obtain ⟨h1, h2, h3, h4⟩ := cFrsE_parts he
  obtain ⟨g1, g2⟩ := cE_parts h1
  have hself := tm_self (fun v hv => (hw.1 v hv).1) g1
  rcases g2 with ⟨f1, f2, f3⟩ | ⟨f1, f2, f3⟩
  · have e : cFrsL c ch r = ⟨1, ch, mB c.m⟩ :: ⟨2, ch, hB c.h⟩ :: (cutL r c.b).map (fun p => ⟨3, ch, p⟩) := by rw [cFrsL, if_pos f1]
    obtain ⟨t1, t2⟩ := tp_back hw.2 f2
    have hl : (cFrsL c ch r).length = (cutL r c.b).length + 2 := by rw [e]; simp
    have hcat := cut_cat hr c.b
    match k, hk with
    | 0, hk =>
      have ek : (cFrsL c ch r)[0] = ⟨1, ch, mB c.m⟩ := by simp [e]
      rw [ek, if_neg (by omega)]
      refine ⟨?_, rfl⟩
      have e0 : (stAt c r 0).st = 0 := rfl
      rw [feed_in (by rw [e0]; exact ⟨by decide, by decide⟩) (by rw [e0]; rfl), e0, if_pos rfl, feedM, hself]
      dsimp only
      rw [if_pos f1]
      rfl
    | 1, hk =>
      have ek : (cFrsL c ch r)[1] = ⟨2, ch, hB c.h⟩ := by simp [e]
      rw [ek]
      refine ⟨?_, rfl⟩
      have e1 : (stAt c r 1).st = 1 := rfl
      have e2 : (stAt c r 1).c = ofM c.m := rfl
      rw [feed_in (by rw [e1]; exact ⟨by decide, by decide⟩) (by rw [e1]; rfl), e1, e2, if_neg (by decide), if_pos rfl, feedH, if_pos t1, t2]
      rcases Nat.eq_zero_or_pos c.b.size with hb | hb
      · have hn : cutL r c.b = [] := cutL_nil r hb
        rw [if_neg (by omega), if_pos (by rw [hl, hn]; rfl), ← ba_empty hb]
        rfl
      · have hn := cutL_cons hb hr
        rw [if_pos (by omega), if_neg (by rw [hl, hn, List.length_cons]; omega)]
        rfl
    | j + 2, hk =>
      have hj : j < (cutL r c.b).length := by omega
      have ek : (cFrsL c ch r)[j + 2] = ⟨3, ch, (cutL r c.b)[j]⟩ := by simp [e]
      rw [ek]
      refine ⟨?_, rfl⟩
      have e1 : (stAt c r (j + 2)).st = 2 := rfl
      have e2 : (stAt c r (j + 2)).c = ⟨c.m, c.h, catB ((cutL r c.b).take j)⟩ := rfl
      have e3 : catB ((cutL r c.b).take j) ++ (cutL r c.b)[j] = catB ((cutL r c.b).take (j + 1)) := by
        rw [List.take_add_one, List.getElem?_eq_getElem hj]
        exact (catB_snoc _ _).symm
      rw [feed_in (by rw [e1]; exact ⟨by decide, by decide⟩) (by rw [e1]; rfl), e1, e2, if_neg (by decide), if_neg (by decide), feedB]
      dsimp only
      rw [e3, hl]
      have e4 : c.b = catB ((cutL r c.b).take (j + 1)) ++ catB ((cutL r c.b).drop (j + 1)) := by rw [← catB_append, List.take_append_drop, hcat]
      have e5 := congrArg ByteArray.size e4
      rw [ByteArray.size_append] at e5
      rw [if_neg (by omega)]
      by_cases hlast : j + 1 = (cutL r c.b).length
      · have e6 : (cutL r c.b).drop (j + 1) = [] := List.drop_of_length_le (by omega)
        have e7 : catB ((cutL r c.b).take (j + 1)) = c.b := by
          rw [e6, catB, ba_append_e] at e4
          exact e4.symm
        rw [e7, if_neg (by omega), if_pos (by omega)]
      · have e6 : 0 < (catB ((cutL r c.b).drop (j + 1))).size := by
          have hj2 : j + 1 < (cutL r c.b).length := by omega
          rw [List.drop_eq_getElem_cons hj2, catB, ByteArray.size_append]
          have := (cut_size hr (List.getElem_mem hj2)).1
          omega
        rw [if_pos (by omega), if_neg (by omega)]
        rfl
  · have e : cFrsL c ch r = [⟨1, ch, mB c.m⟩] := by rw [cFrsL, if_neg (by simp [f1])]
    have hl : (cFrsL c ch r).length = 1 := by rw [e]; rfl
    obtain rfl : k = 0 := by omega
    have ek : (cFrsL c ch r)[0] = ⟨1, ch, mB c.m⟩ := by simp [e]
    rw [ek, if_pos hl.symm]
    refine ⟨?_, rfl⟩
    have e0 : (stAt c r 0).st = 0 := rfl
    rw [feed_in (by rw [e0]; exact ⟨by decide, by decide⟩) (by rw [e0]; rfl), e0, if_pos rfl, feedM, hself]
    dsimp only
    rw [if_neg (by simp [f1]), ofM, ← f2, ← f3]

theorem wf_noH : wfH noH := ⟨⟨by decide, by decide⟩, ⟨by decide, by decide⟩, fun v hv => by cases hv⟩
theorem wf_ofM {m : Me} (h : wfM m) : wfC (ofM m) := ⟨h, wf_noH⟩
theorem wf_cm0 : wfC cm0 := wf_ofM (fun v hv => by cases hv)
end Go.Proofs.YtllgkohgcicbhaaGreatDoor

/-
  What follows of frames and commands: what comes out whole is right; a greater most never needs more frames; which types a command's frames have. No condition.
-/
namespace Go.Proofs.YtllgkohgcicbhaaGreatDoor

/-- how far a channel's command has come, if it came out of frames -/
def CInv (a : As) : Prop := wfC a.c ∧ a.c.b.size ≤ 65536 ∧ ((a = as0) ∨ (a.st = 1 ∧ mE a.c.m = 0 ∧ fol a.c.m = true) ∨ (a.st = 2 ∧ mE a.c.m = 0 ∧ fol a.c.m = true ∧ hE a.c.h = 0))
theorem inv0 : CInv as0 := ⟨wf_cm0, by decide, .inl rfl⟩
theorem cE_fol {c : Cm} (h1 : mE c.m = 0) (h2 : fol c.m = true) (h3 : hE c.h = 0) (h4 : c.h.z = c.b.size) : cE c = 0 := by
  rw [cE, if_pos h1, if_pos h2, if_pos h3, if_pos h4]
theorem cE_ofM {m : Me} (h1 : mE m = 0) (h2 : fol m = false) : cE (ofM m) = 0 := by
  have e : (ofM m).m = m := rfl
  rw [cE, e, if_pos h1, if_neg (by simp [h2]), if_pos ⟨rfl, rfl, rfl, rfl, rfl⟩]
/-- what a frame that is fed leaves: nothing behind an error or a whole command, which is right; else a command that goes on -/
theorem feed_inv {a : As} (h : CInv a) (t : Int) (d : ByteArray) (hd : ∀ m, tm d = some m → wfM m) :
    CInv (feed a t d).a ∧ wfC (feed a t d).c ∧ (((feed a t d).b = true ∧ (feed a t d).e = 0 ∧ (feed a t d).a = as0 ∧ cE (feed a t d).c = 0 ∧ (feed a t d).c.b.size ≤ 65536) ∨ ((feed a t d).b = false ∧ ¬ (feed a t d).e = 0 ∧ (feed a t d).a = as0 ∧ (feed a t d).c = cm0) ∨ ((feed a t d).b = false ∧ (feed a t d).e = 0 ∧ ¬ (feed a t d).a.st = 0 ∧ (feed a t d).c = cm0)) := by
  have no : ∀ e : Int, ¬ e = 0 → CInv (fNo e).a ∧ wfC (fNo e).c ∧ (((fNo e).b = true ∧ (fNo e).e = 0 ∧ (fNo e).a = as0 ∧ cE (fNo e).c = 0 ∧ (fNo e).c.b.size ≤ 65536) ∨ ((fNo e).b = false ∧ ¬ (fNo e).e = 0 ∧ (fNo e).a = as0 ∧ (fNo e).c = cm0) ∨ ((fNo e).b = false ∧ (fNo e).e = 0 ∧ ¬ (fNo e).a.st = 0 ∧ (fNo e).c = cm0)) :=
    fun e he => ⟨inv0, wf_cm0, .inr (.inl ⟨rfl, he, rfl, rfl⟩)⟩
  have whole : ∀ c : Cm, wfC c → cE c = 0 → CInv (fWhole c).a ∧ wfC (fWhole c).c ∧ (((fWhole c).b = true ∧ (fWhole c).e = 0 ∧ (fWhole c).a = as0 ∧ cE (fWhole c).c = 0 ∧ (fWhole c).c.b.size ≤ 65536) ∨ ((fWhole c).b = false ∧ ¬ (fWhole c).e = 0 ∧ (fWhole c).a = as0 ∧ (fWhole c).c = cm0) ∨ ((fWhole c).b = false ∧ (fWhole c).e = 0 ∧ ¬ (fWhole c).a.st = 0 ∧ (fWhole c).c = cm0)) :=
    fun c hw hc => ⟨inv0, hw, .inl ⟨rfl, rfl, rfl, hc, cE_small hc⟩⟩
  have more : ∀ (s : Int) (c : Cm), wfC c → c.b.size ≤ 65536 → ((s = 1 ∧ mE c.m = 0 ∧ fol c.m = true) ∨ (s = 2 ∧ mE c.m = 0 ∧ fol c.m = true ∧ hE c.h = 0)) → CInv (fMore s c).a ∧ wfC (fMore s c).c ∧ (((fMore s c).b = true ∧ (fMore s c).e = 0 ∧ (fMore s c).a = as0 ∧ cE (fMore s c).c = 0 ∧ (fMore s c).c.b.size ≤ 65536) ∨ ((fMore s c).b = false ∧ ¬ (fMore s c).e = 0 ∧ (fMore s c).a = as0 ∧ (fMore s c).c = cm0) ∨ ((fMore s c).b = false ∧ (fMore s c).e = 0 ∧ ¬ (fMore s c).a.st = 0 ∧ (fMore s c).c = cm0)) :=
    fun s c hw hb hs => ⟨⟨hw, hb, .inr hs⟩, wf_cm0, .inr (.inr ⟨rfl, rfl, by
      show ¬ s = 0
      rcases hs with ⟨rfl, -⟩ | ⟨rfl, -⟩ <;> decide, rfl⟩)⟩
  unfold feed
  by_cases h1 : a.st < 0 ∨ 2 < a.st
  · rw [if_pos h1]; exact no 1 (by decide)
  rw [if_neg h1]
  by_cases h2 : ¬ t = a.st + 1
  · rw [if_pos h2]; exact no 10 (by decide)
  rw [if_neg h2]
  obtain ⟨hw, hb, hs⟩ := h
  by_cases h3 : a.st = 0
  · rw [if_pos h3, feedM]
    cases ht : tm d with
    | none => exact no 7 (by decide)
    | some m =>
      dsimp only
      have hm := hd m ht
      have he := (tm_forth ht).1
      cases hf : fol m
      · rw [if_neg (by simp)]
        exact whole _ (wf_ofM hm) (cE_ofM he hf)
      · rw [if_pos rfl]
        exact more 1 (ofM m) (wf_ofM hm) (by show (⟨#[]⟩ : ByteArray).size ≤ 65536; decide) (.inl ⟨rfl, he, hf⟩)
  rw [if_neg h3]
  by_cases h4 : a.st = 1
  · rw [if_pos h4, feedH]
    obtain ⟨k1, k2⟩ : mE a.c.m = 0 ∧ fol a.c.m = true := by
      rcases hs with rfl | ⟨-, g1, g2⟩ | ⟨g0, -⟩
      · exact absurd h4 (by decide)
      · exact ⟨g1, g2⟩
      · omega
    by_cases h5 : tpErr d = 0
    · rw [if_pos h5]
      obtain ⟨t1, -, t3⟩ := tp_forth h5
      by_cases h6 : 0 < (tpH d).z
      · rw [if_pos h6]
        exact more 2 ⟨a.c.m, tpH d, ⟨#[]⟩⟩ ⟨hw.1, t3⟩ (by show (⟨#[]⟩ : ByteArray).size ≤ 65536; decide) (.inr ⟨rfl, k1, k2, t1⟩)
      · rw [if_neg h6]
        have := t3.1.1
        exact whole ⟨a.c.m, tpH d, ⟨#[]⟩⟩ ⟨hw.1, t3⟩ (cE_fol k1 k2 t1 (by show (tpH d).z = (((⟨#[]⟩ : ByteArray).size : Nat) : Int); rw [show (⟨#[]⟩ : ByteArray).size = 0 from rfl]; omega))
    · rw [if_neg h5]; exact no _ h5
  rw [if_neg h4, feedB]
  obtain ⟨k1, k2, k3⟩ : mE a.c.m = 0 ∧ fol a.c.m = true ∧ hE a.c.h = 0 := by
    rcases hs with rfl | ⟨g0, -⟩ | ⟨g0, g1, g2, g3⟩
    · exact absurd rfl h3
    · omega
    · exact ⟨g1, g2, g3⟩
  have hz := (hE_parts k3).2.2.1
  by_cases h5 : a.c.h.z < (a.c.b ++ d).size
  · rw [if_pos h5]; exact no 6 (by decide)
  rw [if_neg h5]
  by_cases h6 : (a.c.b ++ d).size < a.c.h.z
  · rw [if_pos h6]
    exact more 2 ⟨a.c.m, a.c.h, a.c.b ++ d⟩ hw (by show (a.c.b ++ d).size ≤ 65536; omega) (.inr ⟨rfl, k1, k2, k3⟩)
  · rw [if_neg h6]
    exact whole ⟨a.c.m, a.c.h, a.c.b ++ d⟩ hw (cE_fol k1 k2 k3 (by show a.c.h.z = (((a.c.b ++ d).size : Nat) : Int); omega))

/-- a row of pieces holds the whole, and without its last piece it doesn't -/
theorem cut_count {n : Nat} (hn : 0 < n) : ∀ (k : Nat) (s : ByteArray), s.size = k → s.size ≤ (cutL n s).length * n ∧ (0 < s.size → ∃ j, (cutL n s).length = j + 1 ∧ j * n < s.size) := by
  intro k
  induction k using Nat.strongRecOn with
  | ind k ih =>
    intro s hs
    rcases Nat.eq_zero_or_pos s.size with h | h
    · rw [cutL_nil n h]; exact ⟨by omega, fun h' => by omega⟩
    · rw [cutL_cons h hn, List.length_cons]
      have h1 : (s.extract (min n s.size) s.size).size = s.size - min n s.size := by rw [ByteArray.size_extract]; omega
      obtain ⟨g1, g2⟩ := ih _ (by rw [← hs]; omega) (s.extract (min n s.size) s.size) h1
      generalize hl : cutL n (s.extract (min n s.size) s.size) = l at g1 g2 ⊢
      refine ⟨by rw [Nat.succ_mul]; omega, fun _ => ⟨l.length, rfl, ?_⟩⟩
      rcases Nat.eq_zero_or_pos (s.extract (min n s.size) s.size).size with h2 | h2
      · have h3 : l.length = 0 := by rw [← hl, cutL_nil n h2]; rfl
        rw [h3, Nat.zero_mul]
        exact h
      · obtain ⟨j, e, hj⟩ := g2 h2
        rw [e, Nat.succ_mul]
        omega
theorem cut_mono {n m : Nat} (hn : 0 < n) (hm : n ≤ m) (s : ByteArray) : (cutL m s).length ≤ (cutL n s).length := by
  rcases Nat.eq_zero_or_pos s.size with h | h
  · rw [cutL_nil m h]; exact Nat.zero_le _
  · obtain ⟨j, e, hj⟩ := (cut_count (by omega : 0 < m) _ s rfl).2 h
    have h1 := (cut_count hn _ s rfl).1
    rcases Nat.lt_or_ge (cutL n s).length (cutL m s).length with g | g
    · have h2 : (cutL n s).length * n ≤ j * m := Nat.mul_le_mul (by omega) hm
      omega
    · exact g
end Go.Proofs.YtllgkohgcicbhaaGreatDoor
