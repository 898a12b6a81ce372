/-
  Several texts joined in one file: each says at its own head, below, what it proves, and its conditions.
-/
import Derived.Test.YtllgkohgcicbhaaGreatDoorZF
import Derived.Test.YtllgkohgcicbhaaGreatDoorZE
import Derived.Test.YtllgkohgcicbhaaGreatDoorZB
/-
  Values out of bytes by their letters, one behind the other; heads out of bytes: plain mathematics. No condition.
-/
namespace Go.Proofs.YtllgkohgcicbhaaGreatDoor

def tkE : List UInt8 → ByteArray → Int
 | [], _ => 0
 | c :: ls, s => if oE c s = 0 then tkE ls (oR c s) else oE c s
def tkR : List UInt8 → ByteArray → ByteArray
 | [], s => s
 | c :: ls, s => tkR ls (oR c s)
def tkVs : List UInt8 → ByteArray → List MV
 | [], _ => []
 | c :: ls, s => oV c s :: tkVs ls (oR c s)
theorem tkVs_length : ∀ (ls : List UInt8) (s : ByteArray), (tkVs ls s).length = ls.length
 | [], _ => rfl
 | c :: ls, s => by rw [tkVs, List.length_cons, List.length_cons, tkVs_length]
theorem tkR_snoc (c : UInt8) : ∀ (ls : List UInt8) (s : ByteArray), tkR (ls ++ [c]) s = oR c (tkR ls s)
 | [], _ => rfl
 | d :: ls, s => by rw [List.cons_append, tkR, tkR, tkR_snoc c ls]
theorem tkVs_snoc (c : UInt8) : ∀ (ls : List UInt8) (s : ByteArray), tkVs (ls ++ [c]) s = tkVs ls s ++ [oV c (tkR ls s)]
 | [], _ => rfl
 | d :: ls, s => by rw [List.cons_append, tkVs, tkVs, tkR, tkVs_snoc c ls]; rfl
theorem tkE_snoc (c : UInt8) : ∀ (ls : List UInt8) (s : ByteArray), tkE (ls ++ [c]) s = if tkE ls s = 0 then oE c (tkR ls s) else tkE ls s
 | [], s => by
  simp only [List.nil_append, tkE, tkR]
  by_cases h : oE c s = 0
  · simp [h]
  · simp [h]
 | d :: ls, s => by
  rw [List.cons_append, tkE, tkE, tkR, tkE_snoc c ls]
  by_cases h : oE d s = 0
  · simp [h]
  · simp [h]
theorem tkE_pre {l m : List UInt8} (h : l <+: m) {s : ByteArray} (h0 : ¬ tkE l s = 0) : tkE m s = tkE l s := by
 obtain ⟨t, rfl⟩ := h
 induction l generalizing s with
 | nil => exact absurd rfl h0
 | cons c l ih =>
  rw [List.cons_append, tkE, tkE]
  by_cases hx : oE c s = 0
  · rw [if_pos hx, if_pos hx]
    rw [tkE, if_pos hx] at h0
    exact ih h0
  · rw [if_neg hx, if_neg hx]
theorem lay_tk : ∀ (ls : List UInt8) (s : ByteArray), (∀ c ∈ ls, ¬ c = 98) → tkE ls s = 0 → layEr ls (tkVs ls s) = 0 ∧ catP (ls.zip (tkVs ls s)) ++ tkR ls s = s ∧ ∀ v ∈ tkVs ls s, 0 ≤ v.n
 | [], s, _, _ => by
  refine ⟨rfl, ?_, fun v hv => by cases hv⟩
  exact ba_e_append s
 | c :: ls, s, hc, he => by
  rw [tkE] at he
  by_cases h0 : oE c s = 0
  · rw [if_pos h0] at he
    obtain ⟨f1, f2, f3⟩ := one_forth (hc c (by simp)) h0
    obtain ⟨i1, i2, i3⟩ := lay_tk ls (oR c s) (fun x hx => hc x (by simp [hx])) he
    rw [tkVs, tkR, List.zip_cons_cons, catP]
    refine ⟨layEr_mk f1 i1, ?_, ?_⟩
    · rw [ByteArray.append_assoc, i2]; exact f2
    · intro v hv
      rcases List.mem_cons.1 hv with rfl | hv
      · exact f3
      · exact i3 v hv
  · rw [if_neg h0] at he
    exact absurd he h0
def tpR1 (s : ByteArray) : ByteArray := takeR s 2
def tpR2 (s : ByteArray) : ByteArray := takeR (tpR1 s) 2
def tpR3 (s : ByteArray) : ByteArray := takeR (tpR2 s) 8
def tpR4 (s : ByteArray) : ByteArray := takeR (tpR3 s) 2
def tpF (s : ByteArray) : Int := takeV (tpR3 s) 2
/-- the head that bytes begin with, if they do -/
def tpH (s : ByteArray) : He := ⟨takeV s 2, takeV (tpR2 s) 8, tpF s, tkVs (hLs (tpF s)) (tpR4 s)⟩
def tpErr (s : ByteArray) : Int := if takeE (tpR3 s) 2 = 0 then (if tkE (hLs (tpF s)) (tpR4 s) = 0 ∧ takeV (tpR1 s) 2 = 0 ∧ (tkR (hLs (tpF s)) (tpR4 s)).size = 0 then shE (tpH s) else 7) else 7
theorem hE_parts {h : He} (he : hE h = 0) : shE h = 0 ∧ shOk h ∧ h.z ≤ 65536 ∧ layEr (hLs h.f) h.l = 0 := by
 have h1 : shE h = 0 := by
  by_cases hs : shE h = 0
  · exact hs
  · rw [hE, if_neg hs] at he; exact absurd he hs
 have h2 : shOk h := by
  by_cases hk : shOk h
  · exact hk
  · rw [shE, if_neg hk] at h1; cases h1
 refine ⟨h1, h2, ?_, ?_⟩
 · rw [shE, if_pos h2] at h1
   by_cases hz : 65536 < h.z
   · rw [if_pos hz] at h1; cases h1
   · omega
 · rw [hE, if_pos h1] at he; exact he
theorem pLet_is (i : Fin 14) : isLet (pLet i) = true := by
 rcases pLet_cases i with h | h | h | h <;> rw [h] <;> decide
theorem hLs_is {f : Int} {c : UInt8} (h : c ∈ hLs f) : isLet c = true := by
 obtain ⟨i, -, rfl⟩ := List.mem_map.1 h
 exact pLet_is i
theorem take_ahead {s : ByteArray} {n m : Int} (h : takeOk (takeR s n) m = true) : takeOk s n = true := by
 cases g : takeOk s n
 · rw [show takeR s n = ⟨#[]⟩ by rw [takeR, if_neg (by simp [g])]] at h
   have h2 := takeR_size h
   have h3 := (takeOk_w h).1
   have h4 : 0 < m := by
    simp only [isW, Bool.or_eq_true, beq_iff_eq] at h3
    omega
   have h5 : ((⟨#[]⟩ : ByteArray).size : Int) = 0 := rfl
   omega
 · rfl
theorem tp_parts {s : ByteArray} (h : tpErr s = 0) : takeE (tpR3 s) 2 = 0 ∧ tkE (hLs (tpF s)) (tpR4 s) = 0 ∧ takeV (tpR1 s) 2 = 0 ∧ (tkR (hLs (tpF s)) (tpR4 s)).size = 0 ∧ shE (tpH s) = 0 := by
 rw [tpErr] at h
 by_cases h1 : takeE (tpR3 s) 2 = 0
 · rw [if_pos h1] at h
   by_cases h2 : tkE (hLs (tpF s)) (tpR4 s) = 0 ∧ takeV (tpR1 s) 2 = 0 ∧ (tkR (hLs (tpF s)) (tpR4 s)).size = 0
   · rw [if_pos h2] at h
     exact ⟨h1, h2.1, h2.2.1, h2.2.2, h⟩
   · rw [if_neg h2] at h; cases h
 · rw [if_neg h1] at h; cases h
theorem tk_wf {f : Int} {s : ByteArray} (h : tkE (hLs f) s = 0) : ∀ v ∈ tkVs (hLs f) s, wfV v := by
 obtain ⟨l1, -, l3⟩ := lay_tk (hLs f) s (fun c hc => hLs_not hc) h
 exact wf_list (hLs f) _ (tkVs_length _ _).symm (fun c hc => hLs_is hc) l3 l1
theorem tp_wf {s : ByteArray} (hk : tkE (hLs (tpF s)) (tpR4 s) = 0) : wfH (tpH s) := by
 have a1 := takeV_nonneg (tpR2 s) 8
 have a2 := takeV_lt (tpR2 s) 8
 have b1 : 0 ≤ tpF s := takeV_nonneg (tpR3 s) 2
 have b2 : tpF s < 18446744073709551616 := takeV_lt (tpR3 s) 2
 unfold wfH tpH
 dsimp only
 exact ⟨⟨a1, a2⟩, ⟨b1, b2⟩, tk_wf hk⟩
theorem tp_e1 (s : ByteArray) : tpR1 s = takeR s 2 := rfl
theorem tp_e2 (s : ByteArray) : tpR2 s = takeR (tpR1 s) 2 := rfl
theorem tp_e3 (s : ByteArray) : tpR3 s = takeR (tpR2 s) 8 := rfl
theorem tp_e4 (s : ByteArray) : tpR4 s = takeR (tpR3 s) 2 := rfl
theorem tp_hc (s : ByteArray) : (tpH s).c = takeV s 2 := by rw [tpH]
theorem tp_hz (s : ByteArray) : (tpH s).z = takeV (tpR2 s) 8 := by rw [tpH]
theorem tp_hf (s : ByteArray) : (tpH s).f = takeV (tpR3 s) 2 := by rw [tpH, tpF]
theorem tp_hl (s : ByteArray) : (tpH s).l = tkVs (hLs (tpF s)) (tpR4 s) := by rw [tpH]
theorem tp_forth_e {s : ByteArray} (h : tpErr s = 0) : hE (tpH s) = 0 := by
 obtain ⟨-, h2, -, -, h5⟩ := tp_parts h
 obtain ⟨l1, -, -⟩ := lay_tk (hLs (tpF s)) (tpR4 s) (fun c hc => hLs_not hc) h2
 rw [hE, if_pos h5, tp_hf, tp_hl]
 rw [tpF] at l1
 rw [tpF]
 exact l1
theorem tp_forth_b {s : ByteArray} (h : tpErr s = 0) : hB (tpH s) = s := by
 have he := tp_forth_e h
 obtain ⟨h1, h2, h3, h4, -⟩ := tp_parts h
 have k4 := takeOk_of h1
 have k3 : takeOk (tpR2 s) 8 = true := by rw [tp_e3] at k4; exact take_ahead k4
 have k2 : takeOk (tpR1 s) 2 = true := by rw [tp_e2] at k3; exact take_ahead k3
 have k1 : takeOk s 2 = true := by rw [tp_e1] at k2; exact take_ahead k2
 have q1 := put_take_s k1
 have q2 := put_take_s k2
 have q3 := put_take_s k3
 have q4 := put_take_s k4
 rw [← tp_e4] at q4
 rw [← tp_e3] at q3
 rw [← tp_e2, h3] at q2
 rw [← tp_e1] at q1
 obtain ⟨-, l2, -⟩ := lay_tk (hLs (tpF s)) (tpR4 s) (fun c hc => hLs_not hc) h2
 rw [ba_empty h4, ba_append_e, tpF] at l2
 rw [hB, if_pos he, begB, tp_hc, tp_hz, tp_hf, tp_hl, tpF, l2]
 simp only [ByteArray.append_assoc]
 rw [q4, q3, q2, q1]
theorem tp_forth {s : ByteArray} (h : tpErr s = 0) : hE (tpH s) = 0 ∧ hB (tpH s) = s ∧ wfH (tpH s) :=
 ⟨tp_forth_e h, tp_forth_b h, tp_wf (tp_parts h).2.1⟩
end Go.Proofs.YtllgkohgcicbhaaGreatDoor

/-
  Commands as frames, and out of frames, as plain mathematics: what was cut into frames comes out whole at the last one, and not ahead of it. No condition.
-/
namespace Go.Proofs.YtllgkohgcicbhaaGreatDoor

/-- a command -/
structure Cm where
 m : Me
 h : He
 b : ByteArray
/-- a channel's command as far as it has come -/
structure As where
 st : Int
 c : Cm
def noH : He := ⟨0, 0, 0, []⟩
def cm0 : Cm := ⟨⟨0, 0, []⟩, noH, ⟨#[]⟩⟩
def as0 : As := ⟨0, cm0⟩
def ofM (m : Me) : Cm := ⟨m, noH, ⟨#[]⟩⟩
def wfC (c : Cm) : Prop := wfM c.m ∧ wfH c.h
/-- does a content follow? -/
def fol (m : Me) : Bool := sCont m.c m.i
/-- why a command isn't right -/
def cE (c : Cm) : Int := if mE c.m = 0 then (if fol c.m = true then (if hE c.h = 0 then (if c.h.z = c.b.size then 0 else 3) else hE c.h) else (if c.h.c = 0 ∧ c.h.z = 0 ∧ c.h.f = 0 ∧ c.h.l.length = 0 ∧ c.b.size = 0 then 0 else 3)) else mE c.m
/-- what a frame that is fed answers -/
structure Fd where
 a : As
 c : Cm
 b : Bool
 e : Int
def fNo (e : Int) : Fd := ⟨as0, cm0, false, e⟩
def fWhole (c : Cm) : Fd := ⟨as0, c, true, 0⟩
def fMore (s : Int) (c : Cm) : Fd := ⟨⟨s, c⟩, cm0, false, 0⟩
def feedM (d : ByteArray) : Fd := match tm d with
 | none => fNo 7
 | some m => if fol m = true then fMore 1 (ofM m) else fWhole (ofM m)
def feedH (c : Cm) (d : ByteArray) : Fd := if tpErr d = 0 then (if 0 < (tpH d).z then fMore 2 ⟨c.m, tpH d, ⟨#[]⟩⟩ else fWhole ⟨c.m, tpH d, ⟨#[]⟩⟩) else fNo (tpErr d)
def feedB (c : Cm) (d : ByteArray) : Fd := if c.h.z < (c.b ++ d).size then fNo 6 else if (c.b ++ d).size < c.h.z then fMore 2 ⟨c.m, c.h, c.b ++ d⟩ else fWhole ⟨c.m, c.h, c.b ++ d⟩
def feed (a : As) (t : Int) (d : ByteArray) : Fd :=
 if a.st < 0 ∨ 2 < a.st then fNo 1 else if ¬ t = a.st + 1 then fNo 10 else if a.st = 0 then feedM d else if a.st = 1 then feedH a.c d else feedB a.c d

def roomN (most : Int) : Nat := (roomOf most).toNat
theorem room_is (most : Int) : ((roomN most : Nat) : Int) = roomOf most ∧ 4088 ≤ roomN most ∧ roomN most ≤ 131064 := by unfold roomN roomOf; omega
/-- a command's frames -/
def cFrsL (c : Cm) (ch : Int) (r : Nat) : List Fr := ⟨1, ch, mB c.m⟩ :: (if fol c.m = true then ⟨2, ch, hB c.h⟩ :: (cutL r c.b).map (fun p => ⟨3, ch, p⟩) else [])
def cFrsE (c : Cm) (ch : Int) (r : Nat) : Int := if cE c = 0 then (if ch < 1 ∨ 65535 < ch then 1 else if r < (mB c.m).size ∨ (fol c.m = true ∧ r < (hB c.h).size) then 4 else 0) else cE c
def cFrs (c : Cm) (ch : Int) (r : Nat) : List Fr := if cFrsE c ch r = 0 then cFrsL c ch r else []

/-- pieces together -/
def catB : List ByteArray → ByteArray
 | [] => ⟨#[]⟩
 | p :: l => p ++ catB l
theorem ba_split (s : ByteArray) (k : Nat) : s.extract 0 k ++ s.extract k s.size = s := by
 apply ba_ext
 rw [ba_append, Lib.extract_data, Lib.extract_data, List.drop_zero, Nat.sub_zero]
 rw [List.take_of_length_le (l := List.drop _ _) (by rw [List.length_drop, ba_len]; exact Nat.le_refl _)]
 exact List.take_append_drop _ _
theorem cut_facts {n : Nat} (hn : 0 < n) : ∀ (k : Nat) (s : ByteArray), s.size = k → catB (cutL n s) = s ∧ ∀ p ∈ cutL n s, 0 < p.size ∧ p.size ≤ n := by
 intro k
 induction k using Nat.strongRecOn with
 | ind k ih =>
  intro s hs
  rcases Nat.eq_zero_or_pos s.size with h | h
  · rw [cutL_nil n h]
    exact ⟨(ba_empty h).symm, fun p hp => by cases hp⟩
  · rw [cutL_cons h hn]
    have h1 : (s.extract (min n s.size) s.size).size = s.size - min n s.size := by rw [ByteArray.size_extract]; omega
    have h2 : (s.extract 0 (min n s.size)).size = min n s.size := by rw [ByteArray.size_extract]; omega
    obtain ⟨g1, g2⟩ := ih _ (by rw [← hs]; omega) (s.extract (min n s.size) s.size) h1
    refine ⟨by rw [catB, g1, ba_split s _], fun p hp => ?_⟩
    rcases List.mem_cons.1 hp with rfl | hp
    · rw [h2]; omega
    · exact g2 p hp
theorem cut_size {n : Nat} (hn : 0 < n) {s p : ByteArray} (h : p ∈ cutL n s) : 0 < p.size ∧ p.size ≤ n := (cut_facts hn _ s rfl).2 p h

theorem cE_parts {c : Cm} (h : cE c = 0) : mE c.m = 0 ∧ ((fol c.m = true ∧ hE c.h = 0 ∧ c.h.z = c.b.size) ∨ (fol c.m = false ∧ c.h = noH ∧ c.b = ⟨#[]⟩)) := by
 unfold cE at h
 by_cases h1 : mE c.m = 0
 · rw [if_pos h1] at h
   refine ⟨h1, ?_⟩
   cases hf : fol c.m
   · rw [if_neg (by simp [hf])] at h
     by_cases h2 : c.h.c = 0 ∧ c.h.z = 0 ∧ c.h.f = 0 ∧ c.h.l.length = 0 ∧ c.b.size = 0
     · obtain ⟨g1, g2, g3, g4, g5⟩ := h2
       refine .inr ⟨rfl, ?_, ba_empty g5⟩
       obtain ⟨m, ⟨x, z, f, l⟩, b⟩ := c
       dsimp only at *
       subst g1 g2 g3
       rw [List.eq_nil_of_length_eq_zero g4]
       rfl
     · rw [if_neg h2] at h; cases h
   · rw [if_pos hf] at h
     by_cases h2 : hE c.h = 0
     · rw [if_pos h2] at h
       by_cases h3 : c.h.z = c.b.size
       · exact .inl ⟨rfl, h2, h3⟩
       · rw [if_neg h3] at h; cases h
     · rw [if_neg h2] at h; exact absurd h h2
 · rw [if_neg h1] at h; exact absurd h h1
/-- a right command's body isn't great -/
theorem cE_small {c : Cm} (h : cE c = 0) : c.b.size ≤ 65536 := by
 obtain ⟨-, ⟨-, g2, g3⟩ | ⟨-, -, g3⟩⟩ := cE_parts h
 · have := (hE_parts g2).2.2.1
   omega
 · rw [g3]; decide
theorem cFrsE_parts {c : Cm} {ch : Int} {r : Nat} (h : cFrsE c ch r = 0) : cE c = 0 ∧ (1 ≤ ch ∧ ch ≤ 65535) ∧ (mB c.m).size ≤ r ∧ (fol c.m = true → (hB c.h).size ≤ r) := by
 unfold cFrsE at h
 by_cases h1 : cE c = 0
 · rw [if_pos h1] at h
   by_cases h2 : ch < 1 ∨ 65535 < ch
   · rw [if_pos h2] at h; cases h
   · rw [if_neg h2] at h
     by_cases h3 : r < (mB c.m).size ∨ (fol c.m = true ∧ r < (hB c.h).size)
     · rw [if_pos h3] at h; cases h
     · rw [not_or, not_and] at h3
       rw [not_or] at h2
       exact ⟨h1, ⟨by omega, by omega⟩, by omega, fun hf => by have := h3.2 hf; omega⟩
 · rw [if_neg h1] at h; exact absurd h h1

theorem feed_in {a : As} {t : Int} {d : ByteArray} (h1 : 0 ≤ a.st ∧ a.st ≤ 2) (h2 : t = a.st + 1) : feed a t d = if a.st = 0 then feedM d else if a.st = 1 then feedH a.c d else feedB a.c d := by
 rw [feed, if_neg (by omega), if_neg (by omega)]
end Go.Proofs.YtllgkohgcicbhaaGreatDoor

/-
  What follows of frames and commands: what comes out whole is right; a greater most never needs more frames; which types a command's frames have. No condition.
-/
namespace Go.Proofs.YtllgkohgcicbhaaGreatDoor

theorem cE_fol {c : Cm} (h1 : mE c.m = 0) (h2 : fol c.m = true) (h3 : hE c.h = 0) (h4 : c.h.z = c.b.size) : cE c = 0 := by
 rw [cE, if_pos h1, if_pos h2, if_pos h3, if_pos h4]
end Go.Proofs.YtllgkohgcicbhaaGreatDoor
