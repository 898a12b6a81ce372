/-
  A client's connection and a broker's, each taking what the other one says, as plain mathematics. Conditions: both tunes may be; user and word hold no byte 0, and have 1000 bytes together at most; the host is a short text.
-/
import Derived.Test.YtkdiccedkjbpeaaGreatDoorRKM
import Derived.Test.YtkdiccedkjbpeaaGreatDoorRWServe8
import Derived.Test.YtkdiccedkjbpeaaGreatDoorRWBeginD
namespace Go.Proofs.YtkdiccedkjbpeaaGreatDoorR

theorem tk_count (l : List UInt8) : (Lib.countByte l 0 == 0) = !l.any (· == 0) := by
  induction l with
  | nil => rfl
  | cons b l ih =>
    unfold Lib.countByte at ih ⊢
    rw [List.count_cons, List.any_cons]
    cases h : b == 0
    · simpa using ih
    · simp
theorem tk_index (l m : List UInt8) (h : l.any (· == 0) = false) : Lib.indexByte (l ++ 0 :: m) 0 = l.length := by
  induction l with
  | nil => simp [Lib.indexByte]
  | cons b l ih =>
    rw [List.any_cons, Bool.or_eq_false_iff] at h
    have ih := ih h.2
    rw [List.cons_append, Lib.indexByte, ih, h.1]
    simp
theorem tk_data (a b : ByteArray) : (whoS a b).data.toList = 0 :: (a.data.toList ++ 0 :: b.data.toList) := by
  rw [whoS, ba_append, ba_append, ba_append]
  simp
theorem tk_rest (a b : ByteArray) : ((whoS a b).extract 1 (whoS a b).size).data.toList = a.data.toList ++ 0 :: b.data.toList := by
  rw [Lib.extract_data, Lib.size_eq, tk_data]
  simp
  exact List.take_of_length_le (by simp)
theorem tk_pair {a b : ByteArray} (ha : zeroX a = false) (hb : zeroX b = false) : pairOk (whoS a b) = true := by
  have e1 : hasFirst (whoS a b) 0 = true := by rw [hasFirst, tk_data]; rfl
  have ca := tk_count a.data.toList
  have cb := tk_count b.data.toList
  have ha' : a.data.toList.any (· == 0) = false := ha
  have hb' : b.data.toList.any (· == 0) = false := hb
  rw [ha'] at ca
  rw [hb'] at cb
  rw [pairOk, e1, tk_rest]
  unfold Lib.countByte at ca cb ⊢
  rw [List.count_append, List.count_cons]
  generalize List.count 0 a.data.toList = x at ca ⊢
  generalize List.count 0 b.data.toList = y at cb ⊢
  simp at ca cb ⊢
  omega
theorem tk_parts {a b : ByteArray} (ha : zeroX a = false) (hb : zeroX b = false) : pairA (whoS a b) = a ∧ pairB (whoS a b) = b := by
  have h := tk_pair ha hb
  have e := tk_index a.data.toList b.data.toList ha
  have hat : cutAt ((whoS a b).extract 1 (whoS a b).size) 0 = (a.size : Int) := by
    rw [cutAt, tk_rest, e, ba_len]
  constructor
  · rw [pairA, if_pos h, cutA, hat, if_pos (by omega)]
    apply ba_ext
    rw [Lib.extract_data, tk_rest]
    simp
  · rw [pairB, if_pos h, cutB, hat, if_pos (by omega)]
    apply ba_ext
    rw [Lib.extract_data, Lib.size_eq, tk_rest]
    have : (List.drop ((a.size : Int).toNat + 1) (a.data.toList ++ 0 :: b.data.toList)) = b.data.toList := by
      rw [Int.toNat_natCast, ← ba_len, List.drop_append, List.drop_of_length_le (by omega)]
      simp
    rw [this, List.take_of_length_le]
    simp
    omega
theorem intN_small {n : Int} (h : 0 ≤ n ∧ n < 4294967296) : intN n = n := by
  simp [intN, IntKind.wrap, IntKind.signed, IntKind.bits]; omega
theorem numN {n : Int} (h : 0 ≤ n ∧ n < 4294967296) : (numV n).n = n := by rw [num_id h]
/-- what is said, in its order -/
def tkM0 : Me := ⟨10, 10, [numV 0, numV 9, wordV emptyS, wordV plainS, wordV enS]⟩
def tkM1 (us wo : ByteArray) : Me := ⟨10, 11, [wordV emptyT, wordV plainS, wordV (whoS us wo), wordV enU]⟩
def tkM2 (c f b : Int) : Me := ⟨10, 30, [numV c, numV f, numV b]⟩
def tkM3 (c f b : Int) : Me := ⟨10, 31, [numV c, numV f, numV b]⟩
def tkM4 (ho : ByteArray) : Me := ⟨10, 40, [wordV ho, wordV ⟨#[]⟩, numV 0]⟩
def tkM5 : Me := ⟨10, 41, [noV]⟩
theorem tk0_right : mE tkM0 = 0 := by kernel_rfl
theorem tk0_wf : wfM tkM0 := by
  intro v hv
  simp only [tkM0, List.mem_cons, List.not_mem_nil, or_false] at hv
  rcases hv with rfl | rfl | rfl | rfl | rfl <;> exact ⟨by decide, by decide, by decide⟩
theorem tk2_right {c f b : Int} (hR : tRight c f b = true) : mE (tkM2 c f b) = 0 ∧ wfM (tkM2 c f b) := by
  obtain ⟨g1, g2, g3⟩ := (tRight_iff _ _ _).1 hR
  refine ⟨?_, fun v hv => (tuned_right hR).2 v hv⟩
  rw [tkM2, num_id ⟨by omega, by omega⟩, num_id ⟨by omega, by omega⟩, num_id ⟨by omega, by omega⟩]
  exact told_right ⟨by omega, by omega⟩ ⟨by omega, by omega⟩ g3
/-- the first: the broker's side takes start -/
theorem talk_one (bc bf bb : Int) (us wo ho : ByteArray) : dTake ⟨1, bc, bf, bb, us, wo, ho⟩ tkM0 = ⟨⟨2, bc, bf, bb, us, wo, ho⟩, [tkM1 us wo], 0⟩ := by
  unfold dTake
  rw [if_pos tk0_right, if_pos rfl]
  unfold dStart
  rw [if_pos (by rfl), if_pos ⟨by kernel_rfl, by kernel_rfl, by kernel_rfl⟩]
  rfl
theorem talk_two {ac af ab : Int} {us wo ho : ByteArray} (hu : us.size ≤ 1000) (hw : wo.size ≤ 1000) (za : zeroX us = false) (zb : zeroX wo = false) : hTake ⟨1, ac, af, ab, ⟨#[]⟩, ⟨#[]⟩, ho⟩ (tkM1 us wo) = ⟨⟨2, ac, af, ab, us, wo, ho⟩, some (tkM2 ac af ab), 0⟩ := by
  unfold hTake
  rw [if_pos (show mE (tkM1 us wo) = 0 from start_right hu hw), if_neg (show ¬ (1 : Int) = 0 by decide), if_pos rfl]
  unfold hStart
  have e1 : (argV (tkM1 us wo).l 1).s = plainS := rfl
  have e2 : (argV (tkM1 us wo).l 2).s = whoS us wo := rfl
  rw [if_pos (by rfl), if_pos e1, e2, if_pos (tk_pair za zb), (tk_parts za zb).1, (tk_parts za zb).2]
  rfl
theorem tk_dg {ac af ab bc bf bb : Int} (hA : tRight ac af ab = true) (hB : tRight bc bf bb = true) : dgE bc bf bb ac af ab = 0 := by
  obtain ⟨g1, g2, g3⟩ := (tRight_iff _ _ _).1 hA
  rw [dgE, if_pos hB, if_neg (by omega), if_neg (by omega)]
theorem talk_three {ac af ab bc bf bb : Int} {us wo ho : ByteArray} (hA : tRight ac af ab = true) (hB : tRight bc bf bb = true) : dTake ⟨2, bc, bf, bb, us, wo, ho⟩ (tkM2 ac af ab) = ⟨⟨3, lessN bc ac, lessN bf af, min bb ab, us, wo, ho⟩, [tkM3 (lessN bc ac) (lessN bf af) (min bb ab), tkM4 ho], 0⟩ := by
  obtain ⟨g1, g2, g3⟩ := (tRight_iff _ _ _).1 hA
  have e0 : intN (argV (tkM2 ac af ab).l 0).n = ac := by
    rw [show (argV (tkM2 ac af ab).l 0).n = (numV ac).n from rfl, numN ⟨by omega, by omega⟩]
    exact intN_small ⟨by omega, by omega⟩
  have e1 : intN (argV (tkM2 ac af ab).l 1).n = af := by
    rw [show (argV (tkM2 ac af ab).l 1).n = (numV af).n from rfl, numN ⟨by omega, by omega⟩]
    exact intN_small ⟨by omega, by omega⟩
  have e2 : intN (argV (tkM2 ac af ab).l 2).n = ab := by
    rw [show (argV (tkM2 ac af ab).l 2).n = (numV ab).n from rfl, numN ⟨by omega, by omega⟩]
    exact intN_small ⟨by omega, by omega⟩
  unfold dTake
  rw [if_pos (tk2_right hA).1, if_neg (show ¬ (2 : Int) = 1 by decide), if_pos rfl]
  unfold dTune
  rw [if_pos (by rfl), e0, e1, e2]
  dsimp only
  rw [if_pos (tk_dg hA hB)]
  rfl
/-- what is agreed on -/
structure TkA (ac af ab c f b : Int) : Prop where
  right : tRight c f b = true
  c : c ≤ ac
  f : f ≤ af
  b : b ≤ ab
theorem tk_agree {ac af ab bc bf bb : Int} (hA : tRight ac af ab = true) (hB : tRight bc bf bb = true) : TkA ac af ab (lessN bc ac) (lessN bf af) (min bb ab) := by
  obtain ⟨g1, g2, g3⟩ := (tRight_iff _ _ _).1 hA
  obtain ⟨-, h1, -, -, -, h2, h3, h4⟩ := dgE_zero (tk_dg hA hB)
  exact ⟨h1, h2 (by omega), h3 (by omega), h4⟩
theorem talk_four {ac af ab c f b : Int} {us wo ho : ByteArray} (h : TkA ac af ab c f b) : hTake ⟨2, ac, af, ab, us, wo, ho⟩ (tkM3 c f b) = ⟨⟨3, c, f, b, us, wo, ho⟩, none, 0⟩ := by
  obtain ⟨hR, hc, hf, hb⟩ := h
  obtain ⟨g1, g2, g3⟩ := (tRight_iff _ _ _).1 hR
  have e0 : (argV (tkM3 c f b).l 0).n = c := by
    rw [show (argV (tkM3 c f b).l 0).n = (numV c).n from rfl, numN ⟨by omega, by omega⟩]
  have e1 : (argV (tkM3 c f b).l 1).n = f := by
    rw [show (argV (tkM3 c f b).l 1).n = (numV f).n from rfl, numN ⟨by omega, by omega⟩]
  have e2 : (argV (tkM3 c f b).l 2).n = b := by
    rw [show (argV (tkM3 c f b).l 2).n = (numV b).n from rfl, numN ⟨by omega, by omega⟩]
  have eo : agOk ⟨2, ac, af, ab, us, wo, ho⟩ c f = true := by
    simp only [agOk, Bool.and_eq_true, Bool.not_eq_true', Bool.and_eq_false_iff, decide_eq_false_iff_not]
    omega
  have ec : agV c ac = c := by rw [agV, if_neg (by omega)]
  have ef : agV f af = f := by rw [agV, if_neg (by omega)]
  have eb : agB ⟨2, ac, af, ab, us, wo, ho⟩ b = b := by
    rw [agB]
    dsimp only
    split
    · omega
    · omega
  unfold hTake
  rw [if_pos (show mE (tkM3 c f b) = 0 from (tuned_right hR).1), if_neg (show ¬ (2 : Int) = 0 by decide), if_neg (show ¬ (2 : Int) = 1 by decide), if_pos rfl]
  unfold hTune
  rw [if_pos (by rfl), e0, e1, e2, if_pos eo, eb]
  dsimp only
  rw [ec, ef]
  rfl
theorem talk_five {c f b : Int} {us wo ho : ByteArray} (hh : layOk 1 ho = true) : hTake ⟨3, c, f, b, us, wo, ⟨#[]⟩⟩ (tkM4 ho) = ⟨⟨4, c, f, b, us, wo, ho⟩, some tkM5, 0⟩ := by
  unfold hTake
  rw [if_pos (show mE (tkM4 ho) = 0 from open_right hh), if_neg (show ¬ (3 : Int) = 0 by decide), if_neg (show ¬ (3 : Int) = 1 by decide), if_neg (show ¬ (3 : Int) = 2 by decide), if_pos rfl]
  unfold hOpen
  rw [if_pos (by rfl)]
  rfl
theorem talk_six (c f b : Int) (us wo ho : ByteArray) : dTake ⟨3, c, f, b, us, wo, ho⟩ tkM5 = ⟨⟨4, c, f, b, us, wo, ho⟩, [], 0⟩ := by
  unfold dTake
  rw [if_pos (show mE tkM5 = 0 from open_ok), if_neg (show ¬ (3 : Int) = 1 by decide), if_neg (show ¬ (3 : Int) = 2 by decide), if_pos rfl]
  unfold dOpens
  rw [if_pos (by rfl)]
  rfl
/-- a turn: what is said is taken, one after the other, and what is answered then -/
def TkStep (C D : Hd) (S : List Me) (C' D' : Hd) (S' : List Me) : Prop :=
  ∃ (Ds : Nat → Hd) (As : Nat → List Me) (Cs : Nat → Hd) (Ss : Nat → List Me) (ans : List Me),
    Ds 0 = D ∧ As 0 = [] ∧ Ds S.length = D' ∧ As S.length = ans ∧ Cs 0 = C ∧ Ss 0 = [] ∧ Cs ans.length = C' ∧ Ss ans.length = S' ∧
    S.length ≤ 2 ∧ ans.length ≤ 2 ∧
    (∀ j (hj : j < S.length), DIn (Ds j) ∧ wfM S[j] ∧ As j = [] ∧ dTake (Ds j) S[j] = ⟨Ds (j + 1), As (j + 1), 0⟩) ∧
    (∀ j (hj : j < ans.length), wfM ans[j] ∧ Ss j = [] ∧ ∃ o, hTake (Cs j) ans[j] = ⟨Cs (j + 1), o, 0⟩ ∧ Ss (j + 1) = o.toList)
theorem tks_none (C D : Hd) : TkStep C D [] C D [] :=
  ⟨fun _ => D, fun _ => [], fun _ => C, fun _ => [], [], rfl, rfl, rfl, rfl, rfl, rfl, rfl, rfl, by simp, by simp, fun j hj => absurd hj (Nat.not_lt_zero _), fun j hj => absurd hj (Nat.not_lt_zero _)⟩
theorem tks_zero {C D D' : Hd} {m : Me} (hI : DIn D) (hm : wfM m) (h : dTake D m = ⟨D', [], 0⟩) : TkStep C D [m] C D' [] := by
  refine ⟨fun j => if j = 0 then D else D', fun _ => [], fun _ => C, fun _ => [], [], rfl, rfl, rfl, rfl, rfl, rfl, rfl, rfl, by simp, by simp, fun j hj => ?_, fun j hj => absurd hj (Nat.not_lt_zero _)⟩
  obtain rfl : j = 0 := Nat.lt_one_iff.1 hj
  exact ⟨hI, hm, rfl, h⟩
theorem tks_one {C D C' D' : Hd} {m m1 : Me} {o : Option Me} (hI : DIn D) (hm : wfM m) (hm1 : wfM m1) (h : dTake D m = ⟨D', [m1], 0⟩) (h1 : hTake C m1 = ⟨C', o, 0⟩) : TkStep C D [m] C' D' o.toList := by
  refine ⟨fun j => if j = 0 then D else D', fun j => if j = 0 then [] else [m1], fun j => if j = 0 then C else C', fun j => if j = 0 then [] else o.toList, [m1], rfl, rfl, rfl, rfl, rfl, rfl, rfl, rfl, by simp, by simp, fun j hj => ?_, fun j hj => ?_⟩
  · obtain rfl : j = 0 := Nat.lt_one_iff.1 hj
    exact ⟨hI, hm, rfl, h⟩
  · obtain rfl : j = 0 := Nat.lt_one_iff.1 hj
    exact ⟨hm1, rfl, o, h1, rfl⟩
theorem tks_two {C D Cm C' D' : Hd} {m m1 m2 : Me} {o : Option Me} (hI : DIn D) (hm : wfM m) (hm1 : wfM m1) (hm2 : wfM m2) (h : dTake D m = ⟨D', [m1, m2], 0⟩) (h1 : hTake C m1 = ⟨Cm, none, 0⟩) (h2 : hTake Cm m2 = ⟨C', o, 0⟩) : TkStep C D [m] C' D' o.toList := by
  refine ⟨fun j => if j = 0 then D else D', fun j => if j = 0 then [] else [m1, m2], fun j => if j = 0 then C else if j = 1 then Cm else C', fun j => if j = 0 then [] else if j = 1 then [] else o.toList, [m1, m2], rfl, rfl, rfl, rfl, rfl, rfl, rfl, rfl, by simp, by simp, fun j hj => ?_, fun j hj => ?_⟩
  · obtain rfl : j = 0 := Nat.lt_one_iff.1 hj
    exact ⟨hI, hm, rfl, h⟩
  · have hj2 : j < 2 := hj
    by_cases j0 : j = 0
    · subst j0
      exact ⟨hm1, rfl, none, h1, rfl⟩
    · obtain rfl : j = 1 := by omega
      exact ⟨hm2, rfl, o, h2, rfl⟩
/-- where the two are at the beginning of a turn, and what is said -/
structure TkIn (ac af ab bc bf bb : Int) (us wo ho : ByteArray) : Prop where
  a : tRight ac af ab = true
  b : tRight bc bf bb = true
  u : us.size + wo.size ≤ 1000
  zu : zeroX us = false
  zw : zeroX wo = false
  h : layOk 1 ho = true
def tkC (ac af ab bc bf bb : Int) (us wo ho : ByteArray) (t : Nat) : Hd :=
  if t = 0 then ⟨1, ac, af, ab, ⟨#[]⟩, ⟨#[]⟩, ⟨#[]⟩⟩ else if t = 1 then ⟨2, ac, af, ab, us, wo, ⟨#[]⟩⟩ else ⟨4, lessN bc ac, lessN bf af, min bb ab, us, wo, ho⟩
def tkD (ac af ab bc bf bb : Int) (us wo ho : ByteArray) (t : Nat) : Hd :=
  if t = 0 then ⟨1, bc, bf, bb, us, wo, ho⟩ else if t = 1 then ⟨2, bc, bf, bb, us, wo, ho⟩ else if t = 2 then ⟨3, lessN bc ac, lessN bf af, min bb ab, us, wo, ho⟩ else ⟨4, lessN bc ac, lessN bf af, min bb ab, us, wo, ho⟩
def tkS (ac af ab : Int) (t : Nat) : List Me := if t = 0 then [tkM0] else if t = 1 then [tkM2 ac af ab] else if t = 2 then [tkM5] else []
theorem tk_step {ac af ab bc bf bb : Int} {us wo ho : ByteArray} (H : TkIn ac af ab bc bf bb us wo ho) (t : Nat) : TkStep (tkC ac af ab bc bf bb us wo ho t) (tkD ac af ab bc bf bb us wo ho t) (tkS ac af ab t) (tkC ac af ab bc bf bb us wo ho (t + 1)) (tkD ac af ab bc bf bb us wo ho (t + 1)) (tkS ac af ab (t + 1)) := by
  have hu : us.size ≤ 1000 := by have := H.u; omega
  have hw : wo.size ≤ 1000 := by have := H.u; omega
  have hT := tk_agree H.a H.b
  by_cases h0 : t = 0
  · subst h0
    exact tks_one (o := some (tkM2 ac af ab)) ⟨(show (1 : Int) ≤ 1 ∧ (1 : Int) ≤ 6 by decide), H.b, hu, hw, H.h⟩ tk0_wf (start_wf hu hw) (talk_one bc bf bb us wo ho) (talk_two hu hw H.zu H.zw)
  by_cases h1 : t = 1
  · subst h1
    exact tks_two (o := some tkM5) ⟨(show (1 : Int) ≤ 2 ∧ (2 : Int) ≤ 6 by decide), H.b, hu, hw, H.h⟩ (tk2_right H.a).2 (tuned_right hT.right).2 (open_wfd H.h) (talk_three H.a H.b) (talk_four hT) (talk_five H.h)
  by_cases h2 : t = 2
  · subst h2
    exact tks_zero ⟨(show (1 : Int) ≤ 3 ∧ (3 : Int) ≤ 6 by decide), hT.right, hu, hw, H.h⟩ open_wf (talk_six _ _ _ us wo ho)
  have e1 : tkC ac af ab bc bf bb us wo ho (t + 1) = tkC ac af ab bc bf bb us wo ho t := by
    rw [tkC, tkC, if_neg (by omega), if_neg (by omega), if_neg h0, if_neg h1]
  have e2 : tkD ac af ab bc bf bb us wo ho (t + 1) = tkD ac af ab bc bf bb us wo ho t := by
    rw [tkD, tkD, if_neg (by omega), if_neg (by omega), if_neg (by omega), if_neg h0, if_neg h1, if_neg h2]
  have e3 : tkS ac af ab (t + 1) = [] := by rw [tkS, if_neg (by omega), if_neg (by omega), if_neg (by omega)]
  have e4 : tkS ac af ab t = [] := by rw [tkS, if_neg h0, if_neg h1, if_neg h2]
  rw [e1, e2, e3, e4]
  exact tks_none _ _
end Go.Proofs.YtkdiccedkjbpeaaGreatDoorR
