/-
  Several texts joined in one file: each says at its own head, below, what it proves, and its conditions.
-/
import Derived.Test.YtllgkohgcicbhaaGreatDoorZE
import Derived.Test.YtllgkohgcicbhaaGreatDoorRTabD1
import Derived.Test.YtllgkohgcicbhaaGreatDoorJRMVal
import Derived.Test.YtllgkohgcicbhaaGreatDoorZD
import Derived.Test.YtllgkohgcicbhaaGreatDoorZI
/-
  What the document's own Take of chapter 6 takes, place by place, as plain mathematics: it is what the letters tell, or a long text was too long. No condition.
-/
namespace Go.Proofs.YtllgkohgcicbhaaGreatDoor

/-- what is taken, whatever a long text's length is -/
def roE (c : UInt8) (s : ByteArray) : Int := if c = 76 then ttE 4 s else oE c s
def roV (c : UInt8) (s : ByteArray) : MV := if c = 76 then ⟨0, ttA 4 s⟩ else oV c s
def roR (c : UInt8) (s : ByteArray) : ByteArray := if c = 76 then ttR 4 s else oR c s

theorem layEr_app : ∀ (a b : List UInt8) (l m : List MV), a.length = l.length → layEr (a ++ b) (l ++ m) = if layEr a l = 0 then layEr b m else layEr a l
 | [], b, [], m, _ => by simp [layEr]
 | [], b, x :: l, m, h => by cases h
 | c :: a, b, [], m, h => by cases h
 | c :: a, b, x :: l, m, h => by
  rw [List.cons_append, List.cons_append, layEr, layEr, layEr_app a b l m (by simpa using h)]
  by_cases hv : vE c x = 0
  · simp [hv]
  · simp [hv]
/-- between places: what is left of the letters from j on, the values so far, the rest -/
def StT (ls : List UInt8) (s : ByteArray) (j : Nat) (acc : List MV) (R : ByteArray) : Prop :=
 acc.length = j ∧ j ≤ ls.length ∧ ((tk ls s = (tk (ls.drop j) R).map fun x => (acc ++ x.1, x.2)) ∨ (tk ls s = none ∧ ¬ layEr (ls.take j) acc = 0))
theorem StT.zero (ls : List UInt8) (s : ByteArray) : StT ls s 0 [] s := ⟨rfl, Nat.zero_le _, .inl (by cases h : tk ls s <;> simp [h])⟩
theorem roE_no {c : UInt8} {R : ByteArray} (h : ¬ roE c R = 0) : ¬ oE c R = 0 := by
 unfold roE at h
 by_cases hc : c = 76
 · subst hc
   rw [if_pos rfl] at h
   rw [oE, if_neg (by decide), if_pos rfl, if_neg h]
   exact h
 · rw [if_neg hc] at h; exact h
theorem StT.no {ls : List UInt8} {s : ByteArray} {j : Nat} {acc : List MV} {R : ByteArray} (h : StT ls s j acc R) (hj : j < ls.length) (h98 : ¬ ls[j] = 98) (hE : ¬ roE ls[j] R = 0) : tk ls s = none := by
 rcases h.2.2 with e | ⟨e, -⟩
 · rw [e, List.drop_eq_getElem_cons hj, tk_one h98, if_neg (roE_no hE)]
   rfl
 · exact e
theorem StT.one {ls : List UInt8} {s : ByteArray} {j : Nat} {acc : List MV} {R : ByteArray} (h : StT ls s j acc R) (hj : j < ls.length) (h98 : ¬ ls[j] = 98) (hE : roE ls[j] R = 0) : StT ls s (j + 1) (acc ++ [roV ls[j] R]) (roR ls[j] R) := by
 obtain ⟨h1, h2, h3⟩ := h
 refine ⟨by simp [h1], hj, ?_⟩
 have hl : (ls.take j).length = acc.length := by rw [List.length_take, h1]; omega
 have bad : ¬ layEr (ls.take j) acc = 0 → ¬ layEr (ls.take (j + 1)) (acc ++ [roV ls[j] R]) = 0 := fun hb => by
  rw [List.take_succ_eq_append_getElem hj, layEr_app _ _ _ _ hl, if_neg hb]
  exact hb
 rcases h3 with e | ⟨e, hb⟩
 · by_cases ho : oE ls[j] R = 0
   · left
     have hV : roV ls[j] R = oV ls[j] R := by
      unfold roV
      by_cases hc : ls[j] = 76
      · rw [if_pos hc]; rw [hc] at ho ⊢; rw [oV, if_neg (by decide), if_pos rfl, if_pos ho]
      · rw [if_neg hc]
     have hR : roR ls[j] R = oR ls[j] R := by
      unfold roR
      by_cases hc : ls[j] = 76
      · rw [if_pos hc]; rw [hc] at ho ⊢; rw [oR, if_neg (by decide), if_pos rfl, if_pos ho]
      · rw [if_neg hc]
     rw [hV, hR, e, List.drop_eq_getElem_cons hj, tk_one h98, if_pos ho]
     cases tk (ls.drop (j + 1)) (oR ls[j] R) <;> simp
   · right
     refine ⟨by rw [e, List.drop_eq_getElem_cons hj, tk_one h98, if_neg ho]; rfl, ?_⟩
     have hc : ls[j] = 76 := by
      by_cases hc : ls[j] = 76
      · exact hc
      · rw [roE, if_neg hc] at hE; exact absurd hE ho
     have hbig : 131072 < (ttA 4 R).size := by
      rw [roE, if_pos hc] at hE
      rw [hc, oE, if_neg (by decide), if_pos rfl, if_pos hE] at ho
      by_cases hb : 131072 < (ttA 4 R).size
      · exact hb
      · rw [if_neg hb] at ho; exact absurd rfl ho
     rw [List.take_succ_eq_append_getElem hj, layEr_app _ _ _ _ hl]
     by_cases h0 : layEr (ls.take j) acc = 0
     · rw [if_pos h0, hc]
       have hv : vE 76 (roV 76 R) = 4 := by
        rw [roV, if_pos rfl, vE, if_neg (by decide), if_neg (by decide), if_pos rfl]
        dsimp only
        rw [if_pos hbig]
       rw [layEr, hv]
       decide
     · rw [if_neg h0]; exact h0
 · exact .inr ⟨by rw [e], bad hb⟩
theorem StT.noBits {ls : List UInt8} {s : ByteArray} {j : Nat} {acc : List MV} {R : ByteArray} (h : StT ls s j acc R) (hj : j < ls.length) (h98 : ls[j] = 98) (hE : ¬ tbE R ((nb (ls.drop j) : Nat) : Int) = 0) : tk ls s = none := by
 have hn : nb (ls.drop j) = nb (ls.drop (j + 1)) + 1 := by rw [List.drop_eq_getElem_cons hj, nb, if_pos h98]
 rw [hn] at hE
 rcases h.2.2 with e | ⟨e, -⟩
 · rw [e, List.drop_eq_getElem_cons hj, h98, tk_bits, if_neg hE]
   rfl
 · exact e
theorem StT.bits {ls : List UInt8} {s : ByteArray} {j : Nat} {acc : List MV} {R : ByteArray} (h : StT ls s j acc R) (hj : j < ls.length) (h98 : ls[j] = 98) (hE : tbE R ((nb (ls.drop j) : Nat) : Int) = 0) :
 StT ls s (j + nb (ls.drop j)) (acc ++ (bitsOf R (nb (ls.drop j))).map bitV) (tbR R ((nb (ls.drop j) : Nat) : Int)) := by
 have hn : nb (ls.drop j) = nb (ls.drop (j + 1)) + 1 := by rw [List.drop_eq_getElem_cons hj, nb, if_pos h98]
 have hle := nb_le (ls.drop j)
 rw [List.length_drop] at hle
 obtain ⟨h1, h2, h3⟩ := h
 refine ⟨by simp [h1, bitsOf], by omega, ?_⟩
 have hl : (ls.take j).length = acc.length := by rw [List.length_take, h1]; omega
 rcases h3 with e | ⟨e, hb⟩
 · left
   have hE' := hE
   rw [hn] at hE'
   rw [e, List.drop_eq_getElem_cons hj, h98, tk_bits, if_pos hE', List.drop_drop]
   have e1 : j + 1 + nb (ls.drop (j + 1)) = j + (nb (ls.drop (j + 1)) + 1) := by omega
   rw [← h98, ← List.drop_eq_getElem_cons hj, hn, e1]
   cases tk (ls.drop (j + (nb (ls.drop (j + 1)) + 1))) (tbR R ((nb (ls.drop (j + 1)) + 1 : Nat) : Int)) <;> simp
 · right
   refine ⟨e, ?_⟩
   rw [List.take_add, layEr_app _ _ _ _ hl, if_neg hb]
   exact hb
/-- at the end -/
theorem StT.fin {ls : List UInt8} {s : ByteArray} {acc : List MV} {R : ByteArray} (h : StT ls s ls.length acc R) (h64 : ls.length ≤ 64) :
 acc.length = ls.length ∧ ((tk ls s = some (acc, R) ∧ layEr ls acc = 0) ∨ (tk ls s = none ∧ ¬ layEr ls acc = 0)) := by
 obtain ⟨h1, -, h3⟩ := h
 refine ⟨h1, ?_⟩
 rcases h3 with e | ⟨e, hb⟩
 · left
   rw [List.drop_length, tk_nil] at e
   have e2 : tk ls s = some (acc, R) := by rw [e]; simp
   exact ⟨e2, (tk_forth ls.length ls s acc R (Nat.le_refl _) h64 e2).2.1⟩
 · right
   rw [List.take_length] at hb
   exact ⟨e, hb⟩
/-- whether a place lies within bits that were taken -/
def inRun (ls : List UInt8) (k : Nat) : Nat := match k with
 | 0 => 0
 | k + 1 => if ls[k]? = some 98 then nb (ls.drop (k + 1)) else 0
theorem inRun_out {ls : List UInt8} {k : Nat} (hk : k < ls.length) (h : ¬ ls[k] = 98) : inRun ls k = 0 ∧ inRun ls (k + 1) = 0 := by
 constructor
 · cases k with
   | zero => rfl
   | succ k =>
    rw [inRun]
    split
    · rw [List.drop_eq_getElem_cons hk, nb, if_neg h]
    · rfl
 · rw [inRun, if_neg]
   rw [List.getElem?_eq_getElem hk]
   simpa using h
theorem inRun_in {ls : List UInt8} {k : Nat} (hk : k + 1 < ls.length) (h : ls[k + 1] = 98) (h0 : ls[k]'(by omega) = 98) : k + 1 + 1 + inRun ls (k + 1 + 1) = k + 1 + inRun ls (k + 1) := by
 rw [inRun, if_pos (by rw [List.getElem?_eq_getElem hk, h])]
 rw [inRun, if_pos (by rw [List.getElem?_eq_getElem (by omega), h0])]
 have : nb (ls.drop (k + 1)) = nb (ls.drop (k + 1 + 1)) + 1 := by rw [List.drop_eq_getElem_cons hk, nb, if_pos h]
 omega
theorem inRun_new {ls : List UInt8} {k : Nat} (hk : k < ls.length) (h : ls[k] = 98) : k + 1 + inRun ls (k + 1) = k + nb (ls.drop k) := by
 rw [inRun, if_pos (by rw [List.getElem?_eq_getElem hk, h])]
 have : nb (ls.drop k) = nb (ls.drop (k + 1)) + 1 := by rw [List.drop_eq_getElem_cons hk, nb, if_pos h]
 omega
theorem inRun_first {ls : List UInt8} {k : Nat} (h : ∀ h : k - 1 < ls.length, k = 0 ∨ ¬ ls[k - 1] = 98) (hk : k ≤ ls.length) : inRun ls k = 0 := by
 cases k with
 | zero => rfl
 | succ k =>
  rw [inRun, if_neg]
  rw [List.getElem?_eq_getElem (by omega)]
  rcases h (by omega) with h | h
  · cases h
  · simpa using h
theorem inRun_end {ls : List UInt8} : inRun ls ls.length = 0 := by
 cases h : ls.length with
 | zero => rfl
 | succ k =>
  rw [inRun]
  split
  · rw [List.drop_of_length_le (by omega)]; rfl
  · rfl
/-- how far a run goes -/
theorem nb_in {ls : List UInt8} : ∀ {k n : Nat}, n < nb (ls.drop k) → ∃ h : k + n < ls.length, ls[k + n] = 98
 | k, n, h => by
  by_cases hk : k < ls.length
  · rw [List.drop_eq_getElem_cons hk, nb] at h
    by_cases h98 : ls[k] = 98
    · rw [if_pos h98] at h
      cases n with
      | zero => exact ⟨hk, h98⟩
      | succ n =>
       obtain ⟨h1, h2⟩ := nb_in (ls := ls) (k := k + 1) (n := n) (by omega)
       have e : k + 1 + n = k + (n + 1) := by omega
       exact ⟨by omega, by simpa [e] using h2⟩
    · rw [if_neg h98] at h; omega
  · rw [List.drop_of_length_le (by omega)] at h; cases h
theorem nb_out {ls : List UInt8} : ∀ {k : Nat} (h : k + nb (ls.drop k) < ls.length), ¬ ls[k + nb (ls.drop k)] = 98 := by
 intro k
 induction h : ls.length - k generalizing k with
 | zero => intro h2; omega
 | succ d ih =>
  intro h2
  have hk : k < ls.length := by omega
  by_cases h98 : ls[k] = 98
  · have e : nb (ls.drop k) = nb (ls.drop (k + 1)) + 1 := by rw [List.drop_eq_getElem_cons hk, nb, if_pos h98]
    have := ih (k := k + 1) (by omega) (by omega)
    have e2 : k + nb (ls.drop k) = k + 1 + nb (ls.drop (k + 1)) := by omega
    simpa [e2] using this
  · have e : nb (ls.drop k) = 0 := by rw [List.drop_eq_getElem_cons hk, nb, if_neg h98]
    simpa [e] using h98
theorem mr_extract (s : ByteArray) (a b : Nat) : (s.extract a b).data.toList = (s.data.toList.drop a).take (b - a) := by
 rw [ByteArray.data_extract, Array.toList_extract, List.extract_eq_take_drop]
theorem mr_tail (s : ByteArray) (a : Nat) : (s.extract a s.size).data.toList = s.data.toList.drop a := by
 rw [mr_extract, List.take_of_length_le]
 rw [List.length_drop, ba_len]
 omega
theorem mr_V {s : ByteArray} {n : Int} (h : takeOk s n = true) : takeV s n = (takeL (s.data.toList.take n.toNat) : Int) := by rw [takeV, if_pos h]
theorem mr_R {s : ByteArray} {n : Int} (h : takeOk s n = true) : (takeR s n).data.toList = s.data.toList.drop n.toNat := by rw [takeR, if_pos h, mr_tail]
theorem mr_ok (s : ByteArray) (n : Int) (hn : isW n = true) : takeOk s n = decide (n ≤ s.size) := by simp [takeOk, hn]
theorem mr_two (a b : UInt8) : takeL [a, b] = 256 * a.toNat + b.toNat := by simp [takeL]; omega
theorem mr_twoAt (l : List UInt8) (k : Nat) (h : k + 1 < l.length) : takeL ((l.drop k).take 2) = 256 * (l[k]'(by omega)).toNat + (l[k + 1]'h).toNat := by
 rw [List.drop_eq_getElem_cons (show k < l.length by omega), List.take_succ_cons, List.drop_eq_getElem_cons h, List.take_succ_cons, List.take_zero, mr_two]
theorem mr_get (s : ByteArray) (k : Nat) (h : k < s.size) : s.data.toList[k]'(by rw [ba_len]; exact h) = s[k]'h := by simp; rfl
theorem tm_whole {s : ByteArray} (h : 4 ≤ s.size) : tm s = tmOf (256 * ((s[0]'(by omega)).toNat : Int) + ((s[1]'(by omega)).toNat : Int)) (256 * ((s[2]'(by omega)).toNat : Int) + ((s[3]'(by omega)).toNat : Int)) (s.extract 4 s.size) := by
 have hL := ba_len s
 have o1 : takeOk s 2 = true := by rw [mr_ok s 2 (by decide)]; simp; omega
 have l1 : (takeR s 2).data.toList = s.data.toList.drop 2 := mr_R o1
 have z1 : (takeR s 2).size = s.size - 2 := by rw [← ba_len, l1, List.length_drop, hL]
 have o2 : takeOk (takeR s 2) 2 = true := by rw [mr_ok _ 2 (by decide), z1]; simp; omega
 have l2 : (takeR (takeR s 2) 2).data.toList = s.data.toList.drop 4 := by
  have h := mr_R o2
  rw [l1, List.drop_drop] at h
  exact h
 have g0 := mr_get s 0 (by omega)
 have g1 := mr_get s 1 (by omega)
 have g2 := mr_get s 2 (by omega)
 have g3 := mr_get s 3 (by omega)
 have v1 : takeV s 2 = 256 * ((s[0]'(by omega)).toNat : Int) + ((s[1]'(by omega)).toNat : Int) := by
  have h := mr_twoAt s.data.toList 0 (by omega)
  rw [mr_V o1, show (2 : Int).toNat = 2 from rfl]
  simp only [Nat.zero_add] at h
  rw [List.drop_zero] at h
  rw [h, ← g0, ← g1]
  omega
 have v2 : takeV (takeR s 2) 2 = 256 * ((s[2]'(by omega)).toNat : Int) + ((s[3]'(by omega)).toNat : Int) := by
  have h := mr_twoAt s.data.toList 2 (by omega)
  simp only [Nat.reduceAdd] at h
  rw [mr_V o2, show (2 : Int).toNat = 2 from rfl, l1, h, ← g2, ← g3]
  omega
 have e : takeR (takeR s 2) 2 = s.extract 4 s.size := ba_ext (by rw [l2, mr_tail])
 rw [tm, if_pos (takeE_of o2), v1, v2, e]
theorem tm_short {s : ByteArray} (h : s.size < 4) : tm s = none := by
 rw [tm, if_neg]
 intro he
 have k2 := takeOk_of he
 have h2 := (takeOk_w k2).2
 have k1 : takeOk s 2 = true := by
  cases hk : takeOk s 2
  · rw [takeR, if_neg (by rw [hk]; decide)] at h2
    exact absurd h2 (by decide)
  · rfl
 have r1 := takeR_size k1
 omega
end Go.Proofs.YtllgkohgcicbhaaGreatDoor

/-
  The document's own take of chapter 6 takes the value that bytes begin with, by its letter, as the plain functions say; nothing that was there is changed. Conditions: the letter is one of chapter 5's and tells no bit; texts of fewer than 2^62 bytes.
-/
namespace Go.Proofs.YtllgkohgcicbhaaGreatDoor
open Go.RowKit

set_option maxRecDepth 100000 in
set_option maxHeartbeats 1000000 in
theorem rtake6_111 (s : ByteArray) (w : World) :
 Calls Tryz.prog 42 #[.int .u8 ((111 : UInt8).toNat : Nat), .string s] w fun e w' => e = .returned (.tuple #[encV (roV 111 s), .string (roR 111 s), .int .i64 (roE 111 s)]) ∧ Below w.heap.size w w' := by
 have hb0 : Below w.heap.size w (w.alloc (.cells #[.int .u64 0, .string ⟨#[]⟩] 58)) := (Below.refl _ w).alloc (Nat.le_refl _) _
 have hx := Bx.new w 58 [.int .u64 0, .string ⟨#[]⟩]
 have hr := rwidth_any 111 (w.alloc (.cells #[.int .u64 0, .string ⟨#[]⟩] 58)) rfl
 rw [show widC 111 = 1 from rfl] at hr
 have hT := rtake_any s 1 (w.alloc (.cells #[.int .u64 0, .string ⟨#[]⟩] 58))
 have HF : Hid (roV 111 s = ⟨takeV s 1, ⟨#[]⟩⟩) := Lib.hid rfl
 have H2 : roR 111 s = takeR s 1 := rfl
 have H3 : roE 111 s = takeE s 1 := rfl
 rw [H2, H3]
 clear H2 H3
 generalize takeV s 1 = tv at hT HF
 generalize takeR s 1 = R at hT ⊢
 generalize takeE s 1 = E at hT ⊢
 generalize roV 111 s = V at HF ⊢
 go_enter Tryz.func42, Tryz.ntmps42
 go_wp2_with fail
 refine hr.mono ?_
 clear hr
 rintro e w1 ⟨rfl, rfl⟩
 go_wp2_with fail
 refine hT.mono ?_
 rintro e w1 ⟨rfl, hb1⟩
 have hx1 := hx.kept (Below.mono hb1 (by simp))
 have hB1 := hb0.trans (hb1.mono hb0.size)
 obtain ⟨a0, f0, a1, f1, bR⟩ := hx1.store2 (.int .u64 tv) (.string ⟨#[]⟩)
 have hB3 := below_store2 hB1 (B := w.heap.size) (Nat.le_refl _) (.int .u64 tv) (.string ⟨#[]⟩)
 clear hT hx hb1 hb0 hx1 hB1
 go_wp2
 have y0 := bR.cell 0 (by simp)
 have y1 := bR.cell 1 (by simp)
 dsimp only [List.getElem_cons_zero, List.getElem_cons_succ] at y0 y1
 refine bodyPost_ret (v := .tuple #[encV V, .string R, .int .i64 E]) ?_ rfl ⟨rfl, hB3⟩
 rw [results_ctt rfl, HF.out]
 simp [asAddr, Result.andThen, go_sem, y0, y1, encV]

set_option maxRecDepth 100000 in
set_option maxHeartbeats 1000000 in
theorem rtake6_115 (s : ByteArray) (w : World) :
 Calls Tryz.prog 42 #[.int .u8 ((115 : UInt8).toNat : Nat), .string s] w fun e w' => e = .returned (.tuple #[encV (roV 115 s), .string (roR 115 s), .int .i64 (roE 115 s)]) ∧ Below w.heap.size w w' := by
 have hb0 : Below w.heap.size w (w.alloc (.cells #[.int .u64 0, .string ⟨#[]⟩] 58)) := (Below.refl _ w).alloc (Nat.le_refl _) _
 have hx := Bx.new w 58 [.int .u64 0, .string ⟨#[]⟩]
 have hr := rwidth_any 115 (w.alloc (.cells #[.int .u64 0, .string ⟨#[]⟩] 58)) rfl
 rw [show widC 115 = 2 from rfl] at hr
 have hT := rtake_any s 2 (w.alloc (.cells #[.int .u64 0, .string ⟨#[]⟩] 58))
 have HF : Hid (roV 115 s = ⟨takeV s 2, ⟨#[]⟩⟩) := Lib.hid rfl
 have H2 : roR 115 s = takeR s 2 := rfl
 have H3 : roE 115 s = takeE s 2 := rfl
 rw [H2, H3]
 clear H2 H3
 generalize takeV s 2 = tv at hT HF
 generalize takeR s 2 = R at hT ⊢
 generalize takeE s 2 = E at hT ⊢
 generalize roV 115 s = V at HF ⊢
 go_enter Tryz.func42, Tryz.ntmps42
 go_wp2_with fail
 refine hr.mono ?_
 clear hr
 rintro e w1 ⟨rfl, rfl⟩
 go_wp2_with fail
 refine hT.mono ?_
 rintro e w1 ⟨rfl, hb1⟩
 have hx1 := hx.kept (Below.mono hb1 (by simp))
 have hB1 := hb0.trans (hb1.mono hb0.size)
 obtain ⟨a0, f0, a1, f1, bR⟩ := hx1.store2 (.int .u64 tv) (.string ⟨#[]⟩)
 have hB3 := below_store2 hB1 (B := w.heap.size) (Nat.le_refl _) (.int .u64 tv) (.string ⟨#[]⟩)
 clear hT hx hb1 hb0 hx1 hB1
 go_wp2
 have y0 := bR.cell 0 (by simp)
 have y1 := bR.cell 1 (by simp)
 dsimp only [List.getElem_cons_zero, List.getElem_cons_succ] at y0 y1
 refine bodyPost_ret (v := .tuple #[encV V, .string R, .int .i64 E]) ?_ rfl ⟨rfl, hB3⟩
 rw [results_ctt rfl, HF.out]
 simp [asAddr, Result.andThen, go_sem, y0, y1, encV]

set_option maxRecDepth 100000 in
set_option maxHeartbeats 1000000 in
theorem rtake6_108 (s : ByteArray) (w : World) :
 Calls Tryz.prog 42 #[.int .u8 ((108 : UInt8).toNat : Nat), .string s] w fun e w' => e = .returned (.tuple #[encV (roV 108 s), .string (roR 108 s), .int .i64 (roE 108 s)]) ∧ Below w.heap.size w w' := by
 have hb0 : Below w.heap.size w (w.alloc (.cells #[.int .u64 0, .string ⟨#[]⟩] 58)) := (Below.refl _ w).alloc (Nat.le_refl _) _
 have hx := Bx.new w 58 [.int .u64 0, .string ⟨#[]⟩]
 have hr := rwidth_any 108 (w.alloc (.cells #[.int .u64 0, .string ⟨#[]⟩] 58)) rfl
 rw [show widC 108 = 4 from rfl] at hr
 have hT := rtake_any s 4 (w.alloc (.cells #[.int .u64 0, .string ⟨#[]⟩] 58))
 have HF : Hid (roV 108 s = ⟨takeV s 4, ⟨#[]⟩⟩) := Lib.hid rfl
 have H2 : roR 108 s = takeR s 4 := rfl
 have H3 : roE 108 s = takeE s 4 := rfl
 rw [H2, H3]
 clear H2 H3
 generalize takeV s 4 = tv at hT HF
 generalize takeR s 4 = R at hT ⊢
 generalize takeE s 4 = E at hT ⊢
 generalize roV 108 s = V at HF ⊢
 go_enter Tryz.func42, Tryz.ntmps42
 go_wp2_with fail
 refine hr.mono ?_
 clear hr
 rintro e w1 ⟨rfl, rfl⟩
 go_wp2_with fail
 refine hT.mono ?_
 rintro e w1 ⟨rfl, hb1⟩
 have hx1 := hx.kept (Below.mono hb1 (by simp))
 have hB1 := hb0.trans (hb1.mono hb0.size)
 obtain ⟨a0, f0, a1, f1, bR⟩ := hx1.store2 (.int .u64 tv) (.string ⟨#[]⟩)
 have hB3 := below_store2 hB1 (B := w.heap.size) (Nat.le_refl _) (.int .u64 tv) (.string ⟨#[]⟩)
 clear hT hx hb1 hb0 hx1 hB1
 go_wp2
 have y0 := bR.cell 0 (by simp)
 have y1 := bR.cell 1 (by simp)
 dsimp only [List.getElem_cons_zero, List.getElem_cons_succ] at y0 y1
 refine bodyPost_ret (v := .tuple #[encV V, .string R, .int .i64 E]) ?_ rfl ⟨rfl, hB3⟩
 rw [results_ctt rfl, HF.out]
 simp [asAddr, Result.andThen, go_sem, y0, y1, encV]

set_option maxRecDepth 100000 in
set_option maxHeartbeats 1000000 in
theorem rtake6_113 (s : ByteArray) (w : World) :
 Calls Tryz.prog 42 #[.int .u8 ((113 : UInt8).toNat : Nat), .string s] w fun e w' => e = .returned (.tuple #[encV (roV 113 s), .string (roR 113 s), .int .i64 (roE 113 s)]) ∧ Below w.heap.size w w' := by
 have hb0 : Below w.heap.size w (w.alloc (.cells #[.int .u64 0, .string ⟨#[]⟩] 58)) := (Below.refl _ w).alloc (Nat.le_refl _) _
 have hx := Bx.new w 58 [.int .u64 0, .string ⟨#[]⟩]
 have hr := rwidth_any 113 (w.alloc (.cells #[.int .u64 0, .string ⟨#[]⟩] 58)) rfl
 rw [show widC 113 = 8 from rfl] at hr
 have hT := rtake_any s 8 (w.alloc (.cells #[.int .u64 0, .string ⟨#[]⟩] 58))
 have HF : Hid (roV 113 s = ⟨takeV s 8, ⟨#[]⟩⟩) := Lib.hid rfl
 have H2 : roR 113 s = takeR s 8 := rfl
 have H3 : roE 113 s = takeE s 8 := rfl
 rw [H2, H3]
 clear H2 H3
 generalize takeV s 8 = tv at hT HF
 generalize takeR s 8 = R at hT ⊢
 generalize takeE s 8 = E at hT ⊢
 generalize roV 113 s = V at HF ⊢
 go_enter Tryz.func42, Tryz.ntmps42
 go_wp2_with fail
 refine hr.mono ?_
 clear hr
 rintro e w1 ⟨rfl, rfl⟩
 go_wp2_with fail
 refine hT.mono ?_
 rintro e w1 ⟨rfl, hb1⟩
 have hx1 := hx.kept (Below.mono hb1 (by simp))
 have hB1 := hb0.trans (hb1.mono hb0.size)
 obtain ⟨a0, f0, a1, f1, bR⟩ := hx1.store2 (.int .u64 tv) (.string ⟨#[]⟩)
 have hB3 := below_store2 hB1 (B := w.heap.size) (Nat.le_refl _) (.int .u64 tv) (.string ⟨#[]⟩)
 clear hT hx hb1 hb0 hx1 hB1
 go_wp2
 have y0 := bR.cell 0 (by simp)
 have y1 := bR.cell 1 (by simp)
 dsimp only [List.getElem_cons_zero, List.getElem_cons_succ] at y0 y1
 refine bodyPost_ret (v := .tuple #[encV V, .string R, .int .i64 E]) ?_ rfl ⟨rfl, hB3⟩
 rw [results_ctt rfl, HF.out]
 simp [asAddr, Result.andThen, go_sem, y0, y1, encV]

set_option maxRecDepth 100000 in
set_option maxHeartbeats 1000000 in
theorem rtake6_83 (s : ByteArray) (w : World) (hs : s.size < 4611686018427387904) :
 Calls Tryz.prog 42 #[.int .u8 ((83 : UInt8).toNat : Nat), .string s] w fun e w' => e = .returned (.tuple #[encV (roV 83 s), .string (roR 83 s), .int .i64 (roE 83 s)]) ∧ Below w.heap.size w w' := by
 have hb0 : Below w.heap.size w (w.alloc (.cells #[.int .u64 0, .string ⟨#[]⟩] 58)) := (Below.refl _ w).alloc (Nat.le_refl _) _
 have hx := Bx.new w 58 [.int .u64 0, .string ⟨#[]⟩]
 have hr := rwidth_any 83 (w.alloc (.cells #[.int .u64 0, .string ⟨#[]⟩] 58)) rfl
 rw [show widC 83 = 0 from rfl] at hr
 have hT := rtakeShort_any s (w.alloc (.cells #[.int .u64 0, .string ⟨#[]⟩] 58)) hs
 have HF : Hid (roV 83 s = ⟨0, ttA 1 s⟩) := Lib.hid rfl
 have H2 : roR 83 s = ttR 1 s := rfl
 have H3 : roE 83 s = ttE 1 s := rfl
 rw [H2, H3]
 clear H2 H3
 generalize ttA 1 s = tv at hT HF
 generalize ttR 1 s = R at hT ⊢
 generalize ttE 1 s = E at hT ⊢
 generalize roV 83 s = V at HF ⊢
 go_enter Tryz.func42, Tryz.ntmps42
 go_wp2_with fail
 refine hr.mono ?_
 clear hr
 rintro e w1 ⟨rfl, rfl⟩
 go_wp2_with fail
 refine hT.mono ?_
 rintro e w1 ⟨rfl, hb1⟩
 have hx1 := hx.kept (Below.mono hb1 (by simp))
 have hB1 := hb0.trans (hb1.mono hb0.size)
 obtain ⟨a0, f0, a1, f1, bR⟩ := hx1.store2 (.int .u64 0) (.string tv)
 have hB3 := below_store2 hB1 (B := w.heap.size) (Nat.le_refl _) (.int .u64 0) (.string tv)
 clear hT hx hb1 hb0 hx1 hB1
 go_wp2
 have y0 := bR.cell 0 (by simp)
 have y1 := bR.cell 1 (by simp)
 dsimp only [List.getElem_cons_zero, List.getElem_cons_succ] at y0 y1
 refine bodyPost_ret (v := .tuple #[encV V, .string R, .int .i64 E]) ?_ rfl ⟨rfl, hB3⟩
 rw [results_ctt rfl, HF.out]
 simp [asAddr, Result.andThen, go_sem, y0, y1, encV]

set_option maxRecDepth 100000 in
set_option maxHeartbeats 1000000 in
theorem rtake6_76 (s : ByteArray) (w : World) (hs : s.size < 4611686018427387904) :
 Calls Tryz.prog 42 #[.int .u8 ((76 : UInt8).toNat : Nat), .string s] w fun e w' => e = .returned (.tuple #[encV (roV 76 s), .string (roR 76 s), .int .i64 (roE 76 s)]) ∧ Below w.heap.size w w' := by
 have hb0 : Below w.heap.size w (w.alloc (.cells #[.int .u64 0, .string ⟨#[]⟩] 58)) := (Below.refl _ w).alloc (Nat.le_refl _) _
 have hx := Bx.new w 58 [.int .u64 0, .string ⟨#[]⟩]
 have hr := rwidth_any 76 (w.alloc (.cells #[.int .u64 0, .string ⟨#[]⟩] 58)) rfl
 rw [show widC 76 = 0 from rfl] at hr
 have hT := rtakeLong_any s (w.alloc (.cells #[.int .u64 0, .string ⟨#[]⟩] 58)) hs
 have HF : Hid (roV 76 s = ⟨0, ttA 4 s⟩) := Lib.hid rfl
 have H2 : roR 76 s = ttR 4 s := rfl
 have H3 : roE 76 s = ttE 4 s := rfl
 rw [H2, H3]
 clear H2 H3
 generalize ttA 4 s = tv at hT HF
 generalize ttR 4 s = R at hT ⊢
 generalize ttE 4 s = E at hT ⊢
 generalize roV 76 s = V at HF ⊢
 go_enter Tryz.func42, Tryz.ntmps42
 go_wp2_with fail
 refine hr.mono ?_
 clear hr
 rintro e w1 ⟨rfl, rfl⟩
 go_wp2_with fail
 refine hT.mono ?_
 rintro e w1 ⟨rfl, hb1⟩
 have hx1 := hx.kept (Below.mono hb1 (by simp))
 have hB1 := hb0.trans (hb1.mono hb0.size)
 obtain ⟨a0, f0, a1, f1, bR⟩ := hx1.store2 (.int .u64 0) (.string tv)
 have hB3 := below_store2 hB1 (B := w.heap.size) (Nat.le_refl _) (.int .u64 0) (.string tv)
 clear hT hx hb1 hb0 hx1 hB1
 go_wp2
 have y0 := bR.cell 0 (by simp)
 have y1 := bR.cell 1 (by simp)
 dsimp only [List.getElem_cons_zero, List.getElem_cons_succ] at y0 y1
 refine bodyPost_ret (v := .tuple #[encV V, .string R, .int .i64 E]) ?_ rfl ⟨rfl, hB3⟩
 rw [results_ctt rfl, HF.out]
 simp [asAddr, Result.andThen, go_sem, y0, y1, encV]

set_option maxRecDepth 100000 in
set_option maxHeartbeats 1000000 in
theorem rtake6_84 (s : ByteArray) (w : World) (hs : s.size < 4611686018427387904) :
 Calls Tryz.prog 42 #[.int .u8 ((84 : UInt8).toNat : Nat), .string s] w fun e w' => e = .returned (.tuple #[encV (roV 84 s), .string (roR 84 s), .int .i64 (roE 84 s)]) ∧ Below w.heap.size w w' := by
 have hb0 : Below w.heap.size w (w.alloc (.cells #[.int .u64 0, .string ⟨#[]⟩] 58)) := (Below.refl _ w).alloc (Nat.le_refl _) _
 have hx := Bx.new w 58 [.int .u64 0, .string ⟨#[]⟩]
 have hr := rwidth_any 84 (w.alloc (.cells #[.int .u64 0, .string ⟨#[]⟩] 58)) rfl
 rw [show widC 84 = 0 from rfl] at hr
 have hT := rtabTake_any s (w.alloc (.cells #[.int .u64 0, .string ⟨#[]⟩] 58)) hs
 have HF : Hid (roV 84 s = ⟨0, takenA s (nest true s 32)⟩) := Lib.hid rfl
 have H2 : roR 84 s = takenB (nest true s 32) := rfl
 have H3 : roE 84 s = (nest true s 32).err := rfl
 rw [H2, H3]
 clear H2 H3
 generalize takenA s (nest true s 32) = tv at hT HF
 generalize takenB (nest true s 32) = R at hT ⊢
 generalize (nest true s 32).err = E at hT ⊢
 generalize roV 84 s = V at HF ⊢
 go_enter Tryz.func42, Tryz.ntmps42
 go_wp2_with fail
 refine hr.mono ?_
 clear hr
 rintro e w1 ⟨rfl, rfl⟩
 go_wp2_with fail
 refine hT.mono ?_
 rintro e w1 ⟨rfl, hb1⟩
 have hx1 := hx.kept (Below.mono hb1 (by simp))
 have hB1 := hb0.trans (hb1.mono hb0.size)
 obtain ⟨a0, f0, a1, f1, bR⟩ := hx1.store2 (.int .u64 0) (.string tv)
 have hB3 := below_store2 hB1 (B := w.heap.size) (Nat.le_refl _) (.int .u64 0) (.string tv)
 clear hT hx hb1 hb0 hx1 hB1
 go_wp2
 have y0 := bR.cell 0 (by simp)
 have y1 := bR.cell 1 (by simp)
 dsimp only [List.getElem_cons_zero, List.getElem_cons_succ] at y0 y1
 refine bodyPost_ret (v := .tuple #[encV V, .string R, .int .i64 E]) ?_ rfl ⟨rfl, hB3⟩
 rw [results_ctt rfl, HF.out]
 simp [asAddr, Result.andThen, go_sem, y0, y1, encV]

theorem rtake6_any (c : UInt8) (s : ByteArray) (w : World) (hc : isLet c = true) (h98 : ¬ c = 98) (hs : s.size < 4611686018427387904) :
 Calls Tryz.prog 42 #[.int .u8 (c.toNat : Nat), .string s] w fun e w' => e = .returned (.tuple #[encV (roV c s), .string (roR c s), .int .i64 (roE c s)]) ∧ Below w.heap.size w w' := by
 rcases let_cases hc with rfl | rfl | rfl | rfl | rfl | rfl | rfl | rfl
 · exact absurd rfl h98
 · exact rtake6_76 s w hs
 · exact rtake6_83 s w hs
 · exact rtake6_84 s w hs
 · exact rtake6_108 s w
 · exact rtake6_111 s w
 · exact rtake6_113 s w
 · exact rtake6_115 s w
end Go.Proofs.YtllgkohgcicbhaaGreatDoor
