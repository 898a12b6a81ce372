/-
  Two properties that are set hang on no order, as plain mathematics. No condition.
-/
import Derived.Test.YtjpldfkhacchdaaDoorPSetL
namespace Go.Proofs.YtjpldfkhacchdaaDoor

theorem lists_eq : ∀ (ws : List (Fin 14)) (l m : List MV), ws.Nodup → ws.length = l.length → ws.length = m.length → (∀ x ∈ ws, gotL ws l (x.1 : Int) = gotL ws m (x.1 : Int)) → l = m
  | [], [], [], _, _, _, _ => rfl
  | [], _ :: _, _, _, h, _, _ => by cases h
  | [], _, _ :: _, _, _, h, _ => by cases h
  | _ :: _, [], _, _, h, _, _ => by cases h
  | _ :: _, _, [], _, _, h, _ => by cases h
  | w :: ws, a :: l, b :: m, hn, hl, hm, hg => by
    have hhd : ∀ (c : MV) (k : List MV), gotL (w :: ws) (c :: k) (w.1 : Int) = some c := fun c k => by
      rw [gotL, List.zip_cons_cons, List.find?_cons]
      have hb : ((w.1 : Int) == (w.1 : Int)) = true := by simp
      simp only [hb, Option.map_some]
    have htl : ∀ (c : MV) (k : List MV) (x : Fin 14), x ∈ ws → gotL (w :: ws) (c :: k) (x.1 : Int) = gotL ws k (x.1 : Int) := fun c k x hx => by
      rw [gotL, List.zip_cons_cons, List.find?_cons]
      have hne : w ≠ x := fun e => (List.nodup_cons.1 hn).1 (e ▸ hx)
      have hb : ((w.1 : Int) == (x.1 : Int)) = false := by
        simp only [beq_eq_false_iff_ne, ne_eq, Int.natCast_inj]
        exact fun e => hne (Fin.ext e)
      simp only [hb]
      rfl
    have h1 := hg w List.mem_cons_self
    rw [hhd, hhd] at h1
    cases h1
    rw [lists_eq ws l m (List.nodup_cons.1 hn).2 (by simpa using hl) (by simpa using hm) (fun x hx => by
      have h2 := hg x (List.mem_cons_of_mem _ hx)
      rwa [htl _ _ _ hx, htl _ _ _ hx] at h2)]
theorem wh_nodup (f : Int) : (wh f).Nodup := List.Pairwise.filter _ (by decide)
theorem put_two {h : He} (hh : wfH h) (he : hE h = 0) {p q : Fin 14} (hpq : p ≠ q) {v w : MV} (hv : vE (pLet p) v = 0) (hw : vE (pLet q) w = 0) (hwv : wfV v) (hww : wfV w) :
    putH (putH h p v) q w = putH (putH h q w) p v := by
  have f1 := (hE_parts he).2.1.2.1
  have a1 := put_right hh he p hv
  have a2 := put_wf hh p hwv f1
  have b1 := put_right hh he q hw
  have b2 := put_wf hh q hww f1
  have a3 := put_right a2 a1 q hw
  have b3 := put_right b2 b1 p hv
  have hf : (putH (putH h p v) q w).f = (putH (putH h q w) p v).f := by
    show (((((h.f.toNat ||| flagN p : Nat) : Int).toNat ||| flagN q) : Nat) : Int) = (((((h.f.toNat ||| flagN q : Nat) : Int).toNat ||| flagN p) : Nat) : Int)
    rw [Int.toNat_natCast, Int.toNat_natCast, Nat.or_assoc, Nat.or_comm (flagN p), ← Nat.or_assoc]
  have g : ∀ i, gotV (putH (putH h p v) q w) i = gotV (putH (putH h q w) p v) i := fun i => by
    rw [put_got a2 a1 q hw, put_got hh he p hv, put_got b2 b1 p hv, put_got hh he q hw]
    by_cases h1 : i = (q.1 : Int)
    · have h2 : ¬ i = (p.1 : Int) := fun e => hpq (Fin.ext (by omega))
      rw [if_pos h1, if_neg h2, if_pos h1]
    · rw [if_neg h1, if_neg h1]
  have l1 := (hE_parts a3).2.1.2.2.2
  have l2 := (hE_parts b3).2.1.2.2.2
  have hl : (putH (putH h p v) q w).l = (putH (putH h q w) p v).l := by
    refine lists_eq (wh (putH (putH h p v) q w).f) _ _ (wh_nodup _) l1 (by rw [hf]; exact l2) (fun x _ => ?_)
    have g1 := g (x.1 : Int)
    rw [gotV_L a3, gotV_L b3, ← hf] at g1
    exact g1
  have e1 : (putH (putH h p v) q w).c = (putH (putH h q w) p v).c := rfl
  have e2 : (putH (putH h p v) q w).z = (putH (putH h q w) p v).z := rfl
  generalize putH (putH h p v) q w = x at *
  generalize putH (putH h q w) p v = y at *
  cases x; cases y
  simp only at e1 e2 hf hl
  rw [e1, e2, hf, hl]
/-- two that are set where no error is told: the later value is got, and, of two places, they hang on no order -/
theorem two_ok {h : He} (hh : wfH h) {i k : Int} {v w : MV} (hv : wfV v) (hw : wfV w) (h1 : setE h i v = 0) (h2 : setE (setM h i v) k w = 0) (h3 : setE h k w = 0) :
    wfH (setM (setM h i v) k w) ∧ gotV (setM (setM h i v) k w) k = some w ∧ (¬ i = k → setM (setM h i v) k w = setM (setM h k w) i v) := by
  obtain ⟨p, rfl, he, hve, hm⟩ := set_ok h1
  obtain ⟨q, rfl, he2, hwe, hm2⟩ := set_ok h2
  have hf := (hE_parts he).2.1.2.1
  obtain ⟨q2, hq, he3, hwe3, hm3⟩ := set_ok h3
  obtain rfl : q = q2 := Fin.ext (by omega)
  rw [hm2, hm, hm3]
  rw [hm] at he2
  have hw2 := put_wf hh p hv hf
  have hf2 := (hE_parts he2).2.1.2.1
  have hb := put_right hh he q hwe
  have hbw := put_wf hh q hw hf
  have hx : setM (putH h q w) (p.1 : Int) v = putH (putH h q w) p v := by
    have hpi : pI (p.1 : Int) = some p := by
      rw [pI, dif_pos ⟨by omega, by omega⟩]
      congr 1
    rw [setM, hpi]
    dsimp only
    rw [if_pos ⟨hb, hve⟩]
  refine ⟨put_wf hw2 q hw hf2, ?_, fun hik => ?_⟩
  · rw [put_got hw2 he2 q hwe, if_pos rfl]
  · rw [hx]
    exact put_two hh he (fun e => hik (by rw [e])) hve hwe hv hw
end Go.Proofs.YtjpldfkhacchdaaDoor
