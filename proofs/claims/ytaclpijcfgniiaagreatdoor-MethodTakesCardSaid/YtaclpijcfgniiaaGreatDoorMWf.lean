/-
  Values that are right are well-formed; the form of a row of one's own. No condition.
-/
import Derived.Test.YtaclpijcfgniiaaGreatDoorJMV
import Derived.Test.YtaclpijcfgniiaaGreatDoorJMem
namespace Go.Proofs.YtaclpijcfgniiaaGreatDoor
open Go.RowKit

theorem wfV_right {c : UInt8} {v : MV} (hl : isLet c = true) (h0 : 0 ≤ v.n) (h : vE c v = 0) : wfV v := by
  obtain ⟨n, s⟩ := v
  unfold vE at h
  dsimp only at h h0
  refine ⟨h0, ?_⟩
  dsimp only
  by_cases h1 : c = 98
  · rw [if_pos h1] at h
    by_cases g : 1 < n
    · rw [if_pos g] at h; cases h
    · rw [if_neg g] at h
      by_cases g2 : s.size = 0
      · omega
      · rw [if_neg g2] at h; cases h
  rw [if_neg h1] at h
  by_cases h2 : c = 83
  · rw [if_pos h2] at h
    by_cases g : layOk 1 s = true
    · rw [if_pos g] at h
      rw [layOk_one] at g
      have g' : s.size ≤ 255 := by simpa using g
      by_cases g2 : n = 0
      · omega
      · rw [if_neg g2] at h; cases h
    · rw [if_neg g] at h; cases h
  rw [if_neg h2] at h
  by_cases h3 : c = 76
  · rw [if_pos h3] at h
    by_cases g : 131072 < s.size
    · rw [if_pos g] at h; cases h
    · rw [if_neg g] at h
      by_cases g2 : n = 0
      · omega
      · rw [if_neg g2] at h; cases h
  rw [if_neg h3] at h
  by_cases h4 : c = 84
  · rw [if_pos h4] at h
    by_cases g2 : n = 0
    · rw [if_pos g2] at h
      by_cases g : tabIs s = true
      · have := tabIs_size g
        omega
      · rw [if_neg g] at h; cases h
    · rw [if_neg g2] at h; cases h
  rw [if_neg h4] at h
  obtain ⟨k1, k2⟩ := putOk_of_num h
  dsimp only at k1 k2
  have k3 := putOk_lt k1
  have hp : (256 : Int) ^ (wid4 c).toNat ≤ 18446744073709551616 := by
    rcases let_cases hl with rfl | rfl | rfl | rfl | rfl | rfl | rfl | rfl <;> decide
  omega
theorem wf_list : ∀ (ls : List UInt8) (l : List MV), ls.length = l.length → (∀ c ∈ ls, isLet c = true) → (∀ v ∈ l, 0 ≤ v.n) → layEr ls l = 0 → ∀ v ∈ l, wfV v
  | [], [], _, _, _, _ => fun v hv => by cases hv
  | c :: ls, v :: l, hl, hc, h0, h => by
    obtain ⟨h1, h2⟩ := layEr_cons h
    intro u hu
    rcases List.mem_cons.1 hu with rfl | hu
    · exact wfV_right (hc c (List.mem_cons_self ..)) (h0 _ (List.mem_cons_self ..)) h1
    · exact wf_list ls l (by simpa using hl) (fun x hx => hc x (List.mem_cons_of_mem _ hx)) (fun x hx => h0 x (List.mem_cons_of_mem _ hx)) h2 u hu
theorem row_form {w : World} {base : Nat} {e : TypeId} {size : Nat} {v : Value} {l : List Value} {n : Nat} (h : w.ownsRow base e size v n l) : ∃ A c, v = .slice A n c ∧ ValsAt w A l ∧ (A = none → n = 0 ∧ c = 0) := by
  obtain ⟨hlen, ⟨rfl, h0⟩ | ⟨g, cap, cur, rfl, hg, hb, hn, hc, hs, ht⟩⟩ := h
  · exact ⟨none, 0, by rw [h0], fun h => by rw [hlen, h0] at h; omega, fun _ => ⟨h0, rfl⟩⟩
  · refine ⟨_, cap, rfl, fun _ => ⟨g, 0, rfl, (Array.getElem?_eq_some_iff.1 hb).1, fun i hi => ?_⟩, fun e => by cases e⟩
    have e1 : w.cell? ⟨g, 0 + i, none⟩ = cur[i]? := by simp [World.cell?, hb]
    rw [e1]
    have h2 : (List.take (n * size) cur.toList)[i]? = some l[i] := by rw [ht]; exact List.getElem?_eq_getElem hi
    rw [List.getElem?_take] at h2
    split at h2
    · rw [← h2, Array.getElem?_toList]
    · cases h2
end Go.Proofs.YtaclpijcfgniiaaGreatDoor
