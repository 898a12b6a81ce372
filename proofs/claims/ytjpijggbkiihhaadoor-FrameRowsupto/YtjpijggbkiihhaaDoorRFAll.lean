/-
  The document's own All of chapter 4 answers all frames' bytes, one behind the other; nothing that was there is changed. Condition: frames of at most 1048576 bytes in all.
-/
import Derived.Test.YtjpijggbkiihhaaDoorRFBytes
import Derived.Test.YtjpijggbkiihhaaDoorRFRows
namespace Go.Proofs.YtjpijggbkiihhaaDoor
open Go.RowKit

/-- how much a row of frames is: a frame is its data's bytes and one -/
def frSum : List Fr → Nat
  | [] => 0
  | f :: l => f.d.size + 1 + frSum l
theorem frSum_length (l : List Fr) : l.length ≤ frSum l := by
  induction l with
  | nil => exact Nat.le_refl _
  | cons f l ih => simp only [List.length_cons, frSum]; omega
theorem frBytes_le (f : Fr) : (frBytes f).size ≤ f.d.size + 8 := by
  unfold frBytes
  split
  · rename_i h
    rw [frB_size h]
    exact Nat.le_refl _
  · exact Nat.zero_le _
theorem allB_snoc (l : List Fr) (f : Fr) : allB (l ++ [f]) = allB l ++ frBytes f := by
  induction l with
  | nil => show frBytes f ++ ⟨#[]⟩ = ⟨#[]⟩ ++ frBytes f; rw [ba_append_empty, ba_empty_append]
  | cons g l ih => show frBytes g ++ allB (l ++ [f]) = frBytes g ++ allB l ++ frBytes f; rw [ih, ba_assoc]
theorem allB_size (l : List Fr) : (allB l).size ≤ 8 * frSum l := by
  induction l with
  | nil => exact Nat.zero_le _
  | cons f l ih =>
    show (frBytes f ++ allB l).size ≤ _
    rw [ByteArray.size_append]
    have := frBytes_le f
    simp only [frSum]
    omega
theorem frSum_take (l : List Fr) (k : Nat) : frSum (l.take k) ≤ frSum l := by
  induction l generalizing k with
  | nil => simp
  | cons f l ih =>
    cases k with
    | zero => exact Nat.zero_le _
    | succ k => simp only [List.take_succ_cons, frSum]; have := ih k; omega
theorem frSum_at (l : List Fr) (k : Nat) (h : k < l.length) : l[k].d.size ≤ frSum l := by
  induction l generalizing k with
  | nil => cases h
  | cons f l ih =>
    cases k with
    | zero => simp only [List.getElem_cons_zero, frSum]; omega
    | succ k => simp only [List.getElem_cons_succ, frSum]; have := ih k (by simpa using h); omega

set_option maxRecDepth 100000 in
set_option maxHeartbeats 2000000 in
theorem rall_any (A : Option Addr) (c : Nat) (l : List Fr) (w : World) (hA : ValsAt w A (rowFr l)) (hl : frSum l ≤ 1048576) :
    Calls Tryd.prog 22 #[.slice A l.length c] w fun e w' => e = .returned (.string (allB l)) ∧ Below w.heap.size w w' := by
  have hlen := frSum_length l
  go_enter Tryd.func22, Tryd.ntmps22
  go_wp2
  go_loopw [3, 4] (fun o v wr => ∃ k : Nat, k ≤ l.length ∧ v = .int .i64 k ∧ o = .string (allB (l.take k)) ∧ Below w.heap.size w wr) (fun _ v _ => l.length - (intOf v).toNat)
  case atStart => exact ⟨0, Nat.zero_le _, rfl, rfl, Below.refl _ _⟩
  case round =>
    obtain ⟨k, hk', rfl, rfl, hb⟩ := hrel
    by_cases hlt : k < l.length
    · obtain ⟨b1, o1, rfl, -, g1⟩ := vals_frame hA k hlt
      obtain ⟨c1, c2, c3⟩ := g1 wr hb
      have HS := Lib.hid (show allB (l.take (k + 1)) = allB (l.take k) ++ frBytes l[k] by rw [List.take_succ_eq_append_getElem hlt, allB_snoc])
      have z1 := allB_size (l.take k)
      have z2 := frSum_take l k
      have z3 := frBytes_le l[k]
      have z4 := frSum_at l k hlt
      have B := rbytes_any l[k] wr
      unfold encFr at B
      generalize allB (l.take k) = a at *
      generalize l[k] = f at *
      have z5 : a.size + (frBytes f).size ≤ 9223372036854775807 := by omega
      clear g1 z1 z2 z3 z4
      go_wp2_with fail
      refine B.mono ?_
      rintro e w2 ⟨rfl, hb2⟩
      have hb3 := hb.trans (hb2.mono hb.size)
      clear B hb hb2
      generalize frBytes f = fb at *
      generalize frBytesE f = fe
      go_wp2
      go_roundw
      case rel => exact ⟨k + 1, by omega, by go_num, by rw [HS.out], hb3⟩
      case measure => simp [intOf]; omega
    · obtain rfl : k = l.length := by omega
      go_wp2
      go_ret
      exact ⟨by rw [List.take_length]; rfl, hb⟩
end Go.Proofs.YtjpijggbkiihhaaDoor
