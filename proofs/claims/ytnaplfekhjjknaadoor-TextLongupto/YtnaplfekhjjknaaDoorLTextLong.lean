/-
  TextLong: a text's bytes are as many more as its length has: the walk of the law. Conditions: the package num's table of widths holds 1, 2, 4, 8; the first text has fewer than 2^32 bytes, the second one fewer than 2^60.
-/
import Derived.Test.YtnaplfekhjjknaaDoorWTextShown
namespace Go.Proofs.YtnaplfekhjjknaaDoor
open Go.RowKit

/-- a is n more than b, said so that no walk looks into it -/
structure More (a b n : Nat) : Prop where out : a = b + n

set_option maxHeartbeats 1000000 in
theorem textLong_any (s t : ByteArray) (w : World) (hw : Wid w) (hs : s.size < 4294967296) (ht : t.size < 1152921504606846976) :
    Calls Tryd.prog 8 #[.string s, .string t] w fun e w' => e = .returned (.bool true) ∧ Below w.heap.size w w' := by
  have ok4 : layOk 4 s = true := by rw [layOk_four]; simpa using hs
  have k4 := layR_size ok4
  have e4 := layE_of ok4
  have l4 : More (layR 4 s).size s.size 4 := ⟨by omega⟩
  have la := ttA_le 4 t
  have lr := ttR_le 4 t
  have hs' : s.size ≤ 4294967295 := by omega
  clear k4 ok4 hs
  go_enter Tryd.func8, Tryd.ntmps8
  go_wp2_with fail
  refine (tshown_any w hw).mono ?_
  rintro e w1 ⟨rfl, hb1⟩
  have hw1 := hw.below hb1
  clear hw
  go_wp2_with fail
  refine (short_any s w1 hw1 (by omega)).mono ?_
  rintro e w2 ⟨rfl, hb2⟩
  have hw2 := hw1.below hb2
  have hb2 := hb1.trans (hb2.mono hb1.size)
  clear hb1 hw1
  go_wp2_with fail
  refine (long_any s w2 hw2 (by omega)).mono ?_
  rintro e w3 ⟨rfl, hb3⟩
  have hw3 := hw2.below hb3
  have hb3 := hb2.trans (hb3.mono hb2.size)
  clear hb2 hw2
  rw [e4]
  clear e4
  have fin : ∀ a : Act, Calls Tryd.prog 18 #[.string t] w3 (fun e w' => e = .returned (.tuple #[.string (ttA 4 t), .string (ttR 4 t), .int .i64 (ttE 4 t)]) ∧ Below w.heap.size w w') := fun _ => by
    refine (takeLong_any t w3 hw3 (by omega)).mono ?_
    rintro e w4 ⟨rfl, hb4⟩
    exact ⟨rfl, hb3.trans (hb4.mono hb3.size)⟩
  have fin := fin ⟨#[], []⟩
  clear hb3 hw3
  cases h1 : layOk 1 s
  · obtain ⟨-, t1⟩ := layE_not h1
    have hbig : 255 < s.size := by rw [layOk_one] at h1; simpa using h1
    clear h1
    generalize layR 1 s = a
    generalize layE 1 s = f at t1 ⊢
    generalize layR 4 s = b at l4 ⊢
    go_wp2_with fail
    · exfalso
      have := l4.out
      rename_i h
      rcases h with h | h
      · omega
      · simp at h; omega
    refine fin.mono ?_
    rintro e w4 ⟨rfl, hb4⟩
    clear fin
    cases h2 : ttOk 4 t
    · obtain ⟨t2, -⟩ := ttE_not h2
      clear h2
      go_wp2
      go_ret
      exact ⟨rfl, hb4⟩
    · have hsum := tt_sizes h2
      rw [ttE_of h2]
      have H : More t.size ((ttA 4 t).size + (ttR 4 t).size) 4 := ⟨by omega⟩
      clear h2 hsum
      generalize ttA 4 t = x at la H ⊢
      generalize ttR 4 t = r at lr H ⊢
      go_wp2
      go_ret
      refine ⟨?_, hb4⟩
      have := H.out
      simp; omega
  · have hsm : s.size ≤ 255 := by rw [layOk_one] at h1; simpa using h1
    have k1 := layR_size h1
    have l1 : More (layR 1 s).size s.size 1 := ⟨by omega⟩
    rw [layE_of h1]
    clear h1 k1
    generalize layR 1 s = a at l1 ⊢
    generalize layR 4 s = b at l4 ⊢
    go_wp2_with fail
    any_goals (exfalso; rename_i h; have q4 := l4.out; have q1 := l1.out; first | omega | (simp at h; omega))
    refine fin.mono ?_
    rintro e w4 ⟨rfl, hb4⟩
    clear fin
    cases h2 : ttOk 4 t
    · obtain ⟨t2, -⟩ := ttE_not h2
      clear h2
      go_wp2
      go_ret
      exact ⟨rfl, hb4⟩
    · have hsum := tt_sizes h2
      rw [ttE_of h2]
      have H : More t.size ((ttA 4 t).size + (ttR 4 t).size) 4 := ⟨by omega⟩
      clear h2 hsum
      generalize ttA 4 t = x at la H ⊢
      generalize ttR 4 t = r at lr H ⊢
      go_wp2
      go_ret
      refine ⟨?_, hb4⟩
      have := H.out
      simp; omega
end Go.Proofs.YtnaplfekhjjknaaDoor
