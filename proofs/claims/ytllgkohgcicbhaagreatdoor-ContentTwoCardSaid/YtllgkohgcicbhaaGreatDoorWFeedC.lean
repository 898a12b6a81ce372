/-
  content.Feed answers what feed says; nothing that was there is changed. Conditions: the tables of widths and of contents are as their texts lay them; the state is an int; the values lie in old memory, of at most 2^47 bytes; bytes of fewer than 2^62.
-/
import Derived.Test.YtllgkohgcicbhaaGreatDoorWFeed0
import Derived.Test.YtllgkohgcicbhaaGreatDoorWFeed1
import Derived.Test.YtllgkohgcicbhaaGreatDoorWFeed2
import Derived.Test.YtllgkohgcicbhaaGreatDoorWFeedA
namespace Go.Proofs.YtllgkohgcicbhaaGreatDoor
open Go.RowKit

theorem feed_any (a : As) (A B : Option Addr) (ca cb : Nat) (t ch : Int) (d : ByteArray) (w : World) (hw : Wid w) (hk : Con w) (hst : -9223372036854775808 ≤ a.st ∧ a.st ≤ 9223372036854775807) (hc : CmAt w a.c A B ca cb) (hl : a.c.m.l.length * 24 ≤ 140737488355328) (hl2 : a.c.h.l.length * 24 ≤ 140737488355328) (hd : d.size < 4611686018427387904) (hbd : a.c.b.size + d.size < 4611686018427387904) :
    Calls Tryz.prog 8 #[encAs a A B ca cb, encFr ⟨t, ch, d⟩] w (FdPost (feed a t d) w) := by
  by_cases h : 0 ≤ a.st ∧ a.st ≤ 2
  · by_cases ht : t = a.st + 1
    · rw [feed_in h ht]
      obtain ⟨st, c⟩ := a
      rcases state_in h with e | e | e
      · dsimp only at e ht
        subst e
        obtain rfl : t = 1 := by omega
        rw [if_pos rfl]
        exact feed_at0 c A B ca cb ch d w hw hk hd
      · dsimp only at e ht
        subst e
        obtain rfl : t = 2 := by omega
        rw [if_neg (by dsimp only; decide), if_pos rfl]
        exact feed_at1 c A B ca cb ch d w hw hc hl hd
      · dsimp only at e ht
        subst e
        obtain rfl : t = 3 := by omega
        rw [if_neg (by dsimp only; decide), if_neg (by dsimp only; decide)]
        exact feed_at2 c A B ca cb ch d w hc hl hl2 hbd
    · rw [feed, if_neg (by omega), if_pos ht]
      exact feed_wrong a A B ca cb t ch d w h ht
  · rw [feed, if_pos (by omega)]
    exact feed_none a A B ca cb t ch d w hst h

theorem stAt_small {c : Cm} {r : Nat} (hr : 0 < r) (k : Nat) : (0 ≤ (stAt c r k).st ∧ (stAt c r k).st ≤ 2) ∧ (stAt c r k).c.m.l.length ≤ c.m.l.length ∧ (stAt c r k).c.h.l.length ≤ c.h.l.length ∧ (stAt c r k).c.b.size ≤ c.b.size := by
  match k with
  | 0 => exact ⟨⟨by show (0 : Int) ≤ 0; decide, by show (0 : Int) ≤ 2; decide⟩, Nat.zero_le _, Nat.zero_le _, Nat.zero_le _⟩
  | 1 => exact ⟨⟨by show (0 : Int) ≤ 1; decide, by show (1 : Int) ≤ 2; decide⟩, Nat.le_refl _, Nat.zero_le _, Nat.zero_le _⟩
  | k + 2 =>
    refine ⟨⟨by show (0 : Int) ≤ 2; decide, by show (2 : Int) ≤ 2; decide⟩, Nat.le_refl _, Nat.le_refl _, ?_⟩
    have h := cut_cat hr c.b
    show (catB ((cutL r c.b).take k)).size ≤ c.b.size
    rw [← List.take_append_drop k (cutL r c.b), catB_append] at h
    have h2 := congrArg ByteArray.size h
    rw [ByteArray.size_append] at h2
    omega
/-- rows of values that are in place are short -/
theorem mE_short {m : Me} (h : mE m = 0) : m.l.length ≤ 16 := by
  obtain ⟨h1, h2, -⟩ := mE_parts h
  rw [← h2]
  exact (met_facts h1).2.1
theorem hE_short {h : He} (he : hE h = 0) : h.l.length ≤ 14 := by
  obtain ⟨-, ⟨-, -, -, h4⟩, -, -⟩ := hE_parts he
  rw [← h4]
  exact wh_le h.f
/-- how far a channel's command has come, if it came out of frames; its rows are short -/
def CInvS (a : As) : Prop := CInv a ∧ a.c.h.l.length ≤ 16
theorem invS0 : CInvS as0 := ⟨inv0, Nat.zero_le _⟩
theorem inv_small {a : As} (h : CInvS a) : (0 ≤ a.st ∧ a.st ≤ 2) ∧ a.c.m.l.length ≤ 16 ∧ a.c.h.l.length ≤ 16 ∧ a.c.b.size ≤ 65536 := by
  obtain ⟨⟨-, hb, rfl | ⟨h1, h2, -⟩ | ⟨h1, h2, -, -⟩⟩, h5⟩ := h
  · exact ⟨⟨by decide, by decide⟩, Nat.zero_le _, Nat.zero_le _, hb⟩
  · exact ⟨by omega, mE_short h2, h5, hb⟩
  · exact ⟨by omega, mE_short h2, h5, hb⟩
theorem feed_invS {a : As} (h : CInvS a) (t : Int) (d : ByteArray) : CInvS (feed a t d).a := by
  refine ⟨(feed_inv h.1 t d (fun m hm => tm_wf hm)).1, ?_⟩
  have h2 := h.2
  unfold feed
  split
  · exact Nat.zero_le _
  split
  · exact Nat.zero_le _
  split
  · unfold feedM
    split
    · exact Nat.zero_le _
    · split <;> exact Nat.zero_le _
  split
  · unfold feedH
    split
    · rename_i h5
      split
      · exact Nat.le_trans (hE_short (tp_forth h5).1) (by decide)
      · exact Nat.zero_le _
    · exact Nat.zero_le _
  · unfold feedB
    split
    · exact Nat.zero_le _
    · split
      · exact h2
      · exact Nat.zero_le _
end Go.Proofs.YtllgkohgcicbhaaGreatDoor
