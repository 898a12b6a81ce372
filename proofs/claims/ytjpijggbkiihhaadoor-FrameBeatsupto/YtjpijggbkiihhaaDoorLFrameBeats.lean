/-
  interchangelaw04.FrameBeats answers true; nothing that was there is changed. Conditions: the tables of widths and kinds are as their texts lay them; a text of at most 1048576 bytes.
-/
import Derived.Test.YtjpijggbkiihhaaDoorWFShown
import Derived.Test.YtjpijggbkiihhaaDoorLFramePieces
namespace Go.Proofs.YtjpijggbkiihhaaDoor
open Go.RowKit

theorem beat_ahead (s : ByteArray) (m : Int) : frs ((⟨#[8, 0, 0, 0, 0, 0, 0, 206]⟩ : ByteArray) ++ s) m = (frBeat :: (frs s m).1, (frs s m).2) := by
  have hB : (⟨#[8, 0, 0, 0, 0, 0, 0, 206]⟩ : ByteArray) = frB frBeat := by rw [← beat_bytes, frBytes, if_pos beat_right]
  have hm : ((frBeat.d.size : Nat) : Int) ≤ roomOf m := by have := (roomOf_bounds m).1; show ((0 : Nat) : Int) ≤ _; omega
  obtain ⟨e, g, r⟩ := fr_taken (m := m) beat_right hm s
  rw [hB, frs_go e, g, r]

set_option maxRecDepth 100000 in
set_option maxHeartbeats 2000000 in
theorem frameBeats_walk (s : ByteArray) (m : Int) (w : World) (hw : Wid w) (hk : Kin w) (hs : s.size ≤ 1048576) :
    Calls Tryd.prog 9 #[.string s, .int .i64 m] w fun e w' => e = .returned (.bool true) ∧ Below w.heap.size w w' := by
  obtain ⟨F1, -⟩ := frs_facts m _ s (Nat.le_refl _)
  have BA := beat_ahead s m
  obtain ⟨e5, e6⟩ := sp_same (s := (⟨#[8, 0, 0, 0, 0, 0, 0, 206]⟩ : ByteArray) ++ s) (t := s) (m := m) (by rw [BA])
  go_enter Tryd.func9, Tryd.ntmps9
  go_wp2_with fail
  refine (frShown_any w hw hk).mono ?_
  rintro e w1 ⟨rfl, hb1⟩
  go_wp2_with fail
  refine (frbytes_any frBeat w1 (hw.below hb1) (hk.below hb1)).mono ?_
  rintro e w2 ⟨rfl, hb⟩
  have hb2 := hb1.trans (hb.mono hb1.size)
  rw [beat_bytes, beat_bytesE]
  clear hb1 hb
  go_wp2_with fail
  refine (split_any s m w2 (hw.below hb2) (hk.below hb2) (by omega)).mono ?_
  rintro e w3 ⟨v1, rfl, row1, hb⟩
  have hb3 := hb2.trans (hb.mono hb2.size)
  clear hb2 hb
  obtain ⟨A1, q1, rfl, va1, no1, cq1⟩ := vals_of_row3 row1
  clear row1 no1
  have SP := split_any ((⟨#[8, 0, 0, 0, 0, 0, 0, 206]⟩ : ByteArray) ++ s) m w3 (hw.below hb3) (hk.below hb3) (by rw [ByteArray.size_append]; have : (⟨#[8, 0, 0, 0, 0, 0, 0, 206]⟩ : ByteArray).size = 8 := rfl; omega)
  rw [e5, e6, BA] at SP
  clear e5 e6 BA
  have zz : (⟨#[8, 0, 0, 0, 0, 0, 0, 206]⟩ : ByteArray).size + s.size ≤ 9223372036854775807 := by have : (⟨#[8, 0, 0, 0, 0, 0, 0, 206]⟩ : ByteArray).size = 8 := rfl; omega
  go_wp2_with fail
  refine SP.mono ?_
  rintro e w4 ⟨v2, rfl, row2, hb⟩
  have va1 := va1.below hb
  have hb4 := hb3.trans (hb.mono hb3.size)
  clear hb3 hb SP
  obtain ⟨A2, q2, rfl, va2, no2, cq2⟩ := vals_of_row3 row2
  clear row2 no2
  dsimp only at va2 cq2 ⊢
  generalize (frs s m).1 = l at *
  generalize spR s m = r
  generalize spE s m = x
  have hl : l.length ≤ 1048576 := by omega
  rw [List.length_cons] at cq2 ⊢
  obtain ⟨b0, o0, hA2, -, g0⟩ := vals_frame va2 0 (by simp)
  go_wp2
  go_loopw [14] (fun v wr => ∃ k : Nat, k ≤ l.length ∧ v = .int .i64 k ∧ Below w4.heap.size w4 wr) (fun v _ => l.length - (intOf v).toNat)
  case atStart => exact ⟨0, Nat.zero_le _, rfl, Below.refl _ _⟩
  case round =>
    obtain ⟨k, hk', rfl, hb⟩ := hrel
    by_cases hlt : k < l.length
    · obtain ⟨b1, o1, rfl, -, g1⟩ := vals_frame va1 k hlt
      obtain ⟨b2, o2, hA, -, g2⟩ := vals_frame va2 (k + 1) (by simp; omega)
      rw [hA2] at hA
      cases hA
      obtain ⟨c1, c2, c3⟩ := g1 wr hb
      obtain ⟨d1, d2, d3⟩ := g2 wr hb
      rw [List.getElem_cons_succ] at d1 d2 d3
      subst hA2
      clear g0 g1 g2 va1 va2
      generalize l[k] = f at *
      obtain ⟨t, ch, da⟩ := f
      dsimp only at *
      go_wp2
      go_quiet (fail)
      go_wp2
      go_roundw
      case rel => exact ⟨k + 1, by omega, by go_num, below_drewN hb _⟩
      case measure => simp [intOf]; omega
    · obtain rfl : k = l.length := by omega
      obtain ⟨c1, c2, c3⟩ := g0 wr hb
      subst hA2
      clear g0 va1 va2
      unfold frBeat at c1 c2 c3
      rw [List.getElem_cons_zero] at c1 c2 c3
      rw [Nat.zero_mul, Nat.add_zero] at c1 c2 c3
      dsimp only at c1 c2 c3
      go_wp2
      go_ret
      exact ⟨rfl, hb4.trans (hb.mono hb4.size)⟩
end Go.Proofs.YtjpijggbkiihhaaDoor
