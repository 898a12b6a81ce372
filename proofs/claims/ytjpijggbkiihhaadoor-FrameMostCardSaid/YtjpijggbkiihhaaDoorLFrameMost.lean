/-
  interchangelaw04.FrameMost answers true; nothing that was there is changed. Conditions: the tables of widths and kinds are as their texts lay them; a text of fewer than 2^62 bytes.
-/
import Derived.Test.YtjpijggbkiihhaaDoorWFShown
import Derived.Test.YtjpijggbkiihhaaDoorWFTake
namespace Go.Proofs.YtjpijggbkiihhaaDoor
open Go.RowKit

set_option maxRecDepth 100000 in
set_option maxHeartbeats 2000000 in
theorem frameMost_walk (s : ByteArray) (m : Int) (w : World) (hw : Wid w) (hk : Kin w) (hs : s.size < 4611686018427387904) :
    Calls Tryd.prog 7 #[.string s, .int .i64 m] w fun e w' => e = .returned (.bool true) ∧ Below w.heap.size w w' := by
  go_enter Tryd.func7, Tryd.ntmps7
  go_wp2_with fail
  refine (frShown_any w hw hk).mono ?_
  rintro e w1 ⟨rfl, hb1⟩
  have T := frtake_any s m w1 (hw.below hb1) (hk.below hb1) hs
  obtain ⟨mm, hm, h3⟩ : ∃ mm : Int, roomOf m + 8 = mm ∧ ((m < 4096 ∧ mm = 4096) ∨ (131072 < m ∧ mm = 131072) ∨ (4096 ≤ m ∧ m ≤ 131072 ∧ mm = m)) := ⟨_, rfl, by unfold roomOf; omega⟩
  have fin : frE s m = 0 → ((frGot s).d.size : Int) + 8 ≤ mm ∧ (frGot s).d.size + 8 + (frRest s).size = s.size := fun h => ⟨by have := (fr_laid h).2.2; omega, fr_sizes h⟩
  have more : frE s m = 2 → (s.size : Int) < mm := fun h => by have := fr_waits h; omega
  have E := frE_cases s m
  have HA := Lib.hid fin
  have HB := Lib.hid more
  have HE := Lib.hid E
  clear fin more E hm
  rcases h3 with ⟨h1, rfl⟩ | ⟨h1, rfl⟩ | ⟨h1, h2, rfl⟩
  · go_wp2_with fail
    refine T.mono ?_
    rintro e w2 ⟨rfl, hb2⟩
    have hb3 := hb1.trans (hb2.mono hb1.size)
    clear T hb1 hb2
    rcases HE.out with h0 | h0 | h0
    · rw [frTakeV_ok h0]
      obtain ⟨q1, q2⟩ := HA.out h0
      clear HA HB HE h0
      have e1 : (frGot s).d = ttA 4 (fr2 s) := rfl
      have e2 : frRest s = takeR (frEnd s) 1 := rfl
      rw [e1] at q1 q2
      rw [e2] at q2
      clear e1 e2
      generalize frCode s = co
      generalize frChan s = ch
      generalize ttA 4 (fr2 s) = da at q1 q2 ⊢
      generalize takeR (frEnd s) 1 = r at q2 ⊢
      have hb4 := hb3.alloc hb3.size (.cells #[.int .i64 co, .int .i64 ch, .string da] 23)
      have q3 : ((s.size : Int) - r.size == da.size + 8) = true := by simp; omega
      go_wp2
      go_ret
      exact ⟨rfl, hb4⟩
    · rw [frTakeV_bad h0 (by decide)]
      have q1 := HB.out h0
      clear HA HB HE h0
      have hb4 := hb3.alloc hb3.size (.cells #[.int .i64 0, .int .i64 0, .string ⟨#[]⟩] 23)
      go_wp2
      go_ret
      exact ⟨rfl, hb4⟩
    · rw [frTakeV_bad h0 (by decide)]
      clear HA HB HE h0
      have hb4 := hb3.alloc hb3.size (.cells #[.int .i64 0, .int .i64 0, .string ⟨#[]⟩] 23)
      go_wp2
      go_ret
      exact ⟨rfl, hb4⟩
  · go_wp2_with fail
    refine T.mono ?_
    rintro e w2 ⟨rfl, hb2⟩
    have hb3 := hb1.trans (hb2.mono hb1.size)
    clear T hb1 hb2
    rcases HE.out with h0 | h0 | h0
    · rw [frTakeV_ok h0]
      obtain ⟨q1, q2⟩ := HA.out h0
      clear HA HB HE h0
      have e1 : (frGot s).d = ttA 4 (fr2 s) := rfl
      have e2 : frRest s = takeR (frEnd s) 1 := rfl
      rw [e1] at q1 q2
      rw [e2] at q2
      clear e1 e2
      generalize frCode s = co
      generalize frChan s = ch
      generalize ttA 4 (fr2 s) = da at q1 q2 ⊢
      generalize takeR (frEnd s) 1 = r at q2 ⊢
      have hb4 := hb3.alloc hb3.size (.cells #[.int .i64 co, .int .i64 ch, .string da] 23)
      have q3 : ((s.size : Int) - r.size == da.size + 8) = true := by simp; omega
      go_wp2
      go_ret
      exact ⟨rfl, hb4⟩
    · rw [frTakeV_bad h0 (by decide)]
      have q1 := HB.out h0
      clear HA HB HE h0
      have hb4 := hb3.alloc hb3.size (.cells #[.int .i64 0, .int .i64 0, .string ⟨#[]⟩] 23)
      go_wp2
      go_ret
      exact ⟨rfl, hb4⟩
    · rw [frTakeV_bad h0 (by decide)]
      clear HA HB HE h0
      have hb4 := hb3.alloc hb3.size (.cells #[.int .i64 0, .int .i64 0, .string ⟨#[]⟩] 23)
      go_wp2
      go_ret
      exact ⟨rfl, hb4⟩
  · go_wp2_with fail
    refine T.mono ?_
    rintro e w2 ⟨rfl, hb2⟩
    have hb3 := hb1.trans (hb2.mono hb1.size)
    clear T hb1 hb2
    rcases HE.out with h0 | h0 | h0
    · rw [frTakeV_ok h0]
      obtain ⟨q1, q2⟩ := HA.out h0
      clear HA HB HE h0
      have e1 : (frGot s).d = ttA 4 (fr2 s) := rfl
      have e2 : frRest s = takeR (frEnd s) 1 := rfl
      rw [e1] at q1 q2
      rw [e2] at q2
      clear e1 e2
      generalize frCode s = co
      generalize frChan s = ch
      generalize ttA 4 (fr2 s) = da at q1 q2 ⊢
      generalize takeR (frEnd s) 1 = r at q2 ⊢
      have hb4 := hb3.alloc hb3.size (.cells #[.int .i64 co, .int .i64 ch, .string da] 23)
      have q3 : ((s.size : Int) - r.size == da.size + 8) = true := by simp; omega
      go_wp2
      go_ret
      exact ⟨rfl, hb4⟩
    · rw [frTakeV_bad h0 (by decide)]
      have q1 := HB.out h0
      clear HA HB HE h0
      have hb4 := hb3.alloc hb3.size (.cells #[.int .i64 0, .int .i64 0, .string ⟨#[]⟩] 23)
      go_wp2
      go_ret
      exact ⟨rfl, hb4⟩
    · rw [frTakeV_bad h0 (by decide)]
      clear HA HB HE h0
      have hb4 := hb3.alloc hb3.size (.cells #[.int .i64 0, .int .i64 0, .string ⟨#[]⟩] 23)
      go_wp2
      go_ret
      exact ⟨rfl, hb4⟩
end Go.Proofs.YtjpijggbkiihhaaDoor
