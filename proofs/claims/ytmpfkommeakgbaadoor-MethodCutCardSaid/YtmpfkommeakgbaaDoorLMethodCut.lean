/-
  interchangelaw06.MethodCut answers true; nothing that was there is changed. Conditions: the table of widths is as its text lays it; the values lie in old memory, each number a uint64, each text shorter than 2^47 bytes.
-/
import Derived.Test.YtmpfkommeakgbaaDoorRMSame
namespace Go.Proofs.YtmpfkommeakgbaaDoor
open Go.RowKit

set_option maxRecDepth 100000 in
set_option maxHeartbeats 2000000 in
theorem methodCut_walk (m : Me) (A : Option Addr) (ca : Nat) (cut : Int) (s : ByteArray) (w : World) (hw : Wid w) (hA : ValsAt w A (rowV m.l)) (hm : wfM m) (hs : s.size < 140737488355329) :
    Calls Tryd.prog 5 #[encM m A ca, .int .i64 cut, .string s] w fun e w' => e = .returned (.bool true) ∧ Below w.heap.size w w' := by
  have hBy := fun W hW h => mbytes_any m A ca W hW hm h
  have hpos : ∀ v ∈ m.l, 0 ≤ v.n := fun v hv => (hm v hv).1
  have HZ : Hid (mE m = 0 → 4 ≤ (mB m).size ∧ (mB m).size ≤ 1099511627776) := Lib.hid (fun h => mB_size h)
  have HE : Hid (¬ mE m = 0 → mB m = ⟨#[]⟩) := Lib.hid (fun h => by rw [mB, if_neg h])
  have HT : Hid (mE m = 0 → tm (mB m ++ s) = if s.size = 0 then some m else none) := Lib.hid (fun h => tm_back hpos h s)
  have HC : Hid (mE m = 0 → ∀ k : Nat, k < (mB m).size → tm ((mB m).extract 0 k) = none) := Lib.hid (fun h k hk => tm_cut hpos h hk)
  generalize hxB : mB m = x at hBy HZ HT HE HC
  generalize hxE : mE m = e1 at hBy HZ HT HE HC
  clear hxB hxE hpos
  have hb0 : Below w.heap.size w (w.alloc (.cells #[.int .i64 m.c, .int .i64 m.i, .slice A m.l.length ca] 24)) := (Below.refl _ w).alloc (Nat.le_refl _) _
  have hx := Bx.new w 24 [.int .i64 m.c, .int .i64 m.i, .slice A m.l.length ca]
  have hSh := mshown_any _ (hw.below hb0)
  simp only [encM] at hBy ⊢
  go_enter Tryd.func5, Tryd.ntmps5
  go_wp2_with fail
  refine hSh.mono ?_
  rintro e w1 ⟨rfl, hb1⟩
  have hB1 := hb0.trans (hb1.mono hb0.size)
  have hx1 := hx.kept hb1
  have x0 := hx1.cell 0 (by simp)
  have x1 := hx1.cell 1 (by simp)
  have x2 := hx1.cell 2 (by simp)
  dsimp only [List.getElem_cons_zero, List.getElem_cons_succ] at x0 x1 x2
  clear hSh hb0 hb1 hx
  go_wp2_with fail
  refine (hBy w1 (hw.below hB1) (hA.below hB1)).mono ?_
  rintro e w2 ⟨rfl, hb2⟩
  have hB2 := hB1.trans (hb2.mono hB1.size)
  clear hBy hB1 hb2 hx1 x0 x1 x2 hA hm
  by_cases he : e1 = 0
  · obtain ⟨z1, z2⟩ := HZ.out he
    have ht := HT.out he
    have HC2 := Lib.hid (HC.out he)
    subst he
    clear HZ HT HE HC
    have hsz : x.size + s.size ≤ 9223372036854775807 := by omega
    have hsa : (x ++ s).size = x.size + s.size := ByteArray.size_append
    have hT1 := mTake_any (x ++ s) w2 (hw.below hB2) (by omega)
    have hcs : ((s.toList == []) = true ∧ s.size = 0) ∨ ((s.toList == []) = false ∧ ¬ s.size = 0) := by
      rcases str_cases s with ⟨rfl, h⟩ | ⟨t, h⟩
      · exact .inl ⟨by rw [ByteArray.toList_eq]; rfl, h⟩
      · exact .inr ⟨t, h⟩
    rcases hcs with ⟨ts, hs0⟩ | ⟨ts, hs0⟩
    · rw [if_pos hs0] at ht
      clear hs0
      generalize hxs : x ++ s = xs at hT1 ht
      go_wp2_with fail
      refine hT1.mono ?_
      rintro e w3 (⟨m', B, cb, ht2, rfl, hV, hn, hb3⟩ | ⟨ht2, -, -⟩)
      · rw [ht] at ht2
        cases ht2
        have hB3 := hB2.trans (hb3.mono hB2.size)
        have hB4 := hB3.alloc hB3.size (.cells #[.int .i64 m.c, .int .i64 m.i, .slice B m.l.length cb] 24)
        simp only [encM]
        clear hT1 hb3 hB2 hV hn ht hB3 hxs hsz hsa
        rcases int_cases cut x.size with hc | ⟨k, rfl, hk⟩ | ⟨k, rfl, hk⟩
        · have hd : decide (cut < 0) = true := by simpa using hc
          clear HC2 hc
          go_wp2
          go_ret
          exact ⟨rfl, hB4⟩
        · have hd : decide (((k : Nat) : Int) < 0) = false := by simp
          have hd2 : decide ((x.size : Int) ≤ ((k : Nat) : Int)) = false := by simp; omega
          have hk1 : ((k : Nat) : Int) ≤ (x.size : Int) := by omega
          have htc := HC2.out k hk
          have hxs : (x.extract 0 k).size ≤ x.size := by rw [ByteArray.size_extract]; omega
          clear HC2
          have hT5 := mTake_any (x.extract 0 k) _ (hw.below hB4) (by omega)
          generalize hex : x.extract 0 k = xk at hT5 htc hxs
          go_wp2_with fail
          refine hT5.mono ?_
          rintro e w5 (⟨m', B, cb, ht2, rfl, hV, hn, hb5⟩ | ⟨ht2, rfl, hb5⟩)
          · rw [htc] at ht2; cases ht2
          · have hB5 := hB4.trans (hb5.mono hB4.size)
            have hB6 := hB5.alloc hB5.size (.cells #[.int .i64 0, .int .i64 0, .slice none 0 0] 24)
            simp only [noneM]
            clear hT5 hb5 hB5 hB4 ht2 htc hex
            go_wp2
            go_ret
            exact ⟨rfl, hB6⟩
        · have hd : decide (((k : Nat) : Int) < 0) = false := by simp
          have hd2 : decide ((x.size : Int) ≤ ((k : Nat) : Int)) = true := by simp; omega
          clear HC2
          go_wp2
          go_ret
          exact ⟨rfl, hB4⟩
      · rw [ht] at ht2; cases ht2
    · rw [if_neg hs0] at ht
      generalize hxs : x ++ s = xs at hT1 ht
      go_wp2_with fail
      refine hT1.mono ?_
      rintro e w3 (⟨m', B, cb, ht2, rfl, hV, hn, hb3⟩ | ⟨ht2, rfl, hb3⟩)
      · rw [ht] at ht2; cases ht2
      · have hB3 := hB2.trans (hb3.mono hB2.size)
        have hB4 := hB3.alloc hB3.size (.cells #[.int .i64 0, .int .i64 0, .slice none 0 0] 24)
        simp only [noneM]
        clear hT1 hb3 hB2 ht ht2 hB3 hxs hsz hsa
        rcases int_cases cut x.size with hc | ⟨k, rfl, hk⟩ | ⟨k, rfl, hk⟩
        · have hd : decide (cut < 0) = true := by simpa using hc
          clear HC2 hc
          go_wp2
          go_ret
          exact ⟨rfl, hB4⟩
        · have hd : decide (((k : Nat) : Int) < 0) = false := by simp
          have hd2 : decide ((x.size : Int) ≤ ((k : Nat) : Int)) = false := by simp; omega
          have hk1 : ((k : Nat) : Int) ≤ (x.size : Int) := by omega
          have htc := HC2.out k hk
          have hxs : (x.extract 0 k).size ≤ x.size := by rw [ByteArray.size_extract]; omega
          clear HC2
          have hT5 := mTake_any (x.extract 0 k) _ (hw.below hB4) (by omega)
          generalize hex : x.extract 0 k = xk at hT5 htc hxs
          go_wp2_with fail
          refine hT5.mono ?_
          rintro e w5 (⟨m', B, cb, ht2, rfl, hV, hn, hb5⟩ | ⟨ht2, rfl, hb5⟩)
          · rw [htc] at ht2; cases ht2
          · have hB5 := hB4.trans (hb5.mono hB4.size)
            have hB6 := hB5.alloc hB5.size (.cells #[.int .i64 0, .int .i64 0, .slice none 0 0] 24)
            simp only [noneM]
            clear hT5 hb5 hB5 hB4 ht2 htc hex
            go_wp2
            go_ret
            exact ⟨rfl, hB6⟩
        · have hd : decide (((k : Nat) : Int) < 0) = false := by simp
          have hd2 : decide ((x.size : Int) ≤ ((k : Nat) : Int)) = true := by simp; omega
          clear HC2
          go_wp2
          go_ret
          exact ⟨rfl, hB4⟩
  · have te : (e1 != 0) = true := by simpa using he
    have hx0 := HE.out he
    subst hx0
    clear HZ HT HE HC he
    go_wp2
    go_ret
    exact ⟨rfl, hB2⟩
end Go.Proofs.YtmpfkommeakgbaaDoor
