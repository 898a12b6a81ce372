/-
  The methods by which a value is laid: its bytes, or why it isn't right; nothing that was there is changed. Conditions: the package num's table of widths holds 1, 2, 4, 8; the value's number is a uint64, its text is shorter than 2^47 bytes.
-/
import Derived.Test.YtkdiccedkjbpeaaGreatDoorRJMem
import Derived.Test.YtkdiccedkjbpeaaGreatDoorRJMV
import Derived.Test.YtkdiccedkjbpeaaGreatDoorRKA
namespace Go.Proofs.YtkdiccedkjbpeaaGreatDoorR
open Go.RowKit

set_option maxHeartbeats 1000000 in
theorem number_any (k : Int) (v : MV) (w : World) (hw : Wid w) (hv : wfV v) (hk : isW k = true) :
    Calls Tryz.prog 110 #[encV v, .int .i64 k] w fun e w' => e = .returned (.tuple #[.string (numR k v), .int .i64 (numE k v)]) ∧ Below w.heap.size w w' := by
  obtain ⟨n, s⟩ := v
  obtain ⟨v1, v2, v3⟩ := hv
  dsimp only at v1 v2 v3
  have hb0 : Below w.heap.size w (w.alloc (.cells #[.int .u64 n, .string s] 117)) := (Below.refl _ w).alloc (Nat.le_refl _) _
  have hw0 := hw.below hb0
  have hx := Bx.new w 117 [.int .u64 n, .string s]
  unfold encV
  dsimp only
  go_enter Tryz.func110, Tryz.ntmps110
  go_wp2_with fail
  refine (put_any k n _ hw0 v1 v2).mono ?_
  rintro e w1 ⟨rfl, hb⟩
  have x1 := (hx.kept hb).cell 1 (by simp)
  dsimp only [List.getElem_cons_zero, List.getElem_cons_succ] at x1
  have hB := hb0.trans (hb.mono hb0.size)
  clear hx hb hb0 hw0
  cases hp : putOk k n
  · have e4 : putE k n = 4 := by rw [putE, if_pos hk, if_neg (by simp [hp])]
    have HF : Hid (numR k ⟨n, s⟩ = ⟨#[]⟩ ∧ numE k ⟨n, s⟩ = 4) := Lib.hid (by simp [numR, numE, hp])
    rw [e4]
    clear hp e4
    go_wp2
    go_ret2
    exact ⟨by rw [HF.out.1, HF.out.2]; rfl, hB⟩
  · rw [putE_of hp]
    rcases str_cases s with ⟨rfl, hs⟩ | ⟨ts, hs⟩
    · have HF : Hid (numR k ⟨n, ⟨#[]⟩⟩ = putR k n ∧ numE k ⟨n, ⟨#[]⟩⟩ = 0) := Lib.hid (by
        have e : numE k ⟨n, ⟨#[]⟩⟩ = 0 := by rw [numE, if_pos hp]; rfl
        exact ⟨by rw [numR, if_pos e], e⟩)
      clear hs hp
      generalize putR k n = r at HF ⊢
      go_wp2
      go_ret2
      exact ⟨by rw [HF.out.1, HF.out.2]; rfl, hB⟩
    · have HF : Hid (numR k ⟨n, s⟩ = ⟨#[]⟩ ∧ numE k ⟨n, s⟩ = 1) := Lib.hid (by
        have e : numE k ⟨n, s⟩ = 1 := by rw [numE, if_pos hp, if_neg hs]
        exact ⟨by rw [numR, e]; rfl, e⟩)
      clear hs hp
      generalize putR k n = r at HF ⊢
      go_wp2
      go_ret2
      exact ⟨by rw [HF.out.1, HF.out.2]; rfl, hB⟩
theorem one_any (c : UInt8) (f : Nat) (hc : (c = 111 ∧ f = 92) ∨ (c = 115 ∧ f = 93) ∨ (c = 108 ∧ f = 94) ∨ (c = 113 ∧ f = 95)) (v : MV) (w : World) (hw : Wid w) (hv : wfV v) :
    Calls Tryz.prog f #[encV v] w fun e w' => e = .returned (.tuple #[.string (vRes c v), .int .i64 (vE c v)]) ∧ Below w.heap.size w w' := by
  have hb0 : Below w.heap.size w (w.alloc (.cells #[.int .u64 v.n, .string v.s] 117)) := (Below.refl _ w).alloc (Nat.le_refl _) _
  have hw0 := hw.below hb0
  rcases hc with ⟨rfl, rfl⟩ | ⟨rfl, rfl⟩ | ⟨rfl, rfl⟩ | ⟨rfl, rfl⟩
  · have hN := number_any 1 v _ hw0 hv (by decide)
    have H : Hid (numR 1 v = vRes 111 v ∧ numE 1 v = vE 111 v) := Lib.hid ⟨rfl, rfl⟩
    rw [H.out.1, H.out.2] at hN
    generalize vRes 111 v = a at hN
    generalize vE 111 v = x at hN
    clear H
    unfold encV at hN ⊢
    go_enter Tryz.func92, Tryz.ntmps92
    go_wp2_with fail
    refine hN.mono ?_
    rintro e w1 ⟨rfl, hb⟩
    clear hN
    go_wp2
    go_ret2
    exact ⟨rfl, hb0.trans (hb.mono hb0.size)⟩
  · have hN := number_any 2 v _ hw0 hv (by decide)
    have H : Hid (numR 2 v = vRes 115 v ∧ numE 2 v = vE 115 v) := Lib.hid ⟨rfl, rfl⟩
    rw [H.out.1, H.out.2] at hN
    generalize vRes 115 v = a at hN
    generalize vE 115 v = x at hN
    clear H
    unfold encV at hN ⊢
    go_enter Tryz.func93, Tryz.ntmps93
    go_wp2_with fail
    refine hN.mono ?_
    rintro e w1 ⟨rfl, hb⟩
    clear hN
    go_wp2
    go_ret2
    exact ⟨rfl, hb0.trans (hb.mono hb0.size)⟩
  · have hN := number_any 4 v _ hw0 hv (by decide)
    have H : Hid (numR 4 v = vRes 108 v ∧ numE 4 v = vE 108 v) := Lib.hid ⟨rfl, rfl⟩
    rw [H.out.1, H.out.2] at hN
    generalize vRes 108 v = a at hN
    generalize vE 108 v = x at hN
    clear H
    unfold encV at hN ⊢
    go_enter Tryz.func94, Tryz.ntmps94
    go_wp2_with fail
    refine hN.mono ?_
    rintro e w1 ⟨rfl, hb⟩
    clear hN
    go_wp2
    go_ret2
    exact ⟨rfl, hb0.trans (hb.mono hb0.size)⟩
  · have hN := number_any 8 v _ hw0 hv (by decide)
    have H : Hid (numR 8 v = vRes 113 v ∧ numE 8 v = vE 113 v) := Lib.hid ⟨rfl, rfl⟩
    rw [H.out.1, H.out.2] at hN
    generalize vRes 113 v = a at hN
    generalize vE 113 v = x at hN
    clear H
    unfold encV at hN ⊢
    go_enter Tryz.func95, Tryz.ntmps95
    go_wp2_with fail
    refine hN.mono ?_
    rintro e w1 ⟨rfl, hb⟩
    clear hN
    go_wp2
    go_ret2
    exact ⟨rfl, hb0.trans (hb.mono hb0.size)⟩

set_option maxHeartbeats 1000000 in
theorem bit_any (v : MV) (w : World) (hv : wfV v) :
    Calls Tryz.prog 96 #[encV v] w fun e w' => e = .returned (.tuple #[.string (vRes 98 v), .int .i64 (vE 98 v)]) ∧ Below w.heap.size w w' := by
  obtain ⟨n, s⟩ := v
  obtain ⟨v1, v2, v3⟩ := hv
  dsimp only at v1 v2 v3
  have hb0 : Below w.heap.size w (w.alloc (.cells #[.int .u64 n, .string s] 117)) := (Below.refl _ w).alloc (Nat.le_refl _) _
  have HR : ∀ s, vRes 98 ⟨n, s⟩ = ⟨#[]⟩ := fun s => by unfold vRes vB; split <;> rfl
  unfold encV
  dsimp only
  by_cases hn : 1 < n
  · have hd : decide (1 < n) = true := by simpa using hn
    have HF : Hid (vRes 98 ⟨n, s⟩ = ⟨#[]⟩ ∧ vE 98 ⟨n, s⟩ = 4) := Lib.hid ⟨HR s, by rw [vE, if_pos rfl, if_pos hn]⟩
    clear hn HR
    go_enter Tryz.func96, Tryz.ntmps96
    go_wp2
    go_ret2
    exact ⟨by rw [HF.out.1, HF.out.2]; rfl, hb0⟩
  · have hd : decide (1 < n) = false := by simpa using hn
    rcases str_cases s with ⟨rfl, hs⟩ | ⟨ts, hs⟩
    · have HF : Hid (vRes 98 ⟨n, ⟨#[]⟩⟩ = ⟨#[]⟩ ∧ vE 98 ⟨n, ⟨#[]⟩⟩ = 0) := Lib.hid ⟨HR _, by rw [vE, if_pos rfl, if_neg hn]; rfl⟩
      clear hn hs HR
      go_enter Tryz.func96, Tryz.ntmps96
      go_wp2
      go_ret2
      exact ⟨by rw [HF.out.1, HF.out.2]; rfl, hb0⟩
    · have HF : Hid (vRes 98 ⟨n, s⟩ = ⟨#[]⟩ ∧ vE 98 ⟨n, s⟩ = 1) := Lib.hid ⟨HR _, by rw [vE, if_pos rfl, if_neg hn, if_neg hs]⟩
      clear hn hs HR
      go_enter Tryz.func96, Tryz.ntmps96
      go_wp2
      go_ret2
      exact ⟨by rw [HF.out.1, HF.out.2]; rfl, hb0⟩

set_option maxHeartbeats 1000000 in
theorem vshort_any (v : MV) (w : World) (hw : Wid w) (hv : wfV v) :
    Calls Tryz.prog 97 #[encV v] w fun e w' => e = .returned (.tuple #[.string (vRes 83 v), .int .i64 (vE 83 v)]) ∧ Below w.heap.size w w' := by
  obtain ⟨n, s⟩ := v
  obtain ⟨v1, v2, v3⟩ := hv
  dsimp only at v1 v2 v3
  have hb0 : Below w.heap.size w (w.alloc (.cells #[.int .u64 n, .string s] 117)) := (Below.refl _ w).alloc (Nat.le_refl _) _
  have hw0 := hw.below hb0
  have hx := Bx.new w 117 [.int .u64 n, .string s]
  unfold encV
  dsimp only
  go_enter Tryz.func97, Tryz.ntmps97
  go_wp2_with fail
  refine (short_any s _ hw0 (by omega)).mono ?_
  rintro e w1 ⟨rfl, hb⟩
  have x0 := (hx.kept hb).cell 0 (by simp)
  dsimp only [List.getElem_cons_zero, List.getElem_cons_succ] at x0
  have hB := hb0.trans (hb.mono hb0.size)
  clear hx hb hb0 hw0
  cases hp : layOk 1 s
  · have e4 : layE 1 s = 4 := by
      have hp' : putOk 1 (s.size : Int) = false := hp
      rw [layE, putE, if_pos (by decide), if_neg (by simp [hp'])]
    have HF : Hid (vRes 83 ⟨n, s⟩ = ⟨#[]⟩ ∧ vE 83 ⟨n, s⟩ = 4) := Lib.hid (by
      have e : vE 83 ⟨n, s⟩ = 4 := by rw [vE, if_neg (by decide), if_pos rfl, if_neg (by simp [hp])]
      exact ⟨by rw [vRes, e]; rfl, e⟩)
    rw [e4]
    clear hp e4
    generalize layR 1 s = r
    go_wp2
    go_ret2
    exact ⟨by rw [HF.out.1, HF.out.2]; rfl, hB⟩
  · rw [layE_of hp]
    by_cases hn : n = 0
    · subst hn
      have HF : Hid (vRes 83 ⟨0, s⟩ = layR 1 s ∧ vE 83 ⟨0, s⟩ = 0) := Lib.hid (by
        have e : vE 83 ⟨0, s⟩ = 0 := by rw [vE, if_neg (by decide), if_pos rfl, if_pos hp]; rfl
        exact ⟨by rw [vRes, if_pos e, vB, if_neg (by decide), if_pos rfl], e⟩)
      clear hp
      generalize layR 1 s = r at HF ⊢
      go_wp2
      go_ret2
      exact ⟨by rw [HF.out.1, HF.out.2]; rfl, hB⟩
    · have tn : (n != 0) = true := by simpa using hn
      have HF : Hid (vRes 83 ⟨n, s⟩ = ⟨#[]⟩ ∧ vE 83 ⟨n, s⟩ = 1) := Lib.hid (by
        have e : vE 83 ⟨n, s⟩ = 1 := by rw [vE, if_neg (by decide), if_pos rfl, if_pos hp, if_neg hn]
        exact ⟨by rw [vRes, e]; rfl, e⟩)
      clear hp hn
      generalize layR 1 s = r at HF ⊢
      go_wp2
      go_ret2
      exact ⟨by rw [HF.out.1, HF.out.2]; rfl, hB⟩

set_option maxHeartbeats 1000000 in
theorem vlong_any (v : MV) (w : World) (hw : Wid w) (hv : wfV v) :
    Calls Tryz.prog 98 #[encV v] w fun e w' => e = .returned (.tuple #[.string (vRes 76 v), .int .i64 (vE 76 v)]) ∧ Below w.heap.size w w' := by
  obtain ⟨n, s⟩ := v
  obtain ⟨v1, v2, v3⟩ := hv
  dsimp only at v1 v2 v3
  have hb0 : Below w.heap.size w (w.alloc (.cells #[.int .u64 n, .string s] 117)) := (Below.refl _ w).alloc (Nat.le_refl _) _
  have hw0 := hw.below hb0
  unfold encV
  dsimp only
  by_cases hs : 131072 < s.size
  · have HF : Hid (vRes 76 ⟨n, s⟩ = ⟨#[]⟩ ∧ vE 76 ⟨n, s⟩ = 4) := Lib.hid (by
      have e : vE 76 ⟨n, s⟩ = 4 := by rw [vE, if_neg (by decide), if_neg (by decide), if_pos rfl, if_pos hs]
      exact ⟨by rw [vRes, e]; rfl, e⟩)
    have hd : decide ((131072 : Int) < (s.size : Int)) = true := by simp; omega
    clear hw0
    go_enter Tryz.func98, Tryz.ntmps98
    go_wp2
    go_ret2
    exact ⟨by rw [HF.out.1, HF.out.2]; rfl, hb0⟩
  · have hd : decide ((131072 : Int) < (s.size : Int)) = false := by simp; omega
    by_cases hn : n = 0
    · subst hn
      have hl : layOk 4 s = true := by rw [layOk_four]; simp; omega
      have hL := long_any s _ hw0 (by omega)
      have HF : Hid (vRes 76 ⟨0, s⟩ = layR 4 s ∧ vE 76 ⟨0, s⟩ = layE 4 s) := Lib.hid (by
        have e : vE 76 ⟨0, s⟩ = 0 := by rw [vE, if_neg (by decide), if_neg (by decide), if_pos rfl, if_neg hs]; rfl
        exact ⟨by rw [vRes, if_pos e, vB, if_neg (by decide), if_neg (by decide), if_pos rfl], by rw [e, layE_of hl]⟩)
      generalize layR 4 s = r at HF hL
      generalize layE 4 s = x at HF hL
      go_enter Tryz.func98, Tryz.ntmps98
      go_wp2_with fail
      refine hL.mono ?_
      rintro e w1 ⟨rfl, hb⟩
      clear hL
      go_wp2
      go_ret2
      exact ⟨by rw [HF.out.1, HF.out.2]; rfl, hb0.trans (hb.mono hb0.size)⟩
    · have tn : (n != 0) = true := by simpa using hn
      have HF : Hid (vRes 76 ⟨n, s⟩ = ⟨#[]⟩ ∧ vE 76 ⟨n, s⟩ = 1) := Lib.hid (by
        have e : vE 76 ⟨n, s⟩ = 1 := by rw [vE, if_neg (by decide), if_neg (by decide), if_pos rfl, if_neg hs, if_neg hn]
        exact ⟨by rw [vRes, e]; rfl, e⟩)
      clear hw0 hn
      go_enter Tryz.func98, Tryz.ntmps98
      go_wp2
      go_ret2
      exact ⟨by rw [HF.out.1, HF.out.2]; rfl, hb0⟩

set_option maxHeartbeats 1000000 in
theorem vtable_any (v : MV) (w : World) (hw : Wid w) (hv : wfV v) :
    Calls Tryz.prog 99 #[encV v] w fun e w' => e = .returned (.tuple #[.string (vRes 84 v), .int .i64 (vE 84 v)]) ∧ Below w.heap.size w w' := by
  obtain ⟨n, s⟩ := v
  obtain ⟨v1, v2, v3⟩ := hv
  dsimp only at v1 v2 v3
  have hb0 : Below w.heap.size w (w.alloc (.cells #[.int .u64 n, .string s] 117)) := (Below.refl _ w).alloc (Nat.le_refl _) _
  have hw0 := hw.below hb0
  have hx := Bx.new w 117 [.int .u64 n, .string s]
  unfold encV
  dsimp only
  by_cases hn : n = 0
  · subst hn
    have hT := tabTake_any s _ hw0 (by omega)
    have hI : tabIs s = (decide ((nest true s 32).err = 0) && decide ((takenB (nest true s 32)).size = 0)) := by
      rw [tabIs, takenB]
      by_cases g : (nest true s 32).err = 0
      · rw [if_pos g]
      · simp [g]
    have HI := Lib.hid hI
    clear hI
    have HV : Hid (vE 84 ⟨0, s⟩ = if tabIs s = true then 0 else 3) := Lib.hid rfl
    have HR : Hid (vRes 84 ⟨0, s⟩ = if vE 84 ⟨0, s⟩ = 0 then s else ⟨#[]⟩) := Lib.hid rfl
    generalize takenA s (nest true s 32) = a at hT
    generalize takenB (nest true s 32) = b at hT HI
    generalize (nest true s 32).err = x at hT HI
    generalize vRes 84 ⟨0, s⟩ = vr at HR ⊢
    generalize vE 84 ⟨0, s⟩ = ve at HV HR ⊢
    go_enter Tryz.func99, Tryz.ntmps99
    go_wp2_with fail
    refine hT.mono ?_
    rintro e w1 ⟨rfl, hb⟩
    have x1 := (hx.kept hb).cell 1 (by simp)
    dsimp only [List.getElem_cons_zero, List.getElem_cons_succ] at x1
    have hB := hb0.trans (hb.mono hb0.size)
    clear hT hx hb hb0 hw0
    by_cases hx0 : x = 0
    · subst hx0
      rcases str_cases b with ⟨rfl, hs⟩ | ⟨ts, hs⟩
      · have HF : Hid (vr = s ∧ ve = 0) := Lib.hid (by
          have e : ve = 0 := by rw [HV.out, HI.out]; rfl
          exact ⟨by rw [HR.out, if_pos e], e⟩)
        clear hs HI HV HR
        go_wp2
        go_ret2
        exact ⟨by rw [HF.out.1, HF.out.2]; rfl, hB⟩
      · have HF : Hid (vr = ⟨#[]⟩ ∧ ve = 3) := Lib.hid (by
          have e : ve = 3 := by rw [HV.out, HI.out, if_neg (by rw [Bool.and_eq_true]; rintro ⟨-, h⟩; exact hs (of_decide_eq_true h))]
          exact ⟨by rw [HR.out, e]; rfl, e⟩)
        clear hs HI HV HR
        go_wp2
        go_ret2
        exact ⟨by rw [HF.out.1, HF.out.2]; rfl, hB⟩
    · have tx : (x != 0) = true := by simpa using hx0
      have HF : Hid (vr = ⟨#[]⟩ ∧ ve = 3) := Lib.hid (by
        have e : ve = 3 := by rw [HV.out, HI.out, if_neg (by simp [hx0])]
        exact ⟨by rw [HR.out, e]; rfl, e⟩)
      clear hx0 HI HV HR
      go_wp2
      go_ret2
      exact ⟨by rw [HF.out.1, HF.out.2]; rfl, hB⟩
  · have tn : (n != 0) = true := by simpa using hn
    have HF : Hid (vRes 84 ⟨n, s⟩ = ⟨#[]⟩ ∧ vE 84 ⟨n, s⟩ = 1) := Lib.hid (by
      have e : vE 84 ⟨n, s⟩ = 1 := by rw [vE, if_neg (by decide), if_neg (by decide), if_neg (by decide), if_pos rfl, if_neg hn]
      exact ⟨by rw [vRes, e]; rfl, e⟩)
    clear hw0 hn hx
    go_enter Tryz.func99, Tryz.ntmps99
    go_wp2
    go_ret2
    exact ⟨by rw [HF.out.1, HF.out.2]; rfl, hb0⟩
end Go.Proofs.YtkdiccedkjbpeaaGreatDoorR
