/-
  Several texts joined in one file: each says at its own head, below, what it proves, and its conditions.
-/
import Derived.Test.YtllgkohgcicbhaaGreatDoorZA
import Derived.Test.YtllgkohgcicbhaaGreatDoorZE
import Derived.Test.YtllgkohgcicbhaaGreatDoorZB
import Derived.Test.YtllgkohgcicbhaaGreatDoorZC
import Derived.Test.YtllgkohgcicbhaaGreatDoorJBuild
import Derived.RangeFuncNested
import Derived.RangeFuncBound
import Derived.RangeFuncCalls
import Derived.RangeFuncLeaves
import Derived.WalkMore
import Derived.Deep.RegionHeld3
import Derived.Test.YtllgkohgcicbhaaGreatDoorZK
/-
  The methods by which a value is laid: its bytes, or why it isn't right; nothing that was there is changed. Conditions: the package num's table of widths holds 1, 2, 4, 8; the value's number is a uint64, its text is shorter than 2^47 bytes.
-/
namespace Go.Proofs.YtllgkohgcicbhaaGreatDoor
open Go.RowKit

set_option maxHeartbeats 1000000 in
theorem number_any (k : Int) (v : MV) (w : World) (hw : Wid w) (hv : wfV v) (hk : isW k = true) :
    Calls Tryz.prog 137 #[encV v, .int .i64 k] w fun e w' => e = .returned (.tuple #[.string (numR k v), .int .i64 (numE k v)]) ∧ Below w.heap.size w w' := by
  obtain ⟨n, s⟩ := v
  obtain ⟨v1, v2, v3⟩ := hv
  dsimp only at v1 v2 v3
  have hb0 : Below w.heap.size w (w.alloc (.cells #[.int .u64 n, .string s] 160)) := (Below.refl _ w).alloc (Nat.le_refl _) _
  have hw0 := hw.below hb0
  have hx := Bx.new w 160 [.int .u64 n, .string s]
  unfold encV
  dsimp only
  go_enter Tryz.func137, Tryz.ntmps137
  go_wp2_with fail
  refine (put_any k n _ hw0 v1 v2).mono ?_
  rintro e w1 ⟨rfl, hb⟩
  have x1 := (hx.kept hb).cell 1 (by simp)
  dsimp only [List.getElem_cons_zero, List.getElem_cons_succ] at x1
  have hB := hb0.trans (hb.mono hb0.size)
  clear hx hb hb0 hw0
  cases hp : putOk k n
  · have e4 : putE k n = 4 := by rw [putE, if_pos hk, if_neg (by simp [hp])]
    have HF : Hid (numR k ⟨n, s⟩ = ⟨#[]⟩ ∧ numE k ⟨n, s⟩ = 4) := Lib.hid (by simp [numR, numE, hp])
    rw [e4]
    clear hp e4
    go_wp2
    go_ret2
    exact ⟨by rw [HF.out.1, HF.out.2]; rfl, hB⟩
  · rw [putE_of hp]
    rcases str_cases s with ⟨rfl, hs⟩ | ⟨ts, hs⟩
    · have HF : Hid (numR k ⟨n, ⟨#[]⟩⟩ = putR k n ∧ numE k ⟨n, ⟨#[]⟩⟩ = 0) := Lib.hid (by
        have e : numE k ⟨n, ⟨#[]⟩⟩ = 0 := by rw [numE, if_pos hp]; rfl
        exact ⟨by rw [numR, if_pos e], e⟩)
      clear hs hp
      generalize putR k n = r at HF ⊢
      go_wp2
      go_ret2
      exact ⟨by rw [HF.out.1, HF.out.2]; rfl, hB⟩
    · have HF : Hid (numR k ⟨n, s⟩ = ⟨#[]⟩ ∧ numE k ⟨n, s⟩ = 1) := Lib.hid (by
        have e : numE k ⟨n, s⟩ = 1 := by rw [numE, if_pos hp, if_neg hs]
        exact ⟨by rw [numR, e]; rfl, e⟩)
      clear hs hp
      generalize putR k n = r at HF ⊢
      go_wp2
      go_ret2
      exact ⟨by rw [HF.out.1, HF.out.2]; rfl, hB⟩
theorem one_any (c : UInt8) (f : Nat) (hc : (c = 111 ∧ f = 112) ∨ (c = 115 ∧ f = 113) ∨ (c = 108 ∧ f = 114) ∨ (c = 113 ∧ f = 115)) (v : MV) (w : World) (hw : Wid w) (hv : wfV v) :
    Calls Tryz.prog f #[encV v] w fun e w' => e = .returned (.tuple #[.string (vRes c v), .int .i64 (vE c v)]) ∧ Below w.heap.size w w' := by
  have hb0 : Below w.heap.size w (w.alloc (.cells #[.int .u64 v.n, .string v.s] 160)) := (Below.refl _ w).alloc (Nat.le_refl _) _
  have hw0 := hw.below hb0
  rcases hc with ⟨rfl, rfl⟩ | ⟨rfl, rfl⟩ | ⟨rfl, rfl⟩ | ⟨rfl, rfl⟩
  · have hN := number_any 1 v _ hw0 hv (by decide)
    have H : Hid (numR 1 v = vRes 111 v ∧ numE 1 v = vE 111 v) := Lib.hid ⟨rfl, rfl⟩
    rw [H.out.1, H.out.2] at hN
    generalize vRes 111 v = a at hN
    generalize vE 111 v = x at hN
    clear H
    unfold encV at hN ⊢
    go_enter Tryz.func112, Tryz.ntmps112
    go_wp2_with fail
    refine hN.mono ?_
    rintro e w1 ⟨rfl, hb⟩
    clear hN
    go_wp2
    go_ret2
    exact ⟨rfl, hb0.trans (hb.mono hb0.size)⟩
  · have hN := number_any 2 v _ hw0 hv (by decide)
    have H : Hid (numR 2 v = vRes 115 v ∧ numE 2 v = vE 115 v) := Lib.hid ⟨rfl, rfl⟩
    rw [H.out.1, H.out.2] at hN
    generalize vRes 115 v = a at hN
    generalize vE 115 v = x at hN
    clear H
    unfold encV at hN ⊢
    go_enter Tryz.func113, Tryz.ntmps113
    go_wp2_with fail
    refine hN.mono ?_
    rintro e w1 ⟨rfl, hb⟩
    clear hN
    go_wp2
    go_ret2
    exact ⟨rfl, hb0.trans (hb.mono hb0.size)⟩
  · have hN := number_any 4 v _ hw0 hv (by decide)
    have H : Hid (numR 4 v = vRes 108 v ∧ numE 4 v = vE 108 v) := Lib.hid ⟨rfl, rfl⟩
    rw [H.out.1, H.out.2] at hN
    generalize vRes 108 v = a at hN
    generalize vE 108 v = x at hN
    clear H
    unfold encV at hN ⊢
    go_enter Tryz.func114, Tryz.ntmps114
    go_wp2_with fail
    refine hN.mono ?_
    rintro e w1 ⟨rfl, hb⟩
    clear hN
    go_wp2
    go_ret2
    exact ⟨rfl, hb0.trans (hb.mono hb0.size)⟩
  · have hN := number_any 8 v _ hw0 hv (by decide)
    have H : Hid (numR 8 v = vRes 113 v ∧ numE 8 v = vE 113 v) := Lib.hid ⟨rfl, rfl⟩
    rw [H.out.1, H.out.2] at hN
    generalize vRes 113 v = a at hN
    generalize vE 113 v = x at hN
    clear H
    unfold encV at hN ⊢
    go_enter Tryz.func115, Tryz.ntmps115
    go_wp2_with fail
    refine hN.mono ?_
    rintro e w1 ⟨rfl, hb⟩
    clear hN
    go_wp2
    go_ret2
    exact ⟨rfl, hb0.trans (hb.mono hb0.size)⟩

set_option maxHeartbeats 1000000 in
theorem bit_any (v : MV) (w : World) (hv : wfV v) :
    Calls Tryz.prog 116 #[encV v] w fun e w' => e = .returned (.tuple #[.string (vRes 98 v), .int .i64 (vE 98 v)]) ∧ Below w.heap.size w w' := by
  obtain ⟨n, s⟩ := v
  obtain ⟨v1, v2, v3⟩ := hv
  dsimp only at v1 v2 v3
  have hb0 : Below w.heap.size w (w.alloc (.cells #[.int .u64 n, .string s] 160)) := (Below.refl _ w).alloc (Nat.le_refl _) _
  have HR : ∀ s, vRes 98 ⟨n, s⟩ = ⟨#[]⟩ := fun s => by unfold vRes vB; split <;> rfl
  unfold encV
  dsimp only
  by_cases hn : 1 < n
  · have hd : decide (1 < n) = true := by simpa using hn
    have HF : Hid (vRes 98 ⟨n, s⟩ = ⟨#[]⟩ ∧ vE 98 ⟨n, s⟩ = 4) := Lib.hid ⟨HR s, by rw [vE, if_pos rfl, if_pos hn]⟩
    clear hn HR
    go_enter Tryz.func116, Tryz.ntmps116
    go_wp2
    go_ret2
    exact ⟨by rw [HF.out.1, HF.out.2]; rfl, hb0⟩
  · have hd : decide (1 < n) = false := by simpa using hn
    rcases str_cases s with ⟨rfl, hs⟩ | ⟨ts, hs⟩
    · have HF : Hid (vRes 98 ⟨n, ⟨#[]⟩⟩ = ⟨#[]⟩ ∧ vE 98 ⟨n, ⟨#[]⟩⟩ = 0) := Lib.hid ⟨HR _, by rw [vE, if_pos rfl, if_neg hn]; rfl⟩
      clear hn hs HR
      go_enter Tryz.func116, Tryz.ntmps116
      go_wp2
      go_ret2
      exact ⟨by rw [HF.out.1, HF.out.2]; rfl, hb0⟩
    · have HF : Hid (vRes 98 ⟨n, s⟩ = ⟨#[]⟩ ∧ vE 98 ⟨n, s⟩ = 1) := Lib.hid ⟨HR _, by rw [vE, if_pos rfl, if_neg hn, if_neg hs]⟩
      clear hn hs HR
      go_enter Tryz.func116, Tryz.ntmps116
      go_wp2
      go_ret2
      exact ⟨by rw [HF.out.1, HF.out.2]; rfl, hb0⟩

set_option maxHeartbeats 1000000 in
theorem vshort_any (v : MV) (w : World) (hw : Wid w) (hv : wfV v) :
    Calls Tryz.prog 117 #[encV v] w fun e w' => e = .returned (.tuple #[.string (vRes 83 v), .int .i64 (vE 83 v)]) ∧ Below w.heap.size w w' := by
  obtain ⟨n, s⟩ := v
  obtain ⟨v1, v2, v3⟩ := hv
  dsimp only at v1 v2 v3
  have hb0 : Below w.heap.size w (w.alloc (.cells #[.int .u64 n, .string s] 160)) := (Below.refl _ w).alloc (Nat.le_refl _) _
  have hw0 := hw.below hb0
  have hx := Bx.new w 160 [.int .u64 n, .string s]
  unfold encV
  dsimp only
  go_enter Tryz.func117, Tryz.ntmps117
  go_wp2_with fail
  refine (short_any s _ hw0 (by omega)).mono ?_
  rintro e w1 ⟨rfl, hb⟩
  have x0 := (hx.kept hb).cell 0 (by simp)
  dsimp only [List.getElem_cons_zero, List.getElem_cons_succ] at x0
  have hB := hb0.trans (hb.mono hb0.size)
  clear hx hb hb0 hw0
  cases hp : layOk 1 s
  · have e4 : layE 1 s = 4 := by
      have hp' : putOk 1 (s.size : Int) = false := hp
      rw [layE, putE, if_pos (by decide), if_neg (by simp [hp'])]
    have HF : Hid (vRes 83 ⟨n, s⟩ = ⟨#[]⟩ ∧ vE 83 ⟨n, s⟩ = 4) := Lib.hid (by
      have e : vE 83 ⟨n, s⟩ = 4 := by rw [vE, if_neg (by decide), if_pos rfl, if_neg (by simp [hp])]
      exact ⟨by rw [vRes, e]; rfl, e⟩)
    rw [e4]
    clear hp e4
    generalize layR 1 s = r
    go_wp2
    go_ret2
    exact ⟨by rw [HF.out.1, HF.out.2]; rfl, hB⟩
  · rw [layE_of hp]
    by_cases hn : n = 0
    · subst hn
      have HF : Hid (vRes 83 ⟨0, s⟩ = layR 1 s ∧ vE 83 ⟨0, s⟩ = 0) := Lib.hid (by
        have e : vE 83 ⟨0, s⟩ = 0 := by rw [vE, if_neg (by decide), if_pos rfl, if_pos hp]; rfl
        exact ⟨by rw [vRes, if_pos e, vB, if_neg (by decide), if_pos rfl], e⟩)
      clear hp
      generalize layR 1 s = r at HF ⊢
      go_wp2
      go_ret2
      exact ⟨by rw [HF.out.1, HF.out.2]; rfl, hB⟩
    · have tn : (n != 0) = true := by simpa using hn
      have HF : Hid (vRes 83 ⟨n, s⟩ = ⟨#[]⟩ ∧ vE 83 ⟨n, s⟩ = 1) := Lib.hid (by
        have e : vE 83 ⟨n, s⟩ = 1 := by rw [vE, if_neg (by decide), if_pos rfl, if_pos hp, if_neg hn]
        exact ⟨by rw [vRes, e]; rfl, e⟩)
      clear hp hn
      generalize layR 1 s = r at HF ⊢
      go_wp2
      go_ret2
      exact ⟨by rw [HF.out.1, HF.out.2]; rfl, hB⟩

set_option maxHeartbeats 1000000 in
theorem vlong_any (v : MV) (w : World) (hw : Wid w) (hv : wfV v) :
    Calls Tryz.prog 118 #[encV v] w fun e w' => e = .returned (.tuple #[.string (vRes 76 v), .int .i64 (vE 76 v)]) ∧ Below w.heap.size w w' := by
  obtain ⟨n, s⟩ := v
  obtain ⟨v1, v2, v3⟩ := hv
  dsimp only at v1 v2 v3
  have hb0 : Below w.heap.size w (w.alloc (.cells #[.int .u64 n, .string s] 160)) := (Below.refl _ w).alloc (Nat.le_refl _) _
  have hw0 := hw.below hb0
  unfold encV
  dsimp only
  by_cases hs : 131072 < s.size
  · have HF : Hid (vRes 76 ⟨n, s⟩ = ⟨#[]⟩ ∧ vE 76 ⟨n, s⟩ = 4) := Lib.hid (by
      have e : vE 76 ⟨n, s⟩ = 4 := by rw [vE, if_neg (by decide), if_neg (by decide), if_pos rfl, if_pos hs]
      exact ⟨by rw [vRes, e]; rfl, e⟩)
    have hd : decide ((131072 : Int) < (s.size : Int)) = true := by simp; omega
    clear hw0
    go_enter Tryz.func118, Tryz.ntmps118
    go_wp2
    go_ret2
    exact ⟨by rw [HF.out.1, HF.out.2]; rfl, hb0⟩
  · have hd : decide ((131072 : Int) < (s.size : Int)) = false := by simp; omega
    by_cases hn : n = 0
    · subst hn
      have hl : layOk 4 s = true := by rw [layOk_four]; simp; omega
      have hL := long_any s _ hw0 (by omega)
      have HF : Hid (vRes 76 ⟨0, s⟩ = layR 4 s ∧ vE 76 ⟨0, s⟩ = layE 4 s) := Lib.hid (by
        have e : vE 76 ⟨0, s⟩ = 0 := by rw [vE, if_neg (by decide), if_neg (by decide), if_pos rfl, if_neg hs]; rfl
        exact ⟨by rw [vRes, if_pos e, vB, if_neg (by decide), if_neg (by decide), if_pos rfl], by rw [e, layE_of hl]⟩)
      generalize layR 4 s = r at HF hL
      generalize layE 4 s = x at HF hL
      go_enter Tryz.func118, Tryz.ntmps118
      go_wp2_with fail
      refine hL.mono ?_
      rintro e w1 ⟨rfl, hb⟩
      clear hL
      go_wp2
      go_ret2
      exact ⟨by rw [HF.out.1, HF.out.2]; rfl, hb0.trans (hb.mono hb0.size)⟩
    · have tn : (n != 0) = true := by simpa using hn
      have HF : Hid (vRes 76 ⟨n, s⟩ = ⟨#[]⟩ ∧ vE 76 ⟨n, s⟩ = 1) := Lib.hid (by
        have e : vE 76 ⟨n, s⟩ = 1 := by rw [vE, if_neg (by decide), if_neg (by decide), if_pos rfl, if_neg hs, if_neg hn]
        exact ⟨by rw [vRes, e]; rfl, e⟩)
      clear hw0 hn
      go_enter Tryz.func118, Tryz.ntmps118
      go_wp2
      go_ret2
      exact ⟨by rw [HF.out.1, HF.out.2]; rfl, hb0⟩

set_option maxHeartbeats 1000000 in
theorem vtable_any (v : MV) (w : World) (hw : Wid w) (hv : wfV v) :
    Calls Tryz.prog 119 #[encV v] w fun e w' => e = .returned (.tuple #[.string (vRes 84 v), .int .i64 (vE 84 v)]) ∧ Below w.heap.size w w' := by
  obtain ⟨n, s⟩ := v
  obtain ⟨v1, v2, v3⟩ := hv
  dsimp only at v1 v2 v3
  have hb0 : Below w.heap.size w (w.alloc (.cells #[.int .u64 n, .string s] 160)) := (Below.refl _ w).alloc (Nat.le_refl _) _
  have hw0 := hw.below hb0
  have hx := Bx.new w 160 [.int .u64 n, .string s]
  unfold encV
  dsimp only
  by_cases hn : n = 0
  · subst hn
    have hT := tabTake_any s _ hw0 (by omega)
    have hI : tabIs s = (decide ((nest true s 32).err = 0) && decide ((takenB (nest true s 32)).size = 0)) := by
      rw [tabIs, takenB]
      by_cases g : (nest true s 32).err = 0
      · rw [if_pos g]
      · simp [g]
    have HI := Lib.hid hI
    clear hI
    have HV : Hid (vE 84 ⟨0, s⟩ = if tabIs s = true then 0 else 3) := Lib.hid rfl
    have HR : Hid (vRes 84 ⟨0, s⟩ = if vE 84 ⟨0, s⟩ = 0 then s else ⟨#[]⟩) := Lib.hid rfl
    generalize takenA s (nest true s 32) = a at hT
    generalize takenB (nest true s 32) = b at hT HI
    generalize (nest true s 32).err = x at hT HI
    generalize vRes 84 ⟨0, s⟩ = vr at HR ⊢
    generalize vE 84 ⟨0, s⟩ = ve at HV HR ⊢
    go_enter Tryz.func119, Tryz.ntmps119
    go_wp2_with fail
    refine hT.mono ?_
    rintro e w1 ⟨rfl, hb⟩
    have x1 := (hx.kept hb).cell 1 (by simp)
    dsimp only [List.getElem_cons_zero, List.getElem_cons_succ] at x1
    have hB := hb0.trans (hb.mono hb0.size)
    clear hT hx hb hb0 hw0
    by_cases hx0 : x = 0
    · subst hx0
      rcases str_cases b with ⟨rfl, hs⟩ | ⟨ts, hs⟩
      · have HF : Hid (vr = s ∧ ve = 0) := Lib.hid (by
          have e : ve = 0 := by rw [HV.out, HI.out]; rfl
          exact ⟨by rw [HR.out, if_pos e], e⟩)
        clear hs HI HV HR
        go_wp2
        go_ret2
        exact ⟨by rw [HF.out.1, HF.out.2]; rfl, hB⟩
      · have HF : Hid (vr = ⟨#[]⟩ ∧ ve = 3) := Lib.hid (by
          have e : ve = 3 := by rw [HV.out, HI.out, if_neg (by rw [Bool.and_eq_true]; rintro ⟨-, h⟩; exact hs (of_decide_eq_true h))]
          exact ⟨by rw [HR.out, e]; rfl, e⟩)
        clear hs HI HV HR
        go_wp2
        go_ret2
        exact ⟨by rw [HF.out.1, HF.out.2]; rfl, hB⟩
    · have tx : (x != 0) = true := by simpa using hx0
      have HF : Hid (vr = ⟨#[]⟩ ∧ ve = 3) := Lib.hid (by
        have e : ve = 3 := by rw [HV.out, HI.out, if_neg (by simp [hx0])]
        exact ⟨by rw [HR.out, e]; rfl, e⟩)
      clear hx0 HI HV HR
      go_wp2
      go_ret2
      exact ⟨by rw [HF.out.1, HF.out.2]; rfl, hB⟩
  · have tn : (n != 0) = true := by simpa using hn
    have HF : Hid (vRes 84 ⟨n, s⟩ = ⟨#[]⟩ ∧ vE 84 ⟨n, s⟩ = 1) := Lib.hid (by
      have e : vE 84 ⟨n, s⟩ = 1 := by rw [vE, if_neg (by decide), if_neg (by decide), if_neg (by decide), if_pos rfl, if_neg hn]
      exact ⟨by rw [vRes, e]; rfl, e⟩)
    clear hw0 hn hx
    go_enter Tryz.func119, Tryz.ntmps119
    go_wp2
    go_ret2
    exact ⟨by rw [HF.out.1, HF.out.2]; rfl, hb0⟩
end Go.Proofs.YtllgkohgcicbhaaGreatDoor

/-
  method.ways makes a map that has, at the byte of each letter, the method by which such a value is laid. No condition.
-/
namespace Go.Proofs.YtllgkohgcicbhaaGreatDoor
open Go.RowKit Go.Maps

/-- how a function without captured things reads, for a map's sake: its number -/
def funcElem (v : Value) : Option (DataW Unit × List MemPlace) := match v with
  | .func (.func f) a b => if a.isEmpty && b.isEmpty then some (.lit (.int .i64 (f : Nat)), []) else none
  | .nilFunc => some (.lit (.int .i64 (-1)), [])
  | _ => none
theorem funcElem_mk (f : Nat) : funcElem (.func (.func f) #[] #[]) = some (.lit (.int .i64 (f : Nat)), []) := rfl
theorem funcElem_inv {v : Value} {f : Nat} {ps : List MemPlace} (h : funcElem v = some (.lit (.int .i64 (f : Nat)), ps)) : v = .func (.func f) #[] #[] := by
  unfold funcElem at h
  split at h
  · rename_i g a b
    split at h
    · rename_i hc
      rw [Bool.and_eq_true, Array.isEmpty_iff, Array.isEmpty_iff] at hc
      obtain ⟨rfl, rfl⟩ := hc
      simp only [Option.some.injEq, Prod.mk.injEq, DataW.lit.injEq, Lit.int.injEq, true_and] at h
      have hg : g = f := Int.ofNat.inj h.1
      rw [hg]
    · cases h
  · simp only [Option.some.injEq, Prod.mk.injEq, DataW.lit.injEq, Lit.int.injEq, true_and] at h
    omega
  · cases h
theorem zeroWay (w : World) : (zeroValue 159).run Tryz.prog w = .ok .nilFunc w := by kernel_rfl

def waysD : DataW Unit := (((((((((DataW.map []).put (.int .u8 111) (.lit (.int .i64 112))).put (.int .u8 115) (.lit (.int .i64 113))).put (.int .u8 108) (.lit (.int .i64 114))).put (.int .u8 113) (.lit (.int .i64 115))).put (.int .u8 98) (.lit (.int .i64 116))).put (.int .u8 83) (.lit (.int .i64 117))).put (.int .u8 76) (.lit (.int .i64 118))).put (.int .u8 84) (.lit (.int .i64 119)))
/-- the method of a letter -/
def wayF (c : UInt8) : Nat := if c = 111 then 112 else if c = 115 then 113 else if c = 108 then 114 else if c = 113 then 115 else if c = 98 then 116 else if c = 83 then 117 else if c = 76 then 118 else 119
theorem ways_at (c : UInt8) (h : isLet c = true) : waysD.atKey (.int .u8 (c.toNat : Nat)) (.lit (.int .i64 (-1))) = .lit (.int .i64 ((wayF c : Nat) : Int)) := by
  rcases let_cases h with rfl | rfl | rfl | rfl | rfl | rfl | rfl | rfl <;> kernel_rfl
def Ways (w : World) (M : Nat) : Prop := w.ownsMap Tryz.prog 5 funcElem M 8 waysD
theorem Ways.lt {w : World} {M : Nat} (h : Ways w M) : M < w.heap.size := World.ownsMap.lt h
theorem Ways.block {w w' : World} {M : Nat} (h : Ways w M) (hb : w'.heap[M]? = w.heap[M]?) : Ways w' M := by
  obtain ⟨es, clock, h1, h2, h3, h4⟩ := h
  exact ⟨es, clock, hb.trans h1, h2, h3, h4⟩
theorem Ways.below {w w' : World} {M n : Nat} (h : Ways w M) (hb : Below n w w') (hn : M < n) : Ways w' M := h.block (hb.block M hn)
theorem Ways.look {w : World} {M : Nat} (h : Ways w M) (c : UInt8) (hc : isLet c = true) : (Instr.lookup 156 (.map (some M)) (.int .u8 (c.toNat : Nat)) false).run Tryz.prog w = .ok (.func (.func (wayF c)) #[] #[]) w := by
  obtain ⟨v, ps, hrun, hv⟩ := World.ownsMap.lookup h lawByte Tryz.underlying156 (zeroWay w) (zd := .lit (.int .i64 (-1))) (zp := []) rfl (keyOf_int_mk (q := .u8) (a := (c.toNat : Nat)) Tryz.underlying5 (by rcases let_cases hc with rfl | rfl | rfl | rfl | rfl | rfl | rfl | rfl <;> decide))
  rw [ways_at c hc] at hv
  rw [hrun, funcElem_inv hv]

set_option maxRecDepth 100000 in
set_option maxHeartbeats 1000000 in
theorem ways_any (w : World) :
    Calls Tryz.prog 89 #[] w fun e w' => e = .returned (.map (some w.heap.size)) ∧ Ways w' w.heap.size ∧ Below w.heap.size w w' := by
  have hmm := @run_makeMap Tryz.prog
  have hm0 := World.ownsMap_made w Tryz.prog 5 funcElem
  have hb0 : Below w.heap.size w (w.alloc (.map #[] 0)) := (Below.refl _ _).alloc (Nat.le_refl _) _
  obtain ⟨w1, hr1, hm1, hg1⟩ := hm0.update (t := 156) (e := 159) lawByte Tryz.underlying156 (by decide) (keyOf_int_mk (q := .u8) (a := 111) Tryz.underlying5 (by decide)) (funcElem_mk 112)
  have hb1 := hb0.grown hg1 hb0.size (fun k e => by cases e; exact Nat.le_refl _)
  clear hm0 hg1 hb0
  obtain ⟨w2, hr2, hm2, hg2⟩ := hm1.update (t := 156) (e := 159) lawByte Tryz.underlying156 (by decide) (keyOf_int_mk (q := .u8) (a := 115) Tryz.underlying5 (by decide)) (funcElem_mk 113)
  have hb2 := hb1.grown hg2 hb1.size (fun k e => by cases e; exact Nat.le_refl _)
  clear hm1 hg2 hb1
  obtain ⟨w3, hr3, hm3, hg3⟩ := hm2.update (t := 156) (e := 159) lawByte Tryz.underlying156 (by decide) (keyOf_int_mk (q := .u8) (a := 108) Tryz.underlying5 (by decide)) (funcElem_mk 114)
  have hb3 := hb2.grown hg3 hb2.size (fun k e => by cases e; exact Nat.le_refl _)
  clear hm2 hg3 hb2
  obtain ⟨w4, hr4, hm4, hg4⟩ := hm3.update (t := 156) (e := 159) lawByte Tryz.underlying156 (by decide) (keyOf_int_mk (q := .u8) (a := 113) Tryz.underlying5 (by decide)) (funcElem_mk 115)
  have hb4 := hb3.grown hg4 hb3.size (fun k e => by cases e; exact Nat.le_refl _)
  clear hm3 hg4 hb3
  obtain ⟨w5, hr5, hm5, hg5⟩ := hm4.update (t := 156) (e := 159) lawByte Tryz.underlying156 (by decide) (keyOf_int_mk (q := .u8) (a := 98) Tryz.underlying5 (by decide)) (funcElem_mk 116)
  have hb5 := hb4.grown hg5 hb4.size (fun k e => by cases e; exact Nat.le_refl _)
  clear hm4 hg5 hb4
  obtain ⟨w6, hr6, hm6, hg6⟩ := hm5.update (t := 156) (e := 159) lawByte Tryz.underlying156 (by decide) (keyOf_int_mk (q := .u8) (a := 83) Tryz.underlying5 (by decide)) (funcElem_mk 117)
  have hb6 := hb5.grown hg6 hb5.size (fun k e => by cases e; exact Nat.le_refl _)
  clear hm5 hg6 hb5
  obtain ⟨w7, hr7, hm7, hg7⟩ := hm6.update (t := 156) (e := 159) lawByte Tryz.underlying156 (by decide) (keyOf_int_mk (q := .u8) (a := 76) Tryz.underlying5 (by decide)) (funcElem_mk 118)
  have hb7 := hb6.grown hg7 hb6.size (fun k e => by cases e; exact Nat.le_refl _)
  clear hm6 hg7 hb6
  obtain ⟨w8, hr8, hm8, hg8⟩ := hm7.update (t := 156) (e := 159) lawByte Tryz.underlying156 (by decide) (keyOf_int_mk (q := .u8) (a := 84) Tryz.underlying5 (by decide)) (funcElem_mk 119)
  have hb8 := hb7.grown hg8 hb7.size (fun k e => by cases e; exact Nat.le_refl _)
  clear hm7 hg8 hb7
  go_enter Tryz.func89, Tryz.ntmps89
  go_wp2
  go_ret
  exact ⟨rfl, hm8, hb8⟩
end Go.Proofs.YtllgkohgcicbhaaGreatDoor

/-
  A strings.Builder of one's own: WriteString lays the bytes behind those that are there, and writes nothing but the builder and its bytes. Condition: at most 2^47 bytes.
-/
namespace Go.Proofs.YtllgkohgcicbhaaGreatDoor
open Go.RowKit

theorem Ways.keeps {p : TypeId → Bool} {w w' : World} {M : Nat} (h : Ways w M) (hk : Keeps p w w') : Ways w' M := by
  obtain ⟨es, clock, h1, h2, h3, h4⟩ := h
  exact ⟨es, clock, hk M _ h1 (fun _ _ _ e => by cases e), h2, h3, h4⟩

/-- bools as a row's values -/
def boolVals (l : List Bool) : List Value := l.map Value.bool
def notBits (t : TypeId) : Bool := t != 4 && t != 91
theorem infoBool8 : (Tryz.prog.info? 4).map (fun i => (i.zero, i.size, i.bytes)) = some (some (.bool false), 1, 1) := by kernel_rfl
set_option maxRecDepth 100000 in
set_option maxHeartbeats 1000000 in
theorem gather_any (B bb : Nat) (x : Int) (vb : Value) (bs : List Bool) (w : World) (hB : B ≤ bb) (hBw : B ≤ w.heap.size) (hbx : Boxed w bb 91 vb) (hown : w.ownsRow B 4 1 vb bs.length (boolVals bs)) (hl : bs.length ≤ 1000) :
    Calls Tryz.prog 90 #[.int .u64 x, .pointer (some ⟨bb, 0, none⟩)] w fun e w' => e = .returned (.tuple #[]) ∧ (∃ vb', Boxed w' bb 91 vb' ∧ w'.ownsRow B 4 1 vb' (bs ++ [x == 1]).length (boolVals (bs ++ [x == 1]))) ∧ Below B w w' ∧ Keeps notBits w w' := by
  obtain ⟨i0, hi, hz0, hz1, hz2⟩ := info_parts infoBool8
  have c0 := hbx.cell
  have HL := Lib.hid (show boolVals (bs ++ [x == 1]) = boolVals bs ++ [.bool (x == 1)] ∧ (bs ++ [x == 1]).length = bs.length + 1 by simp [boolVals])
  generalize (bs ++ [x == 1]) = bs' at HL
  generalize hq : (x == 1) = q at HL
  go_enter Tryz.func90, Tryz.ntmps90
  go_wp2_with (first
    | (at_builtin; refine wpList_append_own _ rfl _ _ 91 rfl B 4 i0 (.bool false) 1 1 Tryz.underlying91 hi hz0 hz1 hz2 rfl (by decide) _ _ _ rfl (hown.alloc _) ⟨w.heap.size, 0, none⟩ 1 1 [.bool q] rfl rfl (cell_one_new _ _ _) (by simp [Value.oneCell']) (by unfold maxLen; omega) (by omega) (by simp; omega) ?_))
  intro o' w3 hown' hgrow _
  have hb3 := rowBelow hBw hown (Below.refl B w) hgrow
  have hka : Keeps notBits w (w.alloc (.cells #[.bool q] 4)) := Keeps.below ((Below.refl _ w).alloc (Nat.le_refl _) _)
  have hk3 : Keeps notBits w w3 := hka.trans (Keeps.grown (hown.alloc _) hgrow (by decide))
  have hnb : some bb ≠ vb.ownBlock := fun e => by
    rcases hown.2 with ⟨rfl, _⟩ | ⟨g, cap, cur, rfl, -, hb, -, -⟩
    · simp [Value.ownBlock] at e
    · obtain rfl : g = bb := by simpa [Value.ownBlock] using e.symm
      rw [show w.heap[g]? = _ from hbx] at hb
      cases hb
  have hbx3 : Boxed w3 bb 91 vb := (hbx.alloc _).kept hgrow hnb
  have hnb' : some bb ≠ o'.ownBlock := fun e => by
    rcases hown'.2 with ⟨rfl, _⟩ | ⟨g, cap, cur, rfl, -, hb, -, -⟩
    · simp [Value.ownBlock] at e
    · obtain rfl : g = bb := by simpa [Value.ownBlock] using e.symm
      rw [show w3.heap[g]? = _ from hbx3] at hb
      cases hb
  have c3 := hbx3.cell
  have f3 := hbx3.frozen
  have hset := hbx3.set o'
  have Hk := Keeps.setCell (p := notBits) (show w3.heap[bb]? = _ from hbx3) (by decide) 0 o'
  have Hown : Hid (w3.ownsRow B 4 1 o' (bs.length + 1) (boolVals bs ++ [.bool q])) := Lib.hid hown'
  have hown4 := Keeps.row (p := fun t => t != 91) (Keeps.setCell (show w3.heap[bb]? = _ from hbx3) (by decide) 0 o') Hown.out (by decide)
  obtain ⟨ao, n', cap, rfl⟩ : ∃ ao n' cap, o' = .slice ao n' cap := by
    rcases hown'.2 with ⟨hv, _⟩ | ⟨g, cap, cur, hv, _⟩
    · exact ⟨_, _, _, hv⟩
    · exact ⟨_, _, _, hv⟩
  have hb4 := hb3.setCell (p := ⟨bb, 0, none⟩) hB (.slice ao n' cap)
  clear hown' hown hgrow hbx hbx3 hnb hnb' hka c0
  go_wp2
  go_end0
  refine ⟨rfl, ⟨_, hset, ?_⟩, hb4, hk3.trans Hk⟩
  rw [HL.out.1, HL.out.2]
  exact hown4
end Go.Proofs.YtllgkohgcicbhaaGreatDoor

/-
  The method that the map has at a letter lays such a value. Conditions: the package num's table of widths holds 1, 2, 4, 8; the value's number is a uint64, its text is shorter than 2^47 bytes.
-/
namespace Go.Proofs.YtllgkohgcicbhaaGreatDoor
open Go.RowKit

theorem way_any (c : UInt8) (hc : isLet c = true) : (∀ args w, (callFunc (wayF c) args).run Tryz.prog w = .ok (.enter (wayF c) args) w) ∧ ∀ (v : MV) (w : World), Wid w → wfV v →
    Calls Tryz.prog (wayF c) #[encV v] w fun e w' => e = .returned (.tuple #[.string (vRes c v), .int .i64 (vE c v)]) ∧ Below w.heap.size w w' := by
  rcases let_cases hc with rfl | rfl | rfl | rfl | rfl | rfl | rfl | rfl
  · exact ⟨enters_of Tryz.func116 (by kernel_rfl) rfl, fun v w hw hv => bit_any v w hv⟩
  · exact ⟨enters_of Tryz.func118 (by kernel_rfl) rfl, fun v w hw hv => vlong_any v w hw hv⟩
  · exact ⟨enters_of Tryz.func117 (by kernel_rfl) rfl, fun v w hw hv => vshort_any v w hw hv⟩
  · exact ⟨enters_of Tryz.func119 (by kernel_rfl) rfl, fun v w hw hv => vtable_any v w hw hv⟩
  · exact ⟨enters_of Tryz.func114 (by kernel_rfl) rfl, fun v w hw hv => one_any 108 _ (.inr (.inr (.inl ⟨rfl, rfl⟩))) v w hw hv⟩
  · exact ⟨enters_of Tryz.func112 (by kernel_rfl) rfl, fun v w hw hv => one_any 111 _ (.inl ⟨rfl, rfl⟩) v w hw hv⟩
  · exact ⟨enters_of Tryz.func115 (by kernel_rfl) rfl, fun v w hw hv => one_any 113 _ (.inr (.inr (.inr ⟨rfl, rfl⟩))) v w hw hv⟩
  · exact ⟨enters_of Tryz.func113 (by kernel_rfl) rfl, fun v w hw hv => one_any 115 _ (.inr (.inl ⟨rfl, rfl⟩)) v w hw hv⟩
end Go.Proofs.YtllgkohgcicbhaaGreatDoor

/-
  method.lay answers the bytes of values by their letters, or the first error; nothing that was there is changed. Conditions: the package num's table of widths holds 1, 2, 4, 8; as many letters as values, 16 at most; each number is a uint64, each text shorter than 2^47 bytes.
-/
namespace Go.Proofs.YtllgkohgcicbhaaGreatDoor
open Go.RowKit

def layS (ls : List UInt8) (l : List MV) : ByteArray := if layEr ls l = 0 then layBy ls l [] else ⟨#[]⟩
theorem bools_of_row {w : World} {B : Nat} {vb : Value} {bs : List Bool} (h : w.ownsRow B 4 1 vb bs.length (boolVals bs)) : ∃ A c, vb = .slice A bs.length c ∧ BoolsAt w A bs := by
  obtain ⟨A, c, rfl, hv⟩ := vals_of_row h
  refine ⟨A, c, rfl, fun h0 => ?_⟩
  obtain ⟨b, off, hA, hlt, hc⟩ := hv (by simp [boolVals]; exact h0)
  exact ⟨b, off, hA, hlt, fun i hi => by rw [hc i (by simpa [boolVals] using hi)]; simp [boolVals]⟩
structure LayI (w : World) (ls : List UInt8) (l : List MV) (M b bb k : Nat) (wr : World) (acc : ByteArray) (bs : List Bool) (vb : Value) : Prop where
  ways : Ways wr M
  bu : Lib.IsBuilder 125 5 w.heap.size b (Lib.strCells acc) wr
  bx : Boxed wr bb 91 vb
  row : wr.ownsRow w.heap.size 4 1 vb bs.length (boolVals bs)
  bel : Below w.heap.size w wr
  bl : bs.length ≤ k
  al : acc.size ≤ k * 4294967500
  eB : layBy ls l [] = acc ++ layBy (ls.drop k) (l.drop k) bs
  eE : layEr ls l = layEr (ls.drop k) (l.drop k)
theorem LayI.keeps {w : World} {ls : List UInt8} {l : List MV} {M b bb k : Nat} {wr : World} {acc : ByteArray} {bs : List Bool} {vb : Value} (h : LayI w ls l M b bb k wr acc bs vb) {w' : World} (hb : Below wr.heap.size wr w') : LayI w ls l M b bb k w' acc bs vb :=
  ⟨h.ways.below hb h.ways.lt, isBuilder_below h.bu hb, boxed_below h.bx hb h.bx.lt, rowKept h.row hb, h.bel.trans (hb.mono h.bel.size), h.bl, h.al, h.eB, h.eE⟩
theorem strCells_append (a b : ByteArray) : Lib.strCells a ++ Lib.strCells b = Lib.strCells (a ++ b) := by
  rw [Lib.strCells_eq, Lib.strCells_eq, Lib.strCells_eq, ba_append, Lib.byteCells_append]

set_option maxRecDepth 100000 in
set_option maxHeartbeats 4000000 in
theorem lay_m (L : ByteArray) (A : Option Addr) (cap : Nat) (l : List MV) (w : World) (hw : Wid w) (hlen : L.size = l.length) (h16 : l.length ≤ 16) (hls : ∀ c ∈ L.data.toList, isLet c = true) (hv : ∀ v ∈ l, wfV v) (hA : ValsAt w A (rowV l)) :
    Calls Tryz.prog 73 #[.string L, .slice A l.length cap] w fun e w' => e = .returned (.tuple #[.string (layS L.data.toList l), .int .i64 (layEr L.data.toList l)]) ∧ Below w.heap.size w w' := by
  have hmf : ∀ (p : Value) (w : World), (Instr.makeFunc (.func 90) #[] #[p]).run Tryz.prog w = .ok (.func (.func 90) #[] #[p]) w := fun _ _ => by kernel_rfl
  have HS : Hid (layS L.data.toList l = if layEr L.data.toList l = 0 then layBy L.data.toList l [] else ⟨#[]⟩) := Lib.hid rfl
  have HLen := Lib.hid hlen
  have hLl : L.data.toList.length = l.length := by rw [ba_len, hlen]
  obtain ⟨n, hn⟩ : ∃ n, l.length = n := ⟨_, rfl⟩
  have hnL : L.size = n := hlen.trans hn
  rw [hn] at h16 ⊢
  have HN := Lib.hid hn
  have HLl := Lib.hid hLl
  clear hlen hLl hn
  go_enter Tryz.func73, Tryz.ntmps73
  go_wp2_with fail
  go_step3
  go_wp2_with fail
  refine (ways_any w).mono ?_
  rintro e w1 ⟨rfl, hW1, hb1⟩
  have hs1 := hb1.size
  have hI : LayI w L.data.toList l w.heap.size w1.heap.size (w1.heap.size + 1) 0 ((w1.alloc (.cells #[.pointer none, .slice none 0 0] 125)).alloc (.cells #[.slice none 0 0] 91)) ⟨#[]⟩ [] (.slice none 0 0) := by
    have hbb : Below w1.heap.size w1 ((w1.alloc (.cells #[.pointer none, .slice none 0 0] 125)).alloc (.cells #[.slice none 0 0] 91)) := ((Below.refl _ w1).alloc (Nat.le_refl _) _).alloc (by simp) _
    refine ⟨hW1.below hbb hW1.lt, ?_, ?_, ?_, hb1.trans (hbb.mono hs1), Nat.le_refl _, Nat.zero_le _, ?_, rfl⟩
    · have hx := (Bx.new w1 125 [.pointer none, .slice none 0 0]).alloc (.cells #[.slice none 0 0] 91)
      exact .inl ⟨hs1, .slice none 0 0, hx, World.ownsRow_nil _ _ _ _, by simp [Value.ownBlock]⟩
    · have h := Boxed.new (w1.alloc (.cells #[.pointer none, .slice none 0 0] 125)) 91 (.slice none 0 0)
      rw [World.size_alloc] at h
      exact h
    · exact World.ownsRow_nil _ _ _ _
    · rw [ba_e_append]; rfl
  clear hW1 hb1
  go_wp2
  go_step3
  go_wp2
  obtain ⟨W0, hW0⟩ : ∃ W0, W0 = (w1.alloc (.cells #[.pointer none, .slice none 0 0] 125)).alloc (.cells #[.slice none 0 0] 91) := ⟨_, rfl⟩
  rw [← hW0] at hI ⊢
  clear hW0
  obtain ⟨bb, hbb⟩ : ∃ bb, w1.heap.size + 1 = bb := ⟨_, rfl⟩
  rw [hbb] at hI ⊢
  have hbM : w.heap.size ≤ bb := by omega
  clear hbb
  generalize w1.heap.size = b at hI hs1 ⊢
  obtain ⟨M, hM⟩ : ∃ M, M = w.heap.size := ⟨_, rfl⟩
  rw [← hM]
  have hI' : LayI w L.data.toList l M b bb 0 W0 ⟨#[]⟩ [] (.slice none 0 0) := by rw [hM]; exact hI
  clear hI hM
  go_loopw [18] (fun x wr => ∃ k : Nat, k ≤ n ∧ x = .int .i64 k ∧ ∃ acc bs vb, LayI w L.data.toList l M b bb k wr acc bs vb) (fun x _ => n - (intOf x).toNat)
  case atStart => exact ⟨0, Nat.zero_le _, rfl, _, _, _, hI'⟩
  case round =>
    obtain ⟨k, hk, rfl, acc, bs, vb, HI⟩ := hrel
    clear hI'
    by_cases hlt : k < n
    · have hkl : k < l.length := by rw [HN.out]; exact hlt
      have hkL : k < L.size := by omega
      have hkl2 : k < L.data.toList.length := by rw [ba_len]; exact hkL
      obtain ⟨b0, off, hAe, hb0, hc⟩ := vals_v hA (by omega)
      subst hAe
      obtain ⟨x0, x1⟩ := hc k hkl
      have x0 := (HI.bel.cell (p := ⟨b0, off + k * 2, none⟩) hb0).trans x0
      have x1 := (HI.bel.cell (p := ⟨b0, off + k * 2 + 1, none⟩) hb0).trans x1
      have hvk := hv l[k] (List.getElem_mem hkl)
      have hlet := hls L.data.toList[k] (List.getElem_mem hkl2)
      have eC : L.data.toList[k] = L[k] := rfl
      have HD : Hid (L.data.toList.drop k = L.data.toList[k] :: L.data.toList.drop (k + 1) ∧ l.drop k = l[k] :: l.drop (k + 1)) := Lib.hid ⟨List.drop_eq_getElem_cons hkl2, List.drop_eq_getElem_cons hkl⟩
      obtain ⟨c, hcc⟩ : ∃ c, L.data.toList[k] = c := ⟨_, rfl⟩
      have hcI : ((L[k]'hkL).toNat : Int) = (c.toNat : Int) := by rw [← hcc]; rfl
      rw [hcc] at hlet HD
      clear hcc eC hc
      obtain ⟨hEnt, hCall⟩ := way_any c hlet
      have hLook := fun W hW => Ways.look (w := W) (M := M) hW c hlet
      generalize l[k] = v at x0 x1 hvk HD
      have hCall := fun W hW => hCall v W hW hvk
      have HR : Hid (vRes c v = if vE c v = 0 then vB c v else ⟨#[]⟩) := Lib.hid rfl
      have H98 : Hid ((c.toNat : Int) = 98 ↔ c = 98) := Lib.hid (by
        constructor
        · intro h
          exact UInt8.toNat_inj.1 (by rw [show (98 : UInt8).toNat = 98 from rfl]; omega)
        · intro h; rw [h]; rfl)
      generalize hcz : (c.toNat : Int) = cz at hcI hLook H98
      generalize wayF c = f at hEnt hCall hLook
      have hVE : Hid (vE c v = vE c v) := Lib.hid rfl
      generalize vRes c v = vr at hCall HR
      generalize hve : vE c v = ve at hCall HR
      clear hVE hcz
      obtain ⟨nn, ss⟩ := v
      unfold encV at hCall
      dsimp only at x0 x1 hCall
      have hbw : Below wr.heap.size wr (wr.alloc (.cells #[.int .u64 nn, .string ss] 58)) := (Below.refl _ wr).alloc (Nat.le_refl _) _
      have HI2 := HI.keeps hbw
      have hbx := Bx.new wr 58 [.int .u64 nn, .string ss]
      have HVE := Lib.hid hve
      clear HI hve hv hls hA
      go_wp2
      generalize wr.alloc (.cells #[.int .u64 nn, .string ss] 58) = w9 at HI2 hbx
      have hL9 := hLook w9 HI2.ways
      have hwid := hw.below HI2.bel
      have keep : ∀ w', Below w9.heap.size w9 w' → w'.cell? ⟨wr.heap.size, 0, none⟩ = some (.int .u64 nn) ∧ w'.cell? ⟨wr.heap.size, 1, none⟩ = some (.string ss) ∧ (Instr.lookup 156 (.map (some M)) (.int .u8 cz) false).run Tryz.prog w' = .ok (.func (.func f) #[] #[]) w' := fun w' h => ⟨(hbx.kept h).cell 0 (by simp), (hbx.kept h).cell 1 (by simp), hLook w' (HI2.ways.below h HI2.ways.lt)⟩
      obtain ⟨y0, y1, y2⟩ := keep w9 (Below.refl _ _)
      go_region_held3 (fun w' => w'.cell? ⟨wr.heap.size, 0, none⟩ = some (.int .u64 nn) ∧ w'.cell? ⟨wr.heap.size, 1, none⟩ = some (.string ss) ∧ (Instr.lookup 156 (.map (some M)) (.int .u8 cz) false).run Tryz.prog w' = .ok (.func (.func f) #[] #[]) w') (first | (exact keep _ (Below.refl _ w9).drew) | (exact keep _ ⟨hq.os, hq.tape, hq.output, hq.size, hq.block⟩)) (first | (refine (hCall _ (by exact hwid.below (Below.refl _ w9).drew)).mono ?_; rintro e w10 ⟨rfl, hq⟩))
      have hf : Below w9.heap.size w9 w10 := ⟨hq.os, hq.tape, hq.output, hq.size, hq.block⟩
      have HI3 := HI2.keeps hf
      have z0 := (hbx.kept hf).cell 0 (by simp)
      dsimp only [List.getElem_cons_zero, List.getElem_cons_succ] at z0
      have e1 : IntKind.i64.wrap ((k : Int) + 1) = ((k + 1 : Nat) : Int) := by simp only [IntKind.wrap_i64]; omega
      clear HI2 hbx hq hf hL9 hwid keep y0 y1 y2 hCall hEnt hLook hbw x0 x1
      by_cases hve : ve = 0
      · subst hve
        have HE : Hid (layEr L.data.toList l = layEr (L.data.toList.drop (k + 1)) (l.drop (k + 1))) := Lib.hid (by
          rw [HI3.eE, HD.out.1, HD.out.2, layEr, if_pos HVE.out])
        by_cases hcb : c = 98
        · have hz := H98.out.2 hcb
          subst hz
          have HB : Hid (layBy L.data.toList l [] = acc ++ layBy (L.data.toList.drop (k + 1)) (l.drop (k + 1)) (bs ++ [nn == 1])) := Lib.hid (by
            rw [HI3.eB, HD.out.1, HD.out.2, layBy, if_pos hcb])
          have hG := gather_any w.heap.size bb nn vb bs w10 hbM HI3.bel.size HI3.bx HI3.row (by have := HI3.bl; omega)
          clear HD HR H98 HVE hcb
          go_wp2_with fail
          refine hG.mono ?_
          rintro e w11 ⟨rfl, ⟨vb', g1, g2⟩, g3, g4⟩
          have HI4 : LayI w L.data.toList l M b bb (k + 1) w11 acc (bs ++ [nn == 1]) vb' := ⟨HI3.ways.keeps g4, isBuilder_keeps HI3.bu g4 (by decide) (by decide), g1, g2, HI3.bel.trans g3, by have := HI3.bl; simp; omega, Nat.le_trans HI3.al (Nat.mul_le_mul_right _ (Nat.le_succ k)), HB.out, HE.out⟩
          clear hG HI3 g1 g2 g3 g4 HB HE z0
          generalize (bs ++ [nn == 1]) = bs' at HI4
          go_wp2
          go_roundw
          case rel => exact ⟨k + 1, hlt, rfl, _, _, _, HI4⟩
          case measure => simp only [intOf]; omega
        · have tz : (cz == 98) = false := by
            have : ¬ cz = 98 := fun h => hcb (H98.out.1 h)
            simpa using this
          have hvr : vr = vB c ⟨nn, ss⟩ := by rw [HR.out, if_pos rfl]
          have hvs : vr.size ≤ 4294967400 := by rw [hvr]; exact vB_size HVE.out
          have HB : Hid (layBy L.data.toList l [] = (acc ++ bitsS bs ++ vr) ++ layBy (L.data.toList.drop (k + 1)) (l.drop (k + 1)) []) := Lib.hid (by
            rw [HI3.eB, HD.out.1, HD.out.2, layBy, if_neg hcb, hvr, ByteArray.append_assoc, ByteArray.append_assoc])
          have HVS := Lib.hid hvs
          obtain ⟨Ab, cb, rfl, hbo⟩ := bools_of_row HI3.row
          have hbl := HI3.bl
          have hal := HI3.al
          have hBits := bits_any Ab cb bs w10 (by omega) hbo
          have hbsz := bitsS_len bs
          have cbx := HI3.bx.cell
          clear HD HR H98 HVE hcb hvr hvs hbo
          go_wp2_with fail
          refine hBits.mono ?_
          rintro e w11 ⟨rfl, hb11⟩
          have HI4 := HI3.keeps hb11
          have hW1 := writeString_keeps w.heap.size b (Lib.strCells acc) (bitsS bs) w11 HI4.bu (by rw [Lib.strCells_length]; omega) HI4.bel.size
          clear hBits HI3 hb11 cbx
          generalize hbS : bitsS bs = bS at hbsz HB hW1
          clear hbS
          go_wp2_with fail
          refine hW1.mono ?_
          rintro e w12 ⟨rfl, u1, u2, u3⟩
          rw [strCells_append] at u1
          have v1 := HI4.ways.keeps u3
          have v2 := u3.boxed HI4.bx (by decide)
          have v3 := HI4.bel.trans u2
          have hsz2 : (acc ++ bS).size = acc.size + bS.size := ByteArray.size_append
          have hW2 := writeString_keeps w.heap.size b (Lib.strCells (acc ++ bS)) vr w12 u1 (by rw [Lib.strCells_length, hsz2]; have := HVS.out; omega) v3.size
          clear HI4 hW1 u2 u3 u1
          go_wp2_with fail
          refine hW2.mono ?_
          rintro e w13 ⟨rfl, u1, u2, u3⟩
          rw [strCells_append] at u1
          have v1 := v1.keeps u3
          have v2 := u3.boxed v2 (by decide)
          have v3 := v3.trans u2
          clear hW2 u2 u3
          have cb := v2.cell
          have fb := v2.frozen
          have kS : Keeps (fun t => t != 91) w13 (w13.setCell ⟨bb, 0, none⟩ (.slice none 0 0)) := Keeps.setCell (show w13.heap[bb]? = _ from v2) (by decide) 0 _
          have HI5 : LayI w L.data.toList l M b bb (k + 1) (w13.setCell ⟨bb, 0, none⟩ (.slice none 0 0)) (acc ++ bS ++ vr) [] (.slice none 0 0) := ⟨v1.keeps kS, isBuilder_keeps u1 kS (by decide) (by decide), v2.set _, World.ownsRow_nil _ _ _ _, v3.setCell (p := ⟨bb, 0, none⟩) hbM _, Nat.zero_le _, by rw [ByteArray.size_append, hsz2]; have := HVS.out; omega, HB.out, HE.out⟩
          clear HVS HB HE u1 v1 kS v3 v2 hsz2
          generalize (acc ++ bS ++ vr) = acc' at HI5
          go_wp2
          go_roundw
          case rel => exact ⟨k + 1, hlt, rfl, _, _, _, HI5⟩
          case measure => simp only [intOf]; omega
      · have tve : (ve != 0) = true := by simpa using hve
        have HF : Hid (layS L.data.toList l = ⟨#[]⟩ ∧ layEr L.data.toList l = ve) := Lib.hid (by
          have e : layEr L.data.toList l = ve := by rw [HI3.eE, HD.out.1, HD.out.2, layEr, HVE.out, if_neg hve]
          exact ⟨by rw [HS.out, e, if_neg hve], e⟩)
        have hB := HI3.bel
        clear HI3 HD HR HVE HS H98 hve z0
        go_wp2
        rw [Exit.noGoto_ret]
        go_ret2
        exact ⟨by rw [HF.out.1, HF.out.2]; rfl, hB⟩
    · obtain rfl : k = n := by omega
      obtain ⟨Ab, cb, rfl, hbo⟩ := bools_of_row HI.row
      have hbl := HI.bl
      have hal := HI.al
      have hBits := bits_any Ab cb bs wr (by omega) hbo
      have hbsz := bitsS_len bs
      have cbx := HI.bx.cell
      have HB : Hid (layS L.data.toList l = acc ++ bitsS bs ∧ layEr L.data.toList l = 0) := Lib.hid (by
        have d1 : L.data.toList.drop k = [] := List.drop_of_length_le (by rw [HLl.out, HN.out]; exact Nat.le_refl _)
        have d2 : l.drop k = [] := List.drop_of_length_le (by rw [HN.out]; exact Nat.le_refl _)
        have e : layEr L.data.toList l = 0 := by rw [HI.eE, d1, d2]; rfl
        exact ⟨by rw [HS.out, if_pos e, HI.eB, d1, d2]; rfl, e⟩)
      clear hbo HS
      go_wp2_with fail
      refine hBits.mono ?_
      rintro e w11 ⟨rfl, hb11⟩
      have HI4 := HI.keeps hb11
      have hW1 := writeString_keeps w.heap.size b (Lib.strCells acc) (bitsS bs) w11 HI4.bu (by rw [Lib.strCells_length]; omega) HI4.bel.size
      clear hBits HI hb11 cbx
      generalize hbS : bitsS bs = bS at hbsz HB hW1
      clear hbS
      go_wp2_with fail
      refine hW1.mono ?_
      rintro e w12 ⟨rfl, u1, u2, u3⟩
      rw [strCells_append, Lib.strCells_eq] at u1
      have v3 := HI4.bel.trans u2
      have hStr := bString_any w.heap.size b _ w12 u1 v3.size
      have ea : (⟨(acc ++ bS).data.toList.toArray⟩ : ByteArray) = acc ++ bS := rfl
      rw [ea] at hStr
      clear HI4 hW1 u2 u3 u1 ea
      generalize acc ++ bS = r at HB hStr
      go_wp2_with fail
      refine hStr.mono ?_
      rintro e w13 ⟨rfl, hb13⟩
      clear hStr
      go_wp2
      rw [Exit.noGoto_ret]
      go_ret2
      exact ⟨by rw [HB.out.1, HB.out.2]; rfl, v3.trans hb13⟩
end Go.Proofs.YtllgkohgcicbhaaGreatDoor

/-
  method.which, Bytes and Right, and the document's example, answer as the plain functions say; nothing that was there is changed. Conditions: the package num's table of widths holds 1, 2, 4, 8; a value's number is a uint64, its text shorter than 2^47 bytes.
-/
namespace Go.Proofs.YtllgkohgcicbhaaGreatDoor
open Go.RowKit

def encM (m : Me) (A : Option Addr) (cap : Nat) : Value := .agg #[.int .i64 m.c, .int .i64 m.i, .slice A m.l.length cap]
def noneM : Value := .agg #[.int .i64 0, .int .i64 0, .slice none 0 0]

set_option maxHeartbeats 1000000 in
theorem which_any (m : Me) (A : Option Addr) (cap : Nat) (w : World) (hw : Wid w) (hc : 0 ≤ m.c ∧ m.c < 65536) (hi : 0 ≤ m.i ∧ m.i < 65536) :
    Calls Tryz.prog 74 #[encM m A cap] w fun e w' => e = .returned (.string (putR 2 m.c ++ putR 2 m.i)) ∧ Below w.heap.size w w' := by
  obtain ⟨c, i, l⟩ := m
  unfold encM
  dsimp only at hc hi ⊢
  have hb0 : Below w.heap.size w (w.alloc (.cells #[.int .i64 c, .int .i64 i, .slice A l.length cap] 24)) := (Below.refl _ w).alloc (Nat.le_refl _) _
  have hx := Bx.new w 24 [.int .i64 c, .int .i64 i, .slice A l.length cap]
  have e1 : IntKind.u64.wrap c = c := by simp only [IntKind.wrap_u64]; omega
  have e2 : IntKind.u64.wrap i = i := by simp only [IntKind.wrap_u64]; omega
  have p1 := putR_size (put2_ok hc)
  have p2 := putR_size (put2_ok hi)
  have q1 := putE_of (put2_ok hc)
  have q2 := putE_of (put2_ok hi)
  have hP1 := put_any 2 c _ (hw.below hb0) hc.1 (by omega)
  rw [q1] at hP1
  have hP2 := fun W hW => put_any 2 i W hW hi.1 (by omega)
  rw [q2] at hP2
  generalize putR 2 c = a at p1 hP1 ⊢
  generalize putR 2 i = b at p2 hP2 ⊢
  go_enter Tryz.func74, Tryz.ntmps74
  go_wp2_with fail
  refine hP1.mono ?_
  rintro e w1 ⟨rfl, hb1⟩
  have hB := hb0.trans (hb1.mono hb0.size)
  have x1 := (hx.kept hb1).cell 1 (by simp)
  dsimp only [List.getElem_cons_zero, List.getElem_cons_succ] at x1
  clear hP1 hb1 hx hb0 q1 q2
  go_wp2_with fail
  refine (hP2 w1 (hw.below hB)).mono ?_
  rintro e w2 ⟨rfl, hb2⟩
  have hB2 := hB.trans (hb2.mono hB.size)
  clear hP2 hb2 hB x1
  have hsz : a.size + b.size ≤ 9223372036854775807 := by omega
  go_wp2
  go_ret
  exact ⟨rfl, hB2⟩

set_option maxRecDepth 100000 in
set_option maxHeartbeats 2000000 in
theorem mbytes_any (m : Me) (A : Option Addr) (cap : Nat) (w : World) (hw : Wid w) (hm : wfM m) (hA : ValsAt w A (rowV m.l)) :
    Calls Tryz.prog 51 #[encM m A cap] w fun e w' => e = .returned (.tuple #[.string (mB m), .int .i64 (mE m)]) ∧ Below w.heap.size w w' := by
  have hb0 : Below w.heap.size w (w.alloc (.cells #[.int .i64 m.c, .int .i64 m.i, .slice A m.l.length cap] 24)) := (Below.refl _ w).alloc (Nat.le_refl _) _
  have hx := Bx.new w 24 [.int .i64 m.c, .int .i64 m.i, .slice A m.l.length cap]
  have hOf := of_any m.c m.i (w.alloc (.cells #[.int .i64 m.c, .int .i64 m.i, .slice A m.l.length cap] 24))
  have HE : Hid (mE m = if sIs m.c m.i = true then (if (sOf m.c m.i).size = m.l.length then layEr (mLs m) m.l else 7) else 7) := Lib.hid rfl
  have HB : Hid (mB m = if mE m = 0 then putR 2 m.c ++ putR 2 m.i ++ layBy (mLs m) m.l [] else ⟨#[]⟩) := Lib.hid rfl
  cases his : sIs m.c m.i
  · have HF : Hid (mB m = ⟨#[]⟩ ∧ mE m = 7) := Lib.hid (by
      have e : mE m = 7 := by rw [HE.out, if_neg (by simp [his])]
      exact ⟨by rw [HB.out, e]; rfl, e⟩)
    rw [his] at hOf
    generalize mB m = r at HF
    generalize mE m = x at HF
    clear HE HB his hA hm hx
    generalize sOf m.c m.i = L at hOf
    unfold encM
    obtain ⟨c, i, l⟩ := m
    dsimp only at hOf hb0 ⊢
    go_enter Tryz.func51, Tryz.ntmps51
    go_wp2_with fail
    refine hOf.mono ?_
    rintro e w1 ⟨rfl, hb1⟩
    clear hOf
    go_wp2
    go_ret2
    exact ⟨by rw [HF.out.1, HF.out.2]; rfl, hb0.trans (hb1.mono hb0.size)⟩
  · obtain ⟨f1, f2, f3, f4⟩ := met_facts his
    rw [his] at hOf
    by_cases hlen : (sOf m.c m.i).size = m.l.length
    · have hLay := fun W hW hAW => lay_m (sOf m.c m.i) A cap m.l W hW hlen (by omega) f1 hm hAW
      have hLs : (sOf m.c m.i).data.toList = mLs m := rfl
      have HE2 : Hid (mE m = layEr (mLs m) m.l) := Lib.hid (by rw [HE.out, if_pos his, if_pos hlen])
      have hWh := fun W hW => which_any m A cap W hW f3 f4
      have HSz : Hid (layEr (mLs m) m.l = 0 → (layS (mLs m) m.l).size ≤ 1099511627776) := Lib.hid (fun h => by
        have p3 := layBy_size 4294967401 (Nat.le_refl _) (mLs m) m.l [] h
        have hl : (mLs m).length ≤ 16 := by rw [mLs, ba_len]; exact f2
        have hm : (mLs m).length * 4294967401 ≤ 16 * 4294967401 := Nat.mul_le_mul_right _ hl
        rw [List.length_nil] at p3
        rw [layS, if_pos h]
        omega)
      have HY : Hid (layS (mLs m) m.l = if layEr (mLs m) m.l = 0 then layBy (mLs m) m.l [] else ⟨#[]⟩) := Lib.hid rfl
      rw [hLs] at hLay
      have p1 := putR_size (put2_ok f3)
      have p2 := putR_size (put2_ok f4)
      clear hLs hm f1 f3 f4 HE
      generalize layS (mLs m) m.l = ly at hLay HSz HY
      generalize layBy (mLs m) m.l [] = lb at HY HB
      generalize layEr (mLs m) m.l = le at hLay HE2 HSz HY
      generalize mE m = x at HB HE2
      generalize mB m = r at HB
      generalize putR 2 m.c = pa at p1 hWh HB
      generalize putR 2 m.i = pb at p2 hWh HB
      obtain ⟨c, i, l⟩ := m
      unfold encM at hWh ⊢
      dsimp only at *
      generalize sOf c i = L at hOf hLay hlen f2
      have tl : ((L.size : Int) != (l.length : Int)) = false := by simp; omega
      have Hlen := Lib.hid hlen
      clear hlen his
      go_enter Tryz.func51, Tryz.ntmps51
      go_wp2_with fail
      refine hOf.mono ?_
      rintro e w1 ⟨rfl, hb1⟩
      have hB := hb0.trans (hb1.mono hb0.size)
      have x2 := (hx.kept hb1).cell 2 (by simp)
      dsimp only [List.getElem_cons_zero, List.getElem_cons_succ] at x2
      have hx1 := hx.kept hb1
      clear hOf hx hb1 hb0
      go_wp2_with fail
      refine (hLay w1 (hw.below hB) (hA.below hB)).mono ?_
      rintro e w2 ⟨rfl, hb2⟩
      have hB2 := hB.trans (hb2.mono hB.size)
      have hx2 := hx1.kept hb2
      clear hLay hx1 hb2 hB x2 hA
      by_cases hle : le = 0
      · have y0 := hx2.cell 0 (by simp)
        have y1 := hx2.cell 1 (by simp)
        have y2 := hx2.cell 2 (by simp)
        dsimp only [List.getElem_cons_zero, List.getElem_cons_succ] at y0 y1 y2
        have hsz := HSz.out hle
        have HF : Hid (r = pa ++ pb ++ ly ∧ x = 0) := Lib.hid (by
          have e : x = 0 := by rw [HE2.out, hle]
          exact ⟨by rw [HB.out, if_pos e, HY.out, if_pos hle], e⟩)
        subst hle
        clear HB HE2 HSz HY hx2
        go_wp2_with fail
        refine (hWh w2 (hw.below hB2)).mono ?_
        rintro e w3 ⟨rfl, hb3⟩
        have hB3 := hB2.trans (hb3.mono hB2.size)
        have hpp : (pa ++ pb).size = pa.size + pb.size := ByteArray.size_append
        have hp4 : (pa ++ pb).size = 4 := by omega
        clear hWh hpp p1 p2
        generalize pa ++ pb = pp at HF hp4 ⊢
        have hs2 : pp.size + ly.size ≤ 9223372036854775807 := by omega
        clear hp4
        go_wp2
        go_ret2
        exact ⟨by rw [HF.out.1, HF.out.2]; rfl, hB3⟩
      · have tle : (le != 0) = true := by simpa using hle
        have HF : Hid (r = ⟨#[]⟩ ∧ x = le) := Lib.hid (by
          exact ⟨by rw [HB.out, HE2.out, if_neg hle], HE2.out⟩)
        clear HB HE2 HSz HY hle hx2
        go_wp2
        go_ret2
        exact ⟨by rw [HF.out.1, HF.out.2]; rfl, hB2⟩
    · have HF : Hid (mB m = ⟨#[]⟩ ∧ mE m = 7) := Lib.hid (by
        have e : mE m = 7 := by rw [HE.out, if_pos his, if_neg hlen]
        exact ⟨by rw [HB.out, e]; rfl, e⟩)
      generalize mB m = r at HF
      generalize mE m = x at HF
      clear HE HB his hA hm f1 f3 f4
      obtain ⟨c, i, l⟩ := m
      unfold encM
      dsimp only at *
      generalize sOf c i = L at hOf hlen f2
      have tl : ((L.size : Int) != (l.length : Int)) = true := by simp; omega
      clear hlen
      go_enter Tryz.func51, Tryz.ntmps51
      go_wp2_with fail
      refine hOf.mono ?_
      rintro e w1 ⟨rfl, hb1⟩
      have x2 := (hx.kept hb1).cell 2 (by simp)
      dsimp only [List.getElem_cons_zero, List.getElem_cons_succ] at x2
      clear hOf hx
      go_wp2
      go_ret2
      exact ⟨by rw [HF.out.1, HF.out.2]; rfl, hb0.trans (hb1.mono hb0.size)⟩

set_option maxHeartbeats 1000000 in
theorem mright_any (m : Me) (A : Option Addr) (cap : Nat) (w : World) (hw : Wid w) (hm : wfM m) (hA : ValsAt w A (rowV m.l)) :
    Calls Tryz.prog 32 #[encM m A cap] w fun e w' => e = .returned (.int .i64 (mE m)) ∧ Below w.heap.size w w' := by
  have hb0 : Below w.heap.size w (w.alloc (.cells #[.int .i64 m.c, .int .i64 m.i, .slice A m.l.length cap] 24)) := (Below.refl _ w).alloc (Nat.le_refl _) _
  have hBy := mbytes_any m A cap _ (hw.below hb0) hm (hA.below hb0)
  generalize mB m = r at hBy
  generalize mE m = x at hBy
  obtain ⟨c, i, l⟩ := m
  unfold encM at hBy ⊢
  dsimp only at *
  clear hm hA
  go_enter Tryz.func32, Tryz.ntmps32
  go_wp2_with fail
  refine hBy.mono ?_
  rintro e w1 ⟨rfl, hb1⟩
  clear hBy
  go_wp2
  go_ret
  exact ⟨rfl, hb0.trans (hb1.mono hb0.size)⟩
end Go.Proofs.YtllgkohgcicbhaaGreatDoor
