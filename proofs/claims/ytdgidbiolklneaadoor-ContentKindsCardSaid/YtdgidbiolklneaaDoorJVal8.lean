/-
  Several texts joined in one file: each says at its own head, below, what it proves, and its conditions.
-/
import Derived.Test.YtdgidbiolklneaaDoorJMem
import Derived.Test.YtdgidbiolklneaaDoorJMV
import Derived.Test.YtdgidbiolklneaaDoorJTxt
import Derived.Test.YtdgidbiolklneaaDoorJTab1
import Derived.Test.YtdgidbiolklneaaDoorJMeth
import Derived.Test.YtdgidbiolklneaaDoorJBuild
/-
  The methods by which a value is laid: its bytes, or why it isn't right; nothing that was there is changed. Conditions: the package num's table of widths holds 1, 2, 4, 8; the value's number is a uint64, its text is shorter than 2^47 bytes.
-/
namespace Go.Proofs.YtdgidbiolklneaaDoor
open Go.RowKit

set_option maxHeartbeats 1000000 in
theorem number_any (k : Int) (v : MV) (w : World) (hw : Wid w) (hv : wfV v) (hk : isW k = true) :
    Calls Tryd.prog 67 #[encV v, .int .i64 k] w fun e w' => e = .returned (.tuple #[.string (numR k v), .int .i64 (numE k v)]) ∧ Below w.heap.size w w' := by
  obtain ⟨n, s⟩ := v
  obtain ⟨v1, v2, v3⟩ := hv
  dsimp only at v1 v2 v3
  have hb0 : Below w.heap.size w (w.alloc (.cells #[.int .u64 n, .string s] 91)) := (Below.refl _ w).alloc (Nat.le_refl _) _
  have hw0 := hw.below hb0
  have hx := Bx.new w 91 [.int .u64 n, .string s]
  unfold encV
  dsimp only
  go_enter Tryd.func67, Tryd.ntmps67
  go_wp2_with fail
  refine (put_any k n _ hw0 v1 v2).mono ?_
  rintro e w1 ⟨rfl, hb⟩
  have x1 := (hx.kept hb).cell 1 (by simp)
  dsimp only [List.getElem_cons_zero, List.getElem_cons_succ] at x1
  have hB := hb0.trans (hb.mono hb0.size)
  clear hx hb hb0 hw0
  cases hp : putOk k n
  · have e4 : putE k n = 4 := by rw [putE, if_pos hk, if_neg (by simp [hp])]
    have HF : Hid (numR k ⟨n, s⟩ = ⟨#[]⟩ ∧ numE k ⟨n, s⟩ = 4) := Lib.hid (by simp [numR, numE, hp])
    rw [e4]
    clear hp e4
    go_wp2
    go_ret2
    exact ⟨by rw [HF.out.1, HF.out.2]; rfl, hB⟩
  · rw [putE_of hp]
    rcases str_cases s with ⟨rfl, hs⟩ | ⟨ts, hs⟩
    · have HF : Hid (numR k ⟨n, ⟨#[]⟩⟩ = putR k n ∧ numE k ⟨n, ⟨#[]⟩⟩ = 0) := Lib.hid (by
        have e : numE k ⟨n, ⟨#[]⟩⟩ = 0 := by rw [numE, if_pos hp]; rfl
        exact ⟨by rw [numR, if_pos e], e⟩)
      clear hs hp
      generalize putR k n = r at HF ⊢
      go_wp2
      go_ret2
      exact ⟨by rw [HF.out.1, HF.out.2]; rfl, hB⟩
    · have HF : Hid (numR k ⟨n, s⟩ = ⟨#[]⟩ ∧ numE k ⟨n, s⟩ = 1) := Lib.hid (by
        have e : numE k ⟨n, s⟩ = 1 := by rw [numE, if_pos hp, if_neg hs]
        exact ⟨by rw [numR, e]; rfl, e⟩)
      clear hs hp
      generalize putR k n = r at HF ⊢
      go_wp2
      go_ret2
      exact ⟨by rw [HF.out.1, HF.out.2]; rfl, hB⟩
theorem one_any (c : UInt8) (f : Nat) (hc : (c = 111 ∧ f = 50) ∨ (c = 115 ∧ f = 51) ∨ (c = 108 ∧ f = 52) ∨ (c = 113 ∧ f = 53)) (v : MV) (w : World) (hw : Wid w) (hv : wfV v) :
    Calls Tryd.prog f #[encV v] w fun e w' => e = .returned (.tuple #[.string (vRes c v), .int .i64 (vE c v)]) ∧ Below w.heap.size w w' := by
  have hb0 : Below w.heap.size w (w.alloc (.cells #[.int .u64 v.n, .string v.s] 91)) := (Below.refl _ w).alloc (Nat.le_refl _) _
  have hw0 := hw.below hb0
  rcases hc with ⟨rfl, rfl⟩ | ⟨rfl, rfl⟩ | ⟨rfl, rfl⟩ | ⟨rfl, rfl⟩
  · have hN := number_any 1 v _ hw0 hv (by decide)
    have H : Hid (numR 1 v = vRes 111 v ∧ numE 1 v = vE 111 v) := Lib.hid ⟨rfl, rfl⟩
    rw [H.out.1, H.out.2] at hN
    generalize vRes 111 v = a at hN
    generalize vE 111 v = x at hN
    clear H
    unfold encV at hN ⊢
    go_enter Tryd.func50, Tryd.ntmps50
    go_wp2_with fail
    refine hN.mono ?_
    rintro e w1 ⟨rfl, hb⟩
    clear hN
    go_wp2
    go_ret2
    exact ⟨rfl, hb0.trans (hb.mono hb0.size)⟩
  · have hN := number_any 2 v _ hw0 hv (by decide)
    have H : Hid (numR 2 v = vRes 115 v ∧ numE 2 v = vE 115 v) := Lib.hid ⟨rfl, rfl⟩
    rw [H.out.1, H.out.2] at hN
    generalize vRes 115 v = a at hN
    generalize vE 115 v = x at hN
    clear H
    unfold encV at hN ⊢
    go_enter Tryd.func51, Tryd.ntmps51
    go_wp2_with fail
    refine hN.mono ?_
    rintro e w1 ⟨rfl, hb⟩
    clear hN
    go_wp2
    go_ret2
    exact ⟨rfl, hb0.trans (hb.mono hb0.size)⟩
  · have hN := number_any 4 v _ hw0 hv (by decide)
    have H : Hid (numR 4 v = vRes 108 v ∧ numE 4 v = vE 108 v) := Lib.hid ⟨rfl, rfl⟩
    rw [H.out.1, H.out.2] at hN
    generalize vRes 108 v = a at hN
    generalize vE 108 v = x at hN
    clear H
    unfold encV at hN ⊢
    go_enter Tryd.func52, Tryd.ntmps52
    go_wp2_with fail
    refine hN.mono ?_
    rintro e w1 ⟨rfl, hb⟩
    clear hN
    go_wp2
    go_ret2
    exact ⟨rfl, hb0.trans (hb.mono hb0.size)⟩
  · have hN := number_any 8 v _ hw0 hv (by decide)
    have H : Hid (numR 8 v = vRes 113 v ∧ numE 8 v = vE 113 v) := Lib.hid ⟨rfl, rfl⟩
    rw [H.out.1, H.out.2] at hN
    generalize vRes 113 v = a at hN
    generalize vE 113 v = x at hN
    clear H
    unfold encV at hN ⊢
    go_enter Tryd.func53, Tryd.ntmps53
    go_wp2_with fail
    refine hN.mono ?_
    rintro e w1 ⟨rfl, hb⟩
    clear hN
    go_wp2
    go_ret2
    exact ⟨rfl, hb0.trans (hb.mono hb0.size)⟩

set_option maxHeartbeats 1000000 in
theorem bit_any (v : MV) (w : World) (hv : wfV v) :
    Calls Tryd.prog 54 #[encV v] w fun e w' => e = .returned (.tuple #[.string (vRes 98 v), .int .i64 (vE 98 v)]) ∧ Below w.heap.size w w' := by
  obtain ⟨n, s⟩ := v
  obtain ⟨v1, v2, v3⟩ := hv
  dsimp only at v1 v2 v3
  have hb0 : Below w.heap.size w (w.alloc (.cells #[.int .u64 n, .string s] 91)) := (Below.refl _ w).alloc (Nat.le_refl _) _
  have HR : ∀ s, vRes 98 ⟨n, s⟩ = ⟨#[]⟩ := fun s => by unfold vRes vB; split <;> rfl
  unfold encV
  dsimp only
  by_cases hn : 1 < n
  · have hd : decide (1 < n) = true := by simpa using hn
    have HF : Hid (vRes 98 ⟨n, s⟩ = ⟨#[]⟩ ∧ vE 98 ⟨n, s⟩ = 4) := Lib.hid ⟨HR s, by rw [vE, if_pos rfl, if_pos hn]⟩
    clear hn HR
    go_enter Tryd.func54, Tryd.ntmps54
    go_wp2
    go_ret2
    exact ⟨by rw [HF.out.1, HF.out.2]; rfl, hb0⟩
  · have hd : decide (1 < n) = false := by simpa using hn
    rcases str_cases s with ⟨rfl, hs⟩ | ⟨ts, hs⟩
    · have HF : Hid (vRes 98 ⟨n, ⟨#[]⟩⟩ = ⟨#[]⟩ ∧ vE 98 ⟨n, ⟨#[]⟩⟩ = 0) := Lib.hid ⟨HR _, by rw [vE, if_pos rfl, if_neg hn]; rfl⟩
      clear hn hs HR
      go_enter Tryd.func54, Tryd.ntmps54
      go_wp2
      go_ret2
      exact ⟨by rw [HF.out.1, HF.out.2]; rfl, hb0⟩
    · have HF : Hid (vRes 98 ⟨n, s⟩ = ⟨#[]⟩ ∧ vE 98 ⟨n, s⟩ = 1) := Lib.hid ⟨HR _, by rw [vE, if_pos rfl, if_neg hn, if_neg hs]⟩
      clear hn hs HR
      go_enter Tryd.func54, Tryd.ntmps54
      go_wp2
      go_ret2
      exact ⟨by rw [HF.out.1, HF.out.2]; rfl, hb0⟩

set_option maxHeartbeats 1000000 in
theorem vshort_any (v : MV) (w : World) (hw : Wid w) (hv : wfV v) :
    Calls Tryd.prog 55 #[encV v] w fun e w' => e = .returned (.tuple #[.string (vRes 83 v), .int .i64 (vE 83 v)]) ∧ Below w.heap.size w w' := by
  obtain ⟨n, s⟩ := v
  obtain ⟨v1, v2, v3⟩ := hv
  dsimp only at v1 v2 v3
  have hb0 : Below w.heap.size w (w.alloc (.cells #[.int .u64 n, .string s] 91)) := (Below.refl _ w).alloc (Nat.le_refl _) _
  have hw0 := hw.below hb0
  have hx := Bx.new w 91 [.int .u64 n, .string s]
  unfold encV
  dsimp only
  go_enter Tryd.func55, Tryd.ntmps55
  go_wp2_with fail
  refine (short_any s _ hw0 (by omega)).mono ?_
  rintro e w1 ⟨rfl, hb⟩
  have x0 := (hx.kept hb).cell 0 (by simp)
  dsimp only [List.getElem_cons_zero, List.getElem_cons_succ] at x0
  have hB := hb0.trans (hb.mono hb0.size)
  clear hx hb hb0 hw0
  cases hp : layOk 1 s
  · have e4 : layE 1 s = 4 := by
      have hp' : putOk 1 (s.size : Int) = false := hp
      rw [layE, putE, if_pos (by decide), if_neg (by simp [hp'])]
    have HF : Hid (vRes 83 ⟨n, s⟩ = ⟨#[]⟩ ∧ vE 83 ⟨n, s⟩ = 4) := Lib.hid (by
      have e : vE 83 ⟨n, s⟩ = 4 := by rw [vE, if_neg (by decide), if_pos rfl, if_neg (by simp [hp])]
      exact ⟨by rw [vRes, e]; rfl, e⟩)
    rw [e4]
    clear hp e4
    generalize layR 1 s = r
    go_wp2
    go_ret2
    exact ⟨by rw [HF.out.1, HF.out.2]; rfl, hB⟩
  · rw [layE_of hp]
    by_cases hn : n = 0
    · subst hn
      have HF : Hid (vRes 83 ⟨0, s⟩ = layR 1 s ∧ vE 83 ⟨0, s⟩ = 0) := Lib.hid (by
        have e : vE 83 ⟨0, s⟩ = 0 := by rw [vE, if_neg (by decide), if_pos rfl, if_pos hp]; rfl
        exact ⟨by rw [vRes, if_pos e, vB, if_neg (by decide), if_pos rfl], e⟩)
      clear hp
      generalize layR 1 s = r at HF ⊢
      go_wp2
      go_ret2
      exact ⟨by rw [HF.out.1, HF.out.2]; rfl, hB⟩
    · have tn : (n != 0) = true := by simpa using hn
      have HF : Hid (vRes 83 ⟨n, s⟩ = ⟨#[]⟩ ∧ vE 83 ⟨n, s⟩ = 1) := Lib.hid (by
        have e : vE 83 ⟨n, s⟩ = 1 := by rw [vE, if_neg (by decide), if_pos rfl, if_pos hp, if_neg hn]
        exact ⟨by rw [vRes, e]; rfl, e⟩)
      clear hp hn
      generalize layR 1 s = r at HF ⊢
      go_wp2
      go_ret2
      exact ⟨by rw [HF.out.1, HF.out.2]; rfl, hB⟩

set_option maxHeartbeats 1000000 in
theorem vlong_any (v : MV) (w : World) (hw : Wid w) (hv : wfV v) :
    Calls Tryd.prog 56 #[encV v] w fun e w' => e = .returned (.tuple #[.string (vRes 76 v), .int .i64 (vE 76 v)]) ∧ Below w.heap.size w w' := by
  obtain ⟨n, s⟩ := v
  obtain ⟨v1, v2, v3⟩ := hv
  dsimp only at v1 v2 v3
  have hb0 : Below w.heap.size w (w.alloc (.cells #[.int .u64 n, .string s] 91)) := (Below.refl _ w).alloc (Nat.le_refl _) _
  have hw0 := hw.below hb0
  unfold encV
  dsimp only
  by_cases hs : 131072 < s.size
  · have HF : Hid (vRes 76 ⟨n, s⟩ = ⟨#[]⟩ ∧ vE 76 ⟨n, s⟩ = 4) := Lib.hid (by
      have e : vE 76 ⟨n, s⟩ = 4 := by rw [vE, if_neg (by decide), if_neg (by decide), if_pos rfl, if_pos hs]
      exact ⟨by rw [vRes, e]; rfl, e⟩)
    have hd : decide ((131072 : Int) < (s.size : Int)) = true := by simp; omega
    clear hw0
    go_enter Tryd.func56, Tryd.ntmps56
    go_wp2
    go_ret2
    exact ⟨by rw [HF.out.1, HF.out.2]; rfl, hb0⟩
  · have hd : decide ((131072 : Int) < (s.size : Int)) = false := by simp; omega
    by_cases hn : n = 0
    · subst hn
      have hl : layOk 4 s = true := by rw [layOk_four]; simp; omega
      have hL := long_any s _ hw0 (by omega)
      have HF : Hid (vRes 76 ⟨0, s⟩ = layR 4 s ∧ vE 76 ⟨0, s⟩ = layE 4 s) := Lib.hid (by
        have e : vE 76 ⟨0, s⟩ = 0 := by rw [vE, if_neg (by decide), if_neg (by decide), if_pos rfl, if_neg hs]; rfl
        exact ⟨by rw [vRes, if_pos e, vB, if_neg (by decide), if_neg (by decide), if_pos rfl], by rw [e, layE_of hl]⟩)
      generalize layR 4 s = r at HF hL
      generalize layE 4 s = x at HF hL
      go_enter Tryd.func56, Tryd.ntmps56
      go_wp2_with fail
      refine hL.mono ?_
      rintro e w1 ⟨rfl, hb⟩
      clear hL
      go_wp2
      go_ret2
      exact ⟨by rw [HF.out.1, HF.out.2]; rfl, hb0.trans (hb.mono hb0.size)⟩
    · have tn : (n != 0) = true := by simpa using hn
      have HF : Hid (vRes 76 ⟨n, s⟩ = ⟨#[]⟩ ∧ vE 76 ⟨n, s⟩ = 1) := Lib.hid (by
        have e : vE 76 ⟨n, s⟩ = 1 := by rw [vE, if_neg (by decide), if_neg (by decide), if_pos rfl, if_neg hs, if_neg hn]
        exact ⟨by rw [vRes, e]; rfl, e⟩)
      clear hw0 hn
      go_enter Tryd.func56, Tryd.ntmps56
      go_wp2
      go_ret2
      exact ⟨by rw [HF.out.1, HF.out.2]; rfl, hb0⟩

set_option maxHeartbeats 1000000 in
theorem vtable_any (v : MV) (w : World) (hw : Wid w) (hv : wfV v) :
    Calls Tryd.prog 57 #[encV v] w fun e w' => e = .returned (.tuple #[.string (vRes 84 v), .int .i64 (vE 84 v)]) ∧ Below w.heap.size w w' := by
  obtain ⟨n, s⟩ := v
  obtain ⟨v1, v2, v3⟩ := hv
  dsimp only at v1 v2 v3
  have hb0 : Below w.heap.size w (w.alloc (.cells #[.int .u64 n, .string s] 91)) := (Below.refl _ w).alloc (Nat.le_refl _) _
  have hw0 := hw.below hb0
  have hx := Bx.new w 91 [.int .u64 n, .string s]
  unfold encV
  dsimp only
  by_cases hn : n = 0
  · subst hn
    have hT := tabTake_any s _ hw0 (by omega)
    have hI : tabIs s = (decide ((nest true s 32).err = 0) && decide ((takenB (nest true s 32)).size = 0)) := by
      rw [tabIs, takenB]
      by_cases g : (nest true s 32).err = 0
      · rw [if_pos g]
      · simp [g]
    have HI := Lib.hid hI
    clear hI
    have HV : Hid (vE 84 ⟨0, s⟩ = if tabIs s = true then 0 else 3) := Lib.hid rfl
    have HR : Hid (vRes 84 ⟨0, s⟩ = if vE 84 ⟨0, s⟩ = 0 then s else ⟨#[]⟩) := Lib.hid rfl
    generalize takenA s (nest true s 32) = a at hT
    generalize takenB (nest true s 32) = b at hT HI
    generalize (nest true s 32).err = x at hT HI
    generalize vRes 84 ⟨0, s⟩ = vr at HR ⊢
    generalize vE 84 ⟨0, s⟩ = ve at HV HR ⊢
    go_enter Tryd.func57, Tryd.ntmps57
    go_wp2_with fail
    refine hT.mono ?_
    rintro e w1 ⟨rfl, hb⟩
    have x1 := (hx.kept hb).cell 1 (by simp)
    dsimp only [List.getElem_cons_zero, List.getElem_cons_succ] at x1
    have hB := hb0.trans (hb.mono hb0.size)
    clear hT hx hb hb0 hw0
    by_cases hx0 : x = 0
    · subst hx0
      rcases str_cases b with ⟨rfl, hs⟩ | ⟨ts, hs⟩
      · have HF : Hid (vr = s ∧ ve = 0) := Lib.hid (by
          have e : ve = 0 := by rw [HV.out, HI.out]; rfl
          exact ⟨by rw [HR.out, if_pos e], e⟩)
        clear hs HI HV HR
        go_wp2
        go_ret2
        exact ⟨by rw [HF.out.1, HF.out.2]; rfl, hB⟩
      · have HF : Hid (vr = ⟨#[]⟩ ∧ ve = 3) := Lib.hid (by
          have e : ve = 3 := by rw [HV.out, HI.out, if_neg (by rw [Bool.and_eq_true]; rintro ⟨-, h⟩; exact hs (of_decide_eq_true h))]
          exact ⟨by rw [HR.out, e]; rfl, e⟩)
        clear hs HI HV HR
        go_wp2
        go_ret2
        exact ⟨by rw [HF.out.1, HF.out.2]; rfl, hB⟩
    · have tx : (x != 0) = true := by simpa using hx0
      have HF : Hid (vr = ⟨#[]⟩ ∧ ve = 3) := Lib.hid (by
        have e : ve = 3 := by rw [HV.out, HI.out, if_neg (by simp [hx0])]
        exact ⟨by rw [HR.out, e]; rfl, e⟩)
      clear hx0 HI HV HR
      go_wp2
      go_ret2
      exact ⟨by rw [HF.out.1, HF.out.2]; rfl, hB⟩
  · have tn : (n != 0) = true := by simpa using hn
    have HF : Hid (vRes 84 ⟨n, s⟩ = ⟨#[]⟩ ∧ vE 84 ⟨n, s⟩ = 1) := Lib.hid (by
      have e : vE 84 ⟨n, s⟩ = 1 := by rw [vE, if_neg (by decide), if_neg (by decide), if_neg (by decide), if_pos rfl, if_neg hn]
      exact ⟨by rw [vRes, e]; rfl, e⟩)
    clear hw0 hn hx
    go_enter Tryd.func57, Tryd.ntmps57
    go_wp2
    go_ret2
    exact ⟨by rw [HF.out.1, HF.out.2]; rfl, hb0⟩
end Go.Proofs.YtdgidbiolklneaaDoor

/-
  method.ways makes a map that has, at the byte of each letter, the method by which such a value is laid. No condition.
-/
namespace Go.Proofs.YtdgidbiolklneaaDoor
open Go.RowKit Go.Maps

/-- how a function without captured things reads, for a map's sake: its number -/
def funcElem (v : Value) : Option (DataW Unit × List MemPlace) := match v with
  | .func (.func f) a b => if a.isEmpty && b.isEmpty then some (.lit (.int .i64 (f : Nat)), []) else none
  | .nilFunc => some (.lit (.int .i64 (-1)), [])
  | _ => none
theorem funcElem_mk (f : Nat) : funcElem (.func (.func f) #[] #[]) = some (.lit (.int .i64 (f : Nat)), []) := rfl
theorem funcElem_inv {v : Value} {f : Nat} {ps : List MemPlace} (h : funcElem v = some (.lit (.int .i64 (f : Nat)), ps)) : v = .func (.func f) #[] #[] := by
  unfold funcElem at h
  split at h
  · rename_i g a b
    split at h
    · rename_i hc
      rw [Bool.and_eq_true, Array.isEmpty_iff, Array.isEmpty_iff] at hc
      obtain ⟨rfl, rfl⟩ := hc
      simp only [Option.some.injEq, Prod.mk.injEq, DataW.lit.injEq, Lit.int.injEq, true_and] at h
      have hg : g = f := Int.ofNat.inj h.1
      rw [hg]
    · cases h
  · simp only [Option.some.injEq, Prod.mk.injEq, DataW.lit.injEq, Lit.int.injEq, true_and] at h
    omega
  · cases h
theorem zeroWay (w : World) : (zeroValue 90).run Tryd.prog w = .ok .nilFunc w := by kernel_rfl

def waysD : DataW Unit := (((((((((DataW.map []).put (.int .u8 111) (.lit (.int .i64 50))).put (.int .u8 115) (.lit (.int .i64 51))).put (.int .u8 108) (.lit (.int .i64 52))).put (.int .u8 113) (.lit (.int .i64 53))).put (.int .u8 98) (.lit (.int .i64 54))).put (.int .u8 83) (.lit (.int .i64 55))).put (.int .u8 76) (.lit (.int .i64 56))).put (.int .u8 84) (.lit (.int .i64 57)))
/-- the method of a letter -/
def wayF (c : UInt8) : Nat := if c = 111 then 50 else if c = 115 then 51 else if c = 108 then 52 else if c = 113 then 53 else if c = 98 then 54 else if c = 83 then 55 else if c = 76 then 56 else 57
theorem ways_at (c : UInt8) (h : isLet c = true) : waysD.atKey (.int .u8 (c.toNat : Nat)) (.lit (.int .i64 (-1))) = .lit (.int .i64 ((wayF c : Nat) : Int)) := by
  rcases let_cases h with rfl | rfl | rfl | rfl | rfl | rfl | rfl | rfl <;> kernel_rfl
def Ways (w : World) (M : Nat) : Prop := w.ownsMap Tryd.prog 5 funcElem M 8 waysD
theorem Ways.lt {w : World} {M : Nat} (h : Ways w M) : M < w.heap.size := World.ownsMap.lt h
theorem Ways.block {w w' : World} {M : Nat} (h : Ways w M) (hb : w'.heap[M]? = w.heap[M]?) : Ways w' M := by
  obtain ⟨es, clock, h1, h2, h3, h4⟩ := h
  exact ⟨es, clock, hb.trans h1, h2, h3, h4⟩
theorem Ways.below {w w' : World} {M n : Nat} (h : Ways w M) (hb : Below n w w') (hn : M < n) : Ways w' M := h.block (hb.block M hn)
theorem Ways.look {w : World} {M : Nat} (h : Ways w M) (c : UInt8) (hc : isLet c = true) : (Instr.lookup 86 (.map (some M)) (.int .u8 (c.toNat : Nat)) false).run Tryd.prog w = .ok (.func (.func (wayF c)) #[] #[]) w := by
  obtain ⟨v, ps, hrun, hv⟩ := World.ownsMap.lookup h lawByte Tryd.underlying86 (zeroWay w) (zd := .lit (.int .i64 (-1))) (zp := []) rfl (keyOf_int_mk (q := .u8) (a := (c.toNat : Nat)) Tryd.underlying5 (by rcases let_cases hc with rfl | rfl | rfl | rfl | rfl | rfl | rfl | rfl <;> decide))
  rw [ways_at c hc] at hv
  rw [hrun, funcElem_inv hv]

set_option maxRecDepth 100000 in
set_option maxHeartbeats 1000000 in
theorem ways_any (w : World) :
    Calls Tryd.prog 34 #[] w fun e w' => e = .returned (.map (some w.heap.size)) ∧ Ways w' w.heap.size ∧ Below w.heap.size w w' := by
  have hmm := @run_makeMap Tryd.prog
  have hm0 := World.ownsMap_made w Tryd.prog 5 funcElem
  have hb0 : Below w.heap.size w (w.alloc (.map #[] 0)) := (Below.refl _ _).alloc (Nat.le_refl _) _
  obtain ⟨w1, hr1, hm1, hg1⟩ := hm0.update (t := 86) (e := 90) lawByte Tryd.underlying86 (by decide) (keyOf_int_mk (q := .u8) (a := 111) Tryd.underlying5 (by decide)) (funcElem_mk 50)
  have hb1 := hb0.grown hg1 hb0.size (fun k e => by cases e; exact Nat.le_refl _)
  clear hm0 hg1 hb0
  obtain ⟨w2, hr2, hm2, hg2⟩ := hm1.update (t := 86) (e := 90) lawByte Tryd.underlying86 (by decide) (keyOf_int_mk (q := .u8) (a := 115) Tryd.underlying5 (by decide)) (funcElem_mk 51)
  have hb2 := hb1.grown hg2 hb1.size (fun k e => by cases e; exact Nat.le_refl _)
  clear hm1 hg2 hb1
  obtain ⟨w3, hr3, hm3, hg3⟩ := hm2.update (t := 86) (e := 90) lawByte Tryd.underlying86 (by decide) (keyOf_int_mk (q := .u8) (a := 108) Tryd.underlying5 (by decide)) (funcElem_mk 52)
  have hb3 := hb2.grown hg3 hb2.size (fun k e => by cases e; exact Nat.le_refl _)
  clear hm2 hg3 hb2
  obtain ⟨w4, hr4, hm4, hg4⟩ := hm3.update (t := 86) (e := 90) lawByte Tryd.underlying86 (by decide) (keyOf_int_mk (q := .u8) (a := 113) Tryd.underlying5 (by decide)) (funcElem_mk 53)
  have hb4 := hb3.grown hg4 hb3.size (fun k e => by cases e; exact Nat.le_refl _)
  clear hm3 hg4 hb3
  obtain ⟨w5, hr5, hm5, hg5⟩ := hm4.update (t := 86) (e := 90) lawByte Tryd.underlying86 (by decide) (keyOf_int_mk (q := .u8) (a := 98) Tryd.underlying5 (by decide)) (funcElem_mk 54)
  have hb5 := hb4.grown hg5 hb4.size (fun k e => by cases e; exact Nat.le_refl _)
  clear hm4 hg5 hb4
  obtain ⟨w6, hr6, hm6, hg6⟩ := hm5.update (t := 86) (e := 90) lawByte Tryd.underlying86 (by decide) (keyOf_int_mk (q := .u8) (a := 83) Tryd.underlying5 (by decide)) (funcElem_mk 55)
  have hb6 := hb5.grown hg6 hb5.size (fun k e => by cases e; exact Nat.le_refl _)
  clear hm5 hg6 hb5
  obtain ⟨w7, hr7, hm7, hg7⟩ := hm6.update (t := 86) (e := 90) lawByte Tryd.underlying86 (by decide) (keyOf_int_mk (q := .u8) (a := 76) Tryd.underlying5 (by decide)) (funcElem_mk 56)
  have hb7 := hb6.grown hg7 hb6.size (fun k e => by cases e; exact Nat.le_refl _)
  clear hm6 hg7 hb6
  obtain ⟨w8, hr8, hm8, hg8⟩ := hm7.update (t := 86) (e := 90) lawByte Tryd.underlying86 (by decide) (keyOf_int_mk (q := .u8) (a := 84) Tryd.underlying5 (by decide)) (funcElem_mk 57)
  have hb8 := hb7.grown hg8 hb7.size (fun k e => by cases e; exact Nat.le_refl _)
  clear hm7 hg8 hb7
  go_enter Tryd.func34, Tryd.ntmps34
  go_wp2
  go_ret
  exact ⟨rfl, hm8, hb8⟩
end Go.Proofs.YtdgidbiolklneaaDoor

/-
  A strings.Builder of one's own: WriteString lays the bytes behind those that are there, and writes nothing but the builder and its bytes. Condition: at most 2^47 bytes.
-/
namespace Go.Proofs.YtdgidbiolklneaaDoor
open Go.RowKit

theorem Ways.keeps {p : TypeId → Bool} {w w' : World} {M : Nat} (h : Ways w M) (hk : Keeps p w w') : Ways w' M := by
  obtain ⟨es, clock, h1, h2, h3, h4⟩ := h
  exact ⟨es, clock, hk M _ h1 (fun _ _ _ e => by cases e), h2, h3, h4⟩

/-- bools as a row's values -/
def boolVals (l : List Bool) : List Value := l.map Value.bool
def notBits (t : TypeId) : Bool := t != 4 && t != 88
theorem infoBool8 : (Tryd.prog.info? 4).map (fun i => (i.zero, i.size, i.bytes)) = some (some (.bool false), 1, 1) := by kernel_rfl
set_option maxRecDepth 100000 in
set_option maxHeartbeats 1000000 in
theorem gather_any (B bb : Nat) (x : Int) (vb : Value) (bs : List Bool) (w : World) (hB : B ≤ bb) (hBw : B ≤ w.heap.size) (hbx : Boxed w bb 88 vb) (hown : w.ownsRow B 4 1 vb bs.length (boolVals bs)) (hl : bs.length ≤ 1000) :
    Calls Tryd.prog 35 #[.int .u64 x, .pointer (some ⟨bb, 0, none⟩)] w fun e w' => e = .returned (.tuple #[]) ∧ (∃ vb', Boxed w' bb 88 vb' ∧ w'.ownsRow B 4 1 vb' (bs ++ [x == 1]).length (boolVals (bs ++ [x == 1]))) ∧ Below B w w' ∧ Keeps notBits w w' := by
  obtain ⟨i0, hi, hz0, hz1, hz2⟩ := info_parts infoBool8
  have c0 := hbx.cell
  have HL := Lib.hid (show boolVals (bs ++ [x == 1]) = boolVals bs ++ [.bool (x == 1)] ∧ (bs ++ [x == 1]).length = bs.length + 1 by simp [boolVals])
  generalize (bs ++ [x == 1]) = bs' at HL
  generalize hq : (x == 1) = q at HL
  go_enter Tryd.func35, Tryd.ntmps35
  go_wp2_with (first
    | (at_builtin; refine wpList_append_own _ rfl _ _ 88 rfl B 4 i0 (.bool false) 1 1 Tryd.underlying88 hi hz0 hz1 hz2 rfl (by decide) _ _ _ rfl (hown.alloc _) ⟨w.heap.size, 0, none⟩ 1 1 [.bool q] rfl rfl (cell_one_new _ _ _) (by simp [Value.oneCell']) (by unfold maxLen; omega) (by omega) (by simp; omega) ?_))
  intro o' w3 hown' hgrow _
  have hb3 := rowBelow hBw hown (Below.refl B w) hgrow
  have hka : Keeps notBits w (w.alloc (.cells #[.bool q] 4)) := Keeps.below ((Below.refl _ w).alloc (Nat.le_refl _) _)
  have hk3 : Keeps notBits w w3 := hka.trans (Keeps.grown (hown.alloc _) hgrow (by decide))
  have hnb : some bb ≠ vb.ownBlock := fun e => by
    rcases hown.2 with ⟨rfl, _⟩ | ⟨g, cap, cur, rfl, -, hb, -, -⟩
    · simp [Value.ownBlock] at e
    · obtain rfl : g = bb := by simpa [Value.ownBlock] using e.symm
      rw [show w.heap[g]? = _ from hbx] at hb
      cases hb
  have hbx3 : Boxed w3 bb 88 vb := (hbx.alloc _).kept hgrow hnb
  have hnb' : some bb ≠ o'.ownBlock := fun e => by
    rcases hown'.2 with ⟨rfl, _⟩ | ⟨g, cap, cur, rfl, -, hb, -, -⟩
    · simp [Value.ownBlock] at e
    · obtain rfl : g = bb := by simpa [Value.ownBlock] using e.symm
      rw [show w3.heap[g]? = _ from hbx3] at hb
      cases hb
  have c3 := hbx3.cell
  have f3 := hbx3.frozen
  have hset := hbx3.set o'
  have Hk := Keeps.setCell (p := notBits) (show w3.heap[bb]? = _ from hbx3) (by decide) 0 o'
  have Hown : Hid (w3.ownsRow B 4 1 o' (bs.length + 1) (boolVals bs ++ [.bool q])) := Lib.hid hown'
  have hown4 := Keeps.row (p := fun t => t != 88) (Keeps.setCell (show w3.heap[bb]? = _ from hbx3) (by decide) 0 o') Hown.out (by decide)
  obtain ⟨ao, n', cap, rfl⟩ : ∃ ao n' cap, o' = .slice ao n' cap := by
    rcases hown'.2 with ⟨hv, _⟩ | ⟨g, cap, cur, hv, _⟩
    · exact ⟨_, _, _, hv⟩
    · exact ⟨_, _, _, hv⟩
  have hb4 := hb3.setCell (p := ⟨bb, 0, none⟩) hB (.slice ao n' cap)
  clear hown' hown hgrow hbx hbx3 hnb hnb' hka c0
  go_wp2
  go_end0
  refine ⟨rfl, ⟨_, hset, ?_⟩, hb4, hk3.trans Hk⟩
  rw [HL.out.1, HL.out.2]
  exact hown4
end Go.Proofs.YtdgidbiolklneaaDoor
