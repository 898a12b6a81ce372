/-
  props.number, shortText, wholeTable and lay answer a value's bytes by its letter, or why it isn't right; nothing that was there is changed. Conditions: the package num's table of widths holds 1, 2, 4, 8; the value's number is a uint64, its text is shorter than 2^47 bytes.
-/
import Derived.Test.YtdgidbiolklneaaDoorJMem
import Derived.Test.YtdgidbiolklneaaDoorJMV
import Derived.Test.YtdgidbiolklneaaDoorJSame8
namespace Go.Proofs.YtdgidbiolklneaaDoor
open Go.RowKit

set_option maxHeartbeats 1000000 in
theorem pnumber_any (k : Int) (v : MV) (w : World) (hw : Wid w) (hv : wfV v) (hk : isW k = true) :
    Calls Tryd.prog 43 #[.int .i64 k, encV v] w fun e w' => e = .returned (.tuple #[.string (numR k v), .int .i64 (numE k v)]) ∧ Below w.heap.size w w' := by
  obtain ⟨n, s⟩ := v
  obtain ⟨v1, v2, v3⟩ := hv
  dsimp only at v1 v2 v3
  have hb0 : Below w.heap.size w (w.alloc (.cells #[.int .u64 n, .string s] 41)) := (Below.refl _ w).alloc (Nat.le_refl _) _
  have hw0 := hw.below hb0
  have hx := Bx.new w 41 [.int .u64 n, .string s]
  unfold encV
  dsimp only
  go_enter Tryd.func43, Tryd.ntmps43
  go_wp2_with fail
  refine (put_any k n _ hw0 v1 v2).mono ?_
  rintro e w1 ⟨rfl, hb⟩
  have x1 := (hx.kept hb).cell 1 (by simp)
  dsimp only [List.getElem_cons_zero, List.getElem_cons_succ] at x1
  have hB := hb0.trans (hb.mono hb0.size)
  clear hx hb hb0 hw0
  cases hp : putOk k n
  · have e4 : putE k n = 4 := by rw [putE, if_pos hk, if_neg (by simp [hp])]
    have HF : Hid (numR k ⟨n, s⟩ = ⟨#[]⟩ ∧ numE k ⟨n, s⟩ = 4) := Lib.hid (by simp [numR, numE, hp])
    rw [e4]
    clear hp e4
    go_wp2
    go_ret2
    exact ⟨by rw [HF.out.1, HF.out.2]; rfl, hB⟩
  · rw [putE_of hp]
    rcases str_cases s with ⟨rfl, hs⟩ | ⟨ts, hs⟩
    · have HF : Hid (numR k ⟨n, ⟨#[]⟩⟩ = putR k n ∧ numE k ⟨n, ⟨#[]⟩⟩ = 0) := Lib.hid (by
        have e : numE k ⟨n, ⟨#[]⟩⟩ = 0 := by rw [numE, if_pos hp]; rfl
        exact ⟨by rw [numR, if_pos e], e⟩)
      clear hs hp
      generalize putR k n = r at HF ⊢
      go_wp2
      go_ret2
      exact ⟨by rw [HF.out.1, HF.out.2]; rfl, hB⟩
    · have HF : Hid (numR k ⟨n, s⟩ = ⟨#[]⟩ ∧ numE k ⟨n, s⟩ = 1) := Lib.hid (by
        have e : numE k ⟨n, s⟩ = 1 := by rw [numE, if_pos hp, if_neg hs]
        exact ⟨by rw [numR, e]; rfl, e⟩)
      clear hs hp
      generalize putR k n = r at HF ⊢
      go_wp2
      go_ret2
      exact ⟨by rw [HF.out.1, HF.out.2]; rfl, hB⟩

set_option maxHeartbeats 1000000 in
theorem pvshort_any (v : MV) (w : World) (hw : Wid w) (hv : wfV v) :
    Calls Tryd.prog 44 #[encV v] w fun e w' => e = .returned (.tuple #[.string (vRes 83 v), .int .i64 (vE 83 v)]) ∧ Below w.heap.size w w' := by
  obtain ⟨n, s⟩ := v
  obtain ⟨v1, v2, v3⟩ := hv
  dsimp only at v1 v2 v3
  have hb0 : Below w.heap.size w (w.alloc (.cells #[.int .u64 n, .string s] 41)) := (Below.refl _ w).alloc (Nat.le_refl _) _
  have hw0 := hw.below hb0
  have hx := Bx.new w 41 [.int .u64 n, .string s]
  unfold encV
  dsimp only
  go_enter Tryd.func44, Tryd.ntmps44
  go_wp2_with fail
  refine (short_any s _ hw0 (by omega)).mono ?_
  rintro e w1 ⟨rfl, hb⟩
  have x0 := (hx.kept hb).cell 0 (by simp)
  dsimp only [List.getElem_cons_zero, List.getElem_cons_succ] at x0
  have hB := hb0.trans (hb.mono hb0.size)
  clear hx hb hb0 hw0
  cases hp : layOk 1 s
  · have e4 : layE 1 s = 4 := by
      have hp' : putOk 1 (s.size : Int) = false := hp
      rw [layE, putE, if_pos (by decide), if_neg (by simp [hp'])]
    have HF : Hid (vRes 83 ⟨n, s⟩ = ⟨#[]⟩ ∧ vE 83 ⟨n, s⟩ = 4) := Lib.hid (by
      have e : vE 83 ⟨n, s⟩ = 4 := by rw [vE, if_neg (by decide), if_pos rfl, if_neg (by simp [hp])]
      exact ⟨by rw [vRes, e]; rfl, e⟩)
    rw [e4]
    clear hp e4
    generalize layR 1 s = r
    go_wp2
    go_ret2
    exact ⟨by rw [HF.out.1, HF.out.2]; rfl, hB⟩
  · rw [layE_of hp]
    by_cases hn : n = 0
    · subst hn
      have HF : Hid (vRes 83 ⟨0, s⟩ = layR 1 s ∧ vE 83 ⟨0, s⟩ = 0) := Lib.hid (by
        have e : vE 83 ⟨0, s⟩ = 0 := by rw [vE, if_neg (by decide), if_pos rfl, if_pos hp]; rfl
        exact ⟨by rw [vRes, if_pos e, vB, if_neg (by decide), if_pos rfl], e⟩)
      clear hp
      generalize layR 1 s = r at HF ⊢
      go_wp2
      go_ret2
      exact ⟨by rw [HF.out.1, HF.out.2]; rfl, hB⟩
    · have tn : (n != 0) = true := by simpa using hn
      have HF : Hid (vRes 83 ⟨n, s⟩ = ⟨#[]⟩ ∧ vE 83 ⟨n, s⟩ = 1) := Lib.hid (by
        have e : vE 83 ⟨n, s⟩ = 1 := by rw [vE, if_neg (by decide), if_pos rfl, if_pos hp, if_neg hn]
        exact ⟨by rw [vRes, e]; rfl, e⟩)
      clear hp hn
      generalize layR 1 s = r at HF ⊢
      go_wp2
      go_ret2
      exact ⟨by rw [HF.out.1, HF.out.2]; rfl, hB⟩

set_option maxHeartbeats 1000000 in
theorem pvtable_any (v : MV) (w : World) (hw : Wid w) (hv : wfV v) :
    Calls Tryd.prog 45 #[encV v] w fun e w' => e = .returned (.tuple #[.string (vRes 84 v), .int .i64 (vE 84 v)]) ∧ Below w.heap.size w w' := by
  obtain ⟨n, s⟩ := v
  obtain ⟨v1, v2, v3⟩ := hv
  dsimp only at v1 v2 v3
  have hb0 : Below w.heap.size w (w.alloc (.cells #[.int .u64 n, .string s] 41)) := (Below.refl _ w).alloc (Nat.le_refl _) _
  have hw0 := hw.below hb0
  have hx := Bx.new w 41 [.int .u64 n, .string s]
  unfold encV
  dsimp only
  by_cases hn : n = 0
  · subst hn
    have hT := tabTake_any s _ hw0 (by omega)
    have hI : tabIs s = (decide ((nest true s 32).err = 0) && decide ((takenB (nest true s 32)).size = 0)) := by
      rw [tabIs, takenB]
      by_cases g : (nest true s 32).err = 0
      · rw [if_pos g]
      · simp [g]
    have HI := Lib.hid hI
    clear hI
    have HV : Hid (vE 84 ⟨0, s⟩ = if tabIs s = true then 0 else 3) := Lib.hid rfl
    have HR : Hid (vRes 84 ⟨0, s⟩ = if vE 84 ⟨0, s⟩ = 0 then s else ⟨#[]⟩) := Lib.hid rfl
    generalize takenA s (nest true s 32) = a at hT
    generalize takenB (nest true s 32) = b at hT HI
    generalize (nest true s 32).err = x at hT HI
    generalize vRes 84 ⟨0, s⟩ = vr at HR ⊢
    generalize vE 84 ⟨0, s⟩ = ve at HV HR ⊢
    go_enter Tryd.func45, Tryd.ntmps45
    go_wp2_with fail
    refine hT.mono ?_
    rintro e w1 ⟨rfl, hb⟩
    have x1 := (hx.kept hb).cell 1 (by simp)
    dsimp only [List.getElem_cons_zero, List.getElem_cons_succ] at x1
    have hB := hb0.trans (hb.mono hb0.size)
    clear hT hx hb hb0 hw0
    by_cases hx0 : x = 0
    · subst hx0
      rcases str_cases b with ⟨rfl, hs⟩ | ⟨ts, hs⟩
      · have HF : Hid (vr = s ∧ ve = 0) := Lib.hid (by
          have e : ve = 0 := by rw [HV.out, HI.out]; rfl
          exact ⟨by rw [HR.out, if_pos e], e⟩)
        clear hs HI HV HR
        go_wp2
        go_ret2
        exact ⟨by rw [HF.out.1, HF.out.2]; rfl, hB⟩
      · have HF : Hid (vr = ⟨#[]⟩ ∧ ve = 3) := Lib.hid (by
          have e : ve = 3 := by rw [HV.out, HI.out, if_neg (by rw [Bool.and_eq_true]; rintro ⟨-, h⟩; exact hs (of_decide_eq_true h))]
          exact ⟨by rw [HR.out, e]; rfl, e⟩)
        clear hs HI HV HR
        go_wp2
        go_ret2
        exact ⟨by rw [HF.out.1, HF.out.2]; rfl, hB⟩
    · have tx : (x != 0) = true := by simpa using hx0
      have HF : Hid (vr = ⟨#[]⟩ ∧ ve = 3) := Lib.hid (by
        have e : ve = 3 := by rw [HV.out, HI.out, if_neg (by simp [hx0])]
        exact ⟨by rw [HR.out, e]; rfl, e⟩)
      clear hx0 HI HV HR
      go_wp2
      go_ret2
      exact ⟨by rw [HF.out.1, HF.out.2]; rfl, hB⟩
  · have tn : (n != 0) = true := by simpa using hn
    have HF : Hid (vRes 84 ⟨n, s⟩ = ⟨#[]⟩ ∧ vE 84 ⟨n, s⟩ = 1) := Lib.hid (by
      have e : vE 84 ⟨n, s⟩ = 1 := by rw [vE, if_neg (by decide), if_neg (by decide), if_neg (by decide), if_pos rfl, if_neg hn]
      exact ⟨by rw [vRes, e]; rfl, e⟩)
    clear hw0 hn hx
    go_enter Tryd.func45, Tryd.ntmps45
    go_wp2
    go_ret2
    exact ⟨by rw [HF.out.1, HF.out.2]; rfl, hb0⟩

set_option maxHeartbeats 1000000 in
theorem play_111 (v : MV) (w : World) (hw : Wid w) (hv : wfV v) :
    Calls Tryd.prog 29 #[.int .u8 111, encV v] w fun e w' => e = .returned (.tuple #[.string (vRes 111 v), .int .i64 (vE 111 v)]) ∧ Below w.heap.size w w' := by
  have hb0 : Below w.heap.size w (w.alloc (.cells #[.int .u64 v.n, .string v.s] 41)) := (Below.refl _ w).alloc (Nat.le_refl _) _
  have hw0 := hw.below hb0
  have hN := pnumber_any 1 v _ hw0 hv (by decide)
  have H : Hid (numR 1 v = vRes 111 v ∧ numE 1 v = vE 111 v) := Lib.hid ⟨rfl, rfl⟩
  rw [H.out.1, H.out.2] at hN
  clear H
  generalize vRes 111 v = a at hN
  generalize vE 111 v = x at hN
  unfold encV at hN ⊢
  go_enter Tryd.func29, Tryd.ntmps29
  go_wp2_with fail
  refine hN.mono ?_
  rintro e w1 ⟨rfl, hb⟩
  clear hN
  go_wp2
  go_ret2
  exact ⟨rfl, hb0.trans (hb.mono hb0.size)⟩

set_option maxHeartbeats 1000000 in
theorem play_113 (v : MV) (w : World) (hw : Wid w) (hv : wfV v) :
    Calls Tryd.prog 29 #[.int .u8 113, encV v] w fun e w' => e = .returned (.tuple #[.string (vRes 113 v), .int .i64 (vE 113 v)]) ∧ Below w.heap.size w w' := by
  have hb0 : Below w.heap.size w (w.alloc (.cells #[.int .u64 v.n, .string v.s] 41)) := (Below.refl _ w).alloc (Nat.le_refl _) _
  have hw0 := hw.below hb0
  have hN := pnumber_any 8 v _ hw0 hv (by decide)
  have H : Hid (numR 8 v = vRes 113 v ∧ numE 8 v = vE 113 v) := Lib.hid ⟨rfl, rfl⟩
  rw [H.out.1, H.out.2] at hN
  clear H
  generalize vRes 113 v = a at hN
  generalize vE 113 v = x at hN
  unfold encV at hN ⊢
  go_enter Tryd.func29, Tryd.ntmps29
  go_wp2_with fail
  refine hN.mono ?_
  rintro e w1 ⟨rfl, hb⟩
  clear hN
  go_wp2
  go_ret2
  exact ⟨rfl, hb0.trans (hb.mono hb0.size)⟩

set_option maxHeartbeats 1000000 in
theorem play_83 (v : MV) (w : World) (hw : Wid w) (hv : wfV v) :
    Calls Tryd.prog 29 #[.int .u8 83, encV v] w fun e w' => e = .returned (.tuple #[.string (vRes 83 v), .int .i64 (vE 83 v)]) ∧ Below w.heap.size w w' := by
  have hb0 : Below w.heap.size w (w.alloc (.cells #[.int .u64 v.n, .string v.s] 41)) := (Below.refl _ w).alloc (Nat.le_refl _) _
  have hw0 := hw.below hb0
  have hN := pvshort_any v _ hw0 hv
  generalize vRes 83 v = a at hN
  generalize vE 83 v = x at hN
  unfold encV at hN ⊢
  go_enter Tryd.func29, Tryd.ntmps29
  go_wp2_with fail
  refine hN.mono ?_
  rintro e w1 ⟨rfl, hb⟩
  clear hN
  go_wp2
  go_ret2
  exact ⟨rfl, hb0.trans (hb.mono hb0.size)⟩

set_option maxHeartbeats 1000000 in
theorem play_84 (v : MV) (w : World) (hw : Wid w) (hv : wfV v) :
    Calls Tryd.prog 29 #[.int .u8 84, encV v] w fun e w' => e = .returned (.tuple #[.string (vRes 84 v), .int .i64 (vE 84 v)]) ∧ Below w.heap.size w w' := by
  have hb0 : Below w.heap.size w (w.alloc (.cells #[.int .u64 v.n, .string v.s] 41)) := (Below.refl _ w).alloc (Nat.le_refl _) _
  have hw0 := hw.below hb0
  have hN := pvtable_any v _ hw0 hv
  generalize vRes 84 v = a at hN
  generalize vE 84 v = x at hN
  unfold encV at hN ⊢
  go_enter Tryd.func29, Tryd.ntmps29
  go_wp2_with fail
  refine hN.mono ?_
  rintro e w1 ⟨rfl, hb⟩
  clear hN
  go_wp2
  go_ret2
  exact ⟨rfl, hb0.trans (hb.mono hb0.size)⟩

theorem play_any (i : Fin 14) (v : MV) (w : World) (hw : Wid w) (hv : wfV v) :
    Calls Tryd.prog 29 #[.int .u8 ((pLet i).toNat : Int), encV v] w fun e w' => e = .returned (.tuple #[.string (vRes (pLet i) v), .int .i64 (vE (pLet i) v)]) ∧ Below w.heap.size w w' := by
  rcases pLet_cases i with h | h | h | h <;> rw [h]
  · exact play_83 v w hw hv
  · exact play_84 v w hw hv
  · exact play_111 v w hw hv
  · exact play_113 v w hw hv
end Go.Proofs.YtdgidbiolklneaaDoor
