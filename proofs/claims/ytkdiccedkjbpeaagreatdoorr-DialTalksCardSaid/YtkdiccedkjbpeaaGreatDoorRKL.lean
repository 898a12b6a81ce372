/-
  Several texts joined in one file: each says at its own head, below, what it proves, and its conditions.
-/
import Derived.Test.YtkdiccedkjbpeaaGreatDoorRJLay
import Derived.Test.YtkdiccedkjbpeaaGreatDoorRPMethC
import Derived.Test.YtkdiccedkjbpeaaGreatDoorRJWSig
import Derived.Laws.ResultCell
import Derived.Test.YtkdiccedkjbpeaaGreatDoorRJMem
import Derived.Test.YtkdiccedkjbpeaaGreatDoorRJMV
/-
  method.which, Bytes and Right, and the document's example, answer as the plain functions say; nothing that was there is changed. Conditions: the package num's table of widths holds 1, 2, 4, 8; a value's number is a uint64, its text shorter than 2^47 bytes.
-/
namespace Go.Proofs.YtkdiccedkjbpeaaGreatDoorR
open Go.RowKit

def encM (m : Me) (A : Option Addr) (cap : Nat) : Value := .agg #[.int .i64 m.c, .int .i64 m.i, .slice A m.l.length cap]
def noneM : Value := .agg #[.int .i64 0, .int .i64 0, .slice none 0 0]

set_option maxHeartbeats 1000000 in
theorem which_any (m : Me) (A : Option Addr) (cap : Nat) (w : World) (hw : Wid w) (hc : 0 ≤ m.c ∧ m.c < 65536) (hi : 0 ≤ m.i ∧ m.i < 65536) :
    Calls Tryz.prog 49 #[encM m A cap] w fun e w' => e = .returned (.string (putR 2 m.c ++ putR 2 m.i)) ∧ Below w.heap.size w w' := by
  obtain ⟨c, i, l⟩ := m
  unfold encM
  dsimp only at hc hi ⊢
  have hb0 : Below w.heap.size w (w.alloc (.cells #[.int .i64 c, .int .i64 i, .slice A l.length cap] 39)) := (Below.refl _ w).alloc (Nat.le_refl _) _
  have hx := Bx.new w 39 [.int .i64 c, .int .i64 i, .slice A l.length cap]
  have e1 : IntKind.u64.wrap c = c := by simp only [IntKind.wrap_u64]; omega
  have e2 : IntKind.u64.wrap i = i := by simp only [IntKind.wrap_u64]; omega
  have p1 := putR_size (put2_ok hc)
  have p2 := putR_size (put2_ok hi)
  have q1 := putE_of (put2_ok hc)
  have q2 := putE_of (put2_ok hi)
  have hP1 := put_any 2 c _ (hw.below hb0) hc.1 (by omega)
  rw [q1] at hP1
  have hP2 := fun W hW => put_any 2 i W hW hi.1 (by omega)
  rw [q2] at hP2
  generalize putR 2 c = a at p1 hP1 ⊢
  generalize putR 2 i = b at p2 hP2 ⊢
  go_enter Tryz.func49, Tryz.ntmps49
  go_wp2_with fail
  refine hP1.mono ?_
  rintro e w1 ⟨rfl, hb1⟩
  have hB := hb0.trans (hb1.mono hb0.size)
  have x1 := (hx.kept hb1).cell 1 (by simp)
  dsimp only [List.getElem_cons_zero, List.getElem_cons_succ] at x1
  clear hP1 hb1 hx hb0 q1 q2
  go_wp2_with fail
  refine (hP2 w1 (hw.below hB)).mono ?_
  rintro e w2 ⟨rfl, hb2⟩
  have hB2 := hB.trans (hb2.mono hB.size)
  clear hP2 hb2 hB x1
  have hsz : a.size + b.size ≤ 9223372036854775807 := by omega
  go_wp2
  go_ret
  exact ⟨rfl, hB2⟩

set_option maxRecDepth 100000 in
set_option maxHeartbeats 2000000 in
theorem mbytes_any (m : Me) (A : Option Addr) (cap : Nat) (w : World) (hw : Wid w) (hm : wfM m) (hA : ValsAt w A (rowV m.l)) :
    Calls Tryz.prog 29 #[encM m A cap] w fun e w' => e = .returned (.tuple #[.string (mB m), .int .i64 (mE m)]) ∧ Below w.heap.size w w' := by
  have hb0 : Below w.heap.size w (w.alloc (.cells #[.int .i64 m.c, .int .i64 m.i, .slice A m.l.length cap] 39)) := (Below.refl _ w).alloc (Nat.le_refl _) _
  have hx := Bx.new w 39 [.int .i64 m.c, .int .i64 m.i, .slice A m.l.length cap]
  have hOf := of_any m.c m.i (w.alloc (.cells #[.int .i64 m.c, .int .i64 m.i, .slice A m.l.length cap] 39))
  have HE : Hid (mE m = if sIs m.c m.i = true then (if (sOf m.c m.i).size = m.l.length then layEr (mLs m) m.l else 7) else 7) := Lib.hid rfl
  have HB : Hid (mB m = if mE m = 0 then putR 2 m.c ++ putR 2 m.i ++ layBy (mLs m) m.l [] else ⟨#[]⟩) := Lib.hid rfl
  cases his : sIs m.c m.i
  · have HF : Hid (mB m = ⟨#[]⟩ ∧ mE m = 7) := Lib.hid (by
      have e : mE m = 7 := by rw [HE.out, if_neg (by simp [his])]
      exact ⟨by rw [HB.out, e]; rfl, e⟩)
    rw [his] at hOf
    generalize mB m = r at HF
    generalize mE m = x at HF
    clear HE HB his hA hm hx
    generalize sOf m.c m.i = L at hOf
    unfold encM
    obtain ⟨c, i, l⟩ := m
    dsimp only at hOf hb0 ⊢
    go_enter Tryz.func29, Tryz.ntmps29
    go_wp2_with fail
    refine hOf.mono ?_
    rintro e w1 ⟨rfl, hb1⟩
    clear hOf
    go_wp2
    go_ret2
    exact ⟨by rw [HF.out.1, HF.out.2]; rfl, hb0.trans (hb1.mono hb0.size)⟩
  · obtain ⟨f1, f2, f3, f4⟩ := met_facts his
    rw [his] at hOf
    by_cases hlen : (sOf m.c m.i).size = m.l.length
    · have hLay := fun W hW hAW => lay_m (sOf m.c m.i) A cap m.l W hW hlen (by omega) f1 hm hAW
      have hLs : (sOf m.c m.i).data.toList = mLs m := rfl
      have HE2 : Hid (mE m = layEr (mLs m) m.l) := Lib.hid (by rw [HE.out, if_pos his, if_pos hlen])
      have hWh := fun W hW => which_any m A cap W hW f3 f4
      have HSz : Hid (layEr (mLs m) m.l = 0 → (layS (mLs m) m.l).size ≤ 1099511627776) := Lib.hid (fun h => by
        have p3 := layBy_size 4294967401 (Nat.le_refl _) (mLs m) m.l [] h
        have hl : (mLs m).length ≤ 16 := by rw [mLs, ba_len]; exact f2
        have hm : (mLs m).length * 4294967401 ≤ 16 * 4294967401 := Nat.mul_le_mul_right _ hl
        rw [List.length_nil] at p3
        rw [layS, if_pos h]
        omega)
      have HY : Hid (layS (mLs m) m.l = if layEr (mLs m) m.l = 0 then layBy (mLs m) m.l [] else ⟨#[]⟩) := Lib.hid rfl
      rw [hLs] at hLay
      have p1 := putR_size (put2_ok f3)
      have p2 := putR_size (put2_ok f4)
      clear hLs hm f1 f3 f4 HE
      generalize layS (mLs m) m.l = ly at hLay HSz HY
      generalize layBy (mLs m) m.l [] = lb at HY HB
      generalize layEr (mLs m) m.l = le at hLay HE2 HSz HY
      generalize mE m = x at HB HE2
      generalize mB m = r at HB
      generalize putR 2 m.c = pa at p1 hWh HB
      generalize putR 2 m.i = pb at p2 hWh HB
      obtain ⟨c, i, l⟩ := m
      unfold encM at hWh ⊢
      dsimp only at *
      generalize sOf c i = L at hOf hLay hlen f2
      have tl : ((L.size : Int) != (l.length : Int)) = false := by simp; omega
      have Hlen := Lib.hid hlen
      clear hlen his
      go_enter Tryz.func29, Tryz.ntmps29
      go_wp2_with fail
      refine hOf.mono ?_
      rintro e w1 ⟨rfl, hb1⟩
      have hB := hb0.trans (hb1.mono hb0.size)
      have x2 := (hx.kept hb1).cell 2 (by simp)
      dsimp only [List.getElem_cons_zero, List.getElem_cons_succ] at x2
      have hx1 := hx.kept hb1
      clear hOf hx hb1 hb0
      go_wp2_with fail
      refine (hLay w1 (hw.below hB) (hA.below hB)).mono ?_
      rintro e w2 ⟨rfl, hb2⟩
      have hB2 := hB.trans (hb2.mono hB.size)
      have hx2 := hx1.kept hb2
      clear hLay hx1 hb2 hB x2 hA
      by_cases hle : le = 0
      · have y0 := hx2.cell 0 (by simp)
        have y1 := hx2.cell 1 (by simp)
        have y2 := hx2.cell 2 (by simp)
        dsimp only [List.getElem_cons_zero, List.getElem_cons_succ] at y0 y1 y2
        have hsz := HSz.out hle
        have HF : Hid (r = pa ++ pb ++ ly ∧ x = 0) := Lib.hid (by
          have e : x = 0 := by rw [HE2.out, hle]
          exact ⟨by rw [HB.out, if_pos e, HY.out, if_pos hle], e⟩)
        subst hle
        clear HB HE2 HSz HY hx2
        go_wp2_with fail
        refine (hWh w2 (hw.below hB2)).mono ?_
        rintro e w3 ⟨rfl, hb3⟩
        have hB3 := hB2.trans (hb3.mono hB2.size)
        have hpp : (pa ++ pb).size = pa.size + pb.size := ByteArray.size_append
        have hp4 : (pa ++ pb).size = 4 := by omega
        clear hWh hpp p1 p2
        generalize pa ++ pb = pp at HF hp4 ⊢
        have hs2 : pp.size + ly.size ≤ 9223372036854775807 := by omega
        clear hp4
        go_wp2
        go_ret2
        exact ⟨by rw [HF.out.1, HF.out.2]; rfl, hB3⟩
      · have tle : (le != 0) = true := by simpa using hle
        have HF : Hid (r = ⟨#[]⟩ ∧ x = le) := Lib.hid (by
          exact ⟨by rw [HB.out, HE2.out, if_neg hle], HE2.out⟩)
        clear HB HE2 HSz HY hle hx2
        go_wp2
        go_ret2
        exact ⟨by rw [HF.out.1, HF.out.2]; rfl, hB2⟩
    · have HF : Hid (mB m = ⟨#[]⟩ ∧ mE m = 7) := Lib.hid (by
        have e : mE m = 7 := by rw [HE.out, if_pos his, if_neg hlen]
        exact ⟨by rw [HB.out, e]; rfl, e⟩)
      generalize mB m = r at HF
      generalize mE m = x at HF
      clear HE HB his hA hm f1 f3 f4
      obtain ⟨c, i, l⟩ := m
      unfold encM
      dsimp only at *
      generalize sOf c i = L at hOf hlen f2
      have tl : ((L.size : Int) != (l.length : Int)) = true := by simp; omega
      clear hlen
      go_enter Tryz.func29, Tryz.ntmps29
      go_wp2_with fail
      refine hOf.mono ?_
      rintro e w1 ⟨rfl, hb1⟩
      have x2 := (hx.kept hb1).cell 2 (by simp)
      dsimp only [List.getElem_cons_zero, List.getElem_cons_succ] at x2
      clear hOf hx
      go_wp2
      go_ret2
      exact ⟨by rw [HF.out.1, HF.out.2]; rfl, hb0.trans (hb1.mono hb0.size)⟩

set_option maxHeartbeats 1000000 in
theorem mright_any (m : Me) (A : Option Addr) (cap : Nat) (w : World) (hw : Wid w) (hm : wfM m) (hA : ValsAt w A (rowV m.l)) :
    Calls Tryz.prog 21 #[encM m A cap] w fun e w' => e = .returned (.int .i64 (mE m)) ∧ Below w.heap.size w w' := by
  have hb0 : Below w.heap.size w (w.alloc (.cells #[.int .i64 m.c, .int .i64 m.i, .slice A m.l.length cap] 39)) := (Below.refl _ w).alloc (Nat.le_refl _) _
  have hBy := mbytes_any m A cap _ (hw.below hb0) hm (hA.below hb0)
  generalize mB m = r at hBy
  generalize mE m = x at hBy
  obtain ⟨c, i, l⟩ := m
  unfold encM at hBy ⊢
  dsimp only at *
  clear hm hA
  go_enter Tryz.func21, Tryz.ntmps21
  go_wp2_with fail
  refine hBy.mono ?_
  rintro e w1 ⟨rfl, hb1⟩
  clear hBy
  go_wp2
  go_ret
  exact ⟨rfl, hb0.trans (hb1.mono hb0.size)⟩
end Go.Proofs.YtkdiccedkjbpeaaGreatDoorR

/-
  method.has and Arg, and the document's own Arg, answer one of a method's values, or nothing; nothing that was there is changed. Condition: the values lie in old memory.
-/
namespace Go.Proofs.YtkdiccedkjbpeaaGreatDoorR
open Go.RowKit

set_option maxHeartbeats 1000000 in
theorem has_any (m : Me) (A : Option Addr) (cap : Nat) (i : Int) (w : World) :
    Calls Tryz.prog 81 #[encM m A cap, .int .i64 i] w fun e w' => e = .returned (.bool (decide (0 ≤ i) && decide (i < m.l.length))) ∧ Below w.heap.size w w' := by
  obtain ⟨c, j, l⟩ := m
  unfold encM
  dsimp only
  have hb0 : Below w.heap.size w (w.alloc (.cells #[.int .i64 c, .int .i64 j, .slice A l.length cap] 39)) := (Below.refl _ w).alloc (Nat.le_refl _) _
  generalize l.length = n at hb0 ⊢
  by_cases h : 0 ≤ i
  · have h1 : decide (0 ≤ i) = true := by simpa using h
    rw [h1, Bool.true_and]
    go_enter Tryz.func81, Tryz.ntmps81
    go_wp2
    go_ret
    exact ⟨rfl, hb0⟩
  · have h1 : decide (0 ≤ i) = false := by simpa using h
    rw [h1, Bool.false_and]
    go_enter Tryz.func81, Tryz.ntmps81
    go_wp2
    go_ret
    exact ⟨rfl, hb0⟩

set_option maxHeartbeats 1000000 in
theorem arg_any (m : Me) (A : Option Addr) (cap : Nat) (i : Int) (w : World) (hA : ValsAt w A (rowV m.l)) :
    Calls Tryz.prog 52 #[encM m A cap, .int .i64 i] w fun e w' => e = .returned (encV (argV m.l i)) ∧ Below w.heap.size w w' := by
  have hH := has_any m A cap i ((w.alloc (.cells #[.int .i64 m.c, .int .i64 m.i, .slice A m.l.length cap] 39)).alloc (.cells #[.int .u64 0, .string ⟨#[]⟩] 51))
  have hb0 : Below w.heap.size w ((w.alloc (.cells #[.int .i64 m.c, .int .i64 m.i, .slice A m.l.length cap] 39)).alloc (.cells #[.int .u64 0, .string ⟨#[]⟩] 51)) := ((Below.refl _ w).alloc (Nat.le_refl _) _).alloc (by simp) _
  have hx := (Bx.new w 39 [.int .i64 m.c, .int .i64 m.i, .slice A m.l.length cap]).alloc (.cells #[.int .u64 0, .string ⟨#[]⟩] 51)
  have hy := Bx.new (w.alloc (.cells #[.int .i64 m.c, .int .i64 m.i, .slice A m.l.length cap] 39)) 51 [.int .u64 0, .string ⟨#[]⟩]
  rw [World.size_alloc] at hy
  obtain ⟨c, j, l⟩ := m
  unfold encM at hH ⊢
  dsimp only at *
  rcases int_cases i l.length with hi | ⟨k, rfl, hk⟩ | ⟨k, rfl, hk⟩
  · have hb : (decide (0 ≤ i) && decide (i < (l.length : Int))) = false := by simp; omega
    rw [hb] at hH
    rw [argV_low l hi]
    clear hb hi
    go_enter Tryz.func52, Tryz.ntmps52
    go_wp2_with fail
    refine hH.mono ?_
    rintro e w1 ⟨rfl, hb1⟩
    have hB := hb0.trans (hb1.mono hb0.size)
    obtain ⟨a0, f0, a1, f1, bR⟩ := (hy.kept hb1).store2 (.int .u64 0) (.string ⟨#[]⟩)
    have hB2 := below_store2 hB (B := w.heap.size + 1) (by omega) (.int .u64 0) (.string ⟨#[]⟩)
    clear hH hx hy hb0 hb1 hB hA
    go_wp2
    have y0 := bR.cell 0 (by simp)
    have y1 := bR.cell 1 (by simp)
    dsimp only [List.getElem_cons_zero, List.getElem_cons_succ] at y0 y1
    refine bodyPost_ret (v := encV noV) ?_ rfl ⟨rfl, hB2⟩
    rw [results_cell rfl]
    simp [asAddr, Result.andThen, go_sem, y0, y1, encV, noV]
  · have hb : (decide (0 ≤ (k : Int)) && decide ((k : Int) < (l.length : Int))) = true := by simp; omega
    rw [hb] at hH
    rw [argV_at l k hk]
    obtain ⟨b0, off, rfl, hbl, hc⟩ := vals_v hA (by omega)
    obtain ⟨x0, x1⟩ := hc k hk
    generalize l[k] = v at x0 x1 ⊢
    obtain ⟨nn, ss⟩ := v
    dsimp only at x0 x1
    clear hb hc
    go_enter Tryz.func52, Tryz.ntmps52
    go_wp2_with fail
    refine hH.mono ?_
    rintro e w1 ⟨rfl, hb1⟩
    have hB := hb0.trans (hb1.mono hb0.size)
    have z0 := (hB.cell (p := ⟨b0, off + k * 2, none⟩) hbl).trans x0
    have z1 := (hB.cell (p := ⟨b0, off + k * 2 + 1, none⟩) hbl).trans x1
    have z2 := (hx.kept hb1).cell 2 (by simp)
    dsimp only [List.getElem_cons_zero, List.getElem_cons_succ] at z2
    obtain ⟨a0, f0, a1, f1, bR⟩ := (hy.kept hb1).store2 (.int .u64 nn) (.string ss)
    have hB2 := below_store2 hB (B := w.heap.size + 1) (by omega) (.int .u64 nn) (.string ss)
    clear hH hx hy hb0 hb1 hB hA x0 x1
    go_wp2
    have y0 := bR.cell 0 (by simp)
    have y1 := bR.cell 1 (by simp)
    dsimp only [List.getElem_cons_zero, List.getElem_cons_succ] at y0 y1
    refine bodyPost_ret (v := encV ⟨nn, ss⟩) ?_ rfl ⟨rfl, hB2⟩
    rw [results_cell rfl]
    simp [asAddr, Result.andThen, go_sem, y0, y1, encV]
  · have hb : (decide (0 ≤ (k : Int)) && decide ((k : Int) < (l.length : Int))) = false := by simp; omega
    rw [hb] at hH
    rw [argV_high l k hk]
    clear hb
    go_enter Tryz.func52, Tryz.ntmps52
    go_wp2_with fail
    refine hH.mono ?_
    rintro e w1 ⟨rfl, hb1⟩
    have hB := hb0.trans (hb1.mono hb0.size)
    obtain ⟨a0, f0, a1, f1, bR⟩ := (hy.kept hb1).store2 (.int .u64 0) (.string ⟨#[]⟩)
    have hB2 := below_store2 hB (B := w.heap.size + 1) (by omega) (.int .u64 0) (.string ⟨#[]⟩)
    clear hH hx hy hb0 hb1 hB hA
    go_wp2
    have y0 := bR.cell 0 (by simp)
    have y1 := bR.cell 1 (by simp)
    dsimp only [List.getElem_cons_zero, List.getElem_cons_succ] at y0 y1
    refine bodyPost_ret (v := encV noV) ?_ rfl ⟨rfl, hB2⟩
    rw [results_cell rfl]
    simp [asAddr, Result.andThen, go_sem, y0, y1, encV, noV]
end Go.Proofs.YtkdiccedkjbpeaaGreatDoorR
