/-
  Several texts joined in one file: each says at its own head, below, what it proves, and its conditions.
-/
import Derived.Test.YtllgkohgcicbhaaGreatDoorZE
import Derived.Test.YtllgkohgcicbhaaGreatDoorZA
import Derived.Test.YtllgkohgcicbhaaGreatDoorZD
import Derived.BigQuiet
import Derived.Deep.QuietTactic
import Derived.Deep.RegionHeld3
import Derived.Test.YtllgkohgcicbhaaGreatDoorZF
import Derived.Test.YtllgkohgcicbhaaGreatDoorRTabD1
import Derived.Test.YtllgkohgcicbhaaGreatDoorZG
import Derived.Test.YtllgkohgcicbhaaGreatDoorJCont
/-
  The document's own Which of chapter 7 answers, in memory of its own, the properties that flags tell; nothing that was there is changed. No condition.
-/
namespace Go.Proofs.YtllgkohgcicbhaaGreatDoor
open Go.RowKit

def whI (l : List (Fin 14)) : List Int := l.map fun i => (i.1 : Int)
theorem infoIntP : (Tryz.prog.info? 3).map (fun i => (i.zero, i.size, i.bytes)) = some (some (.int .i64 0), 1, 8) := by kernel_rfl

set_option maxRecDepth 100000 in
set_option maxHeartbeats 1000000 in
theorem rwhich_any (n : Nat) (w : World) (hn : n < 18446744073709551616) :
 Calls Tryz.prog 46 #[.int .u64 (n : Int)] w fun e w' => ∃ v, e = .returned v ∧ w'.ownsRow w.heap.size 3 1 v (wh (n : Int)).length (intVals (whI (wh (n : Int)))) ∧ Below w.heap.size w w' := by
 obtain ⟨i0, hi, hz0, hz1, hz2⟩ := info_partsV infoIntP
 go_enter Tryz.func46, Tryz.ntmps46
 go_wp2
 go_loopw [3, 4, 5] (fun o pv v wr => ∃ k : Nat, k ≤ 14 ∧ v = .int .i64 k ∧ (∃ p : Nat, Hid (p = 2 ^ (15 - k)) ∧ pv = .int .u64 p) ∧ wr.ownsRow w.heap.size 3 1 o (whK (n : Int) k).length (intVals (whI (whK (n : Int) k))) ∧ Below w.heap.size w wr) (fun _ _ v _ => 14 - (intOf v).toNat)
 case atStart => exact ⟨0, by omega, rfl, ⟨32768, Lib.hid rfl, rfl⟩, World.ownsRow_nil _ _ _ _, Below.refl _ _⟩
 case round =>
  obtain ⟨k, hk, rfl, ⟨p, HPp, rfl⟩, hown, hb⟩ := hrel
  by_cases hlt : k < 14
  · have HS := Lib.hid (whK_succ (n : Int) k hlt)
    have hpl : (whK (n : Int) k).length ≤ 14 := Nat.le_trans (whK_le _ _) (wh_le _)
    have hp0 : 0 < p := by rw [HPp.out]; exact Nat.pow_pos (by omega)
    have hp1 : ((p : Int) == 0) = false := by simp; omega
    have HP2 : Hid (p / 2 = 2 ^ (15 - (k + 1))) := Lib.hid (by
     have e : 15 - k = (15 - (k + 1)) + 1 := by omega
     rw [HPp.out, e, Nat.pow_succ]
     omega)
    have hpk : p ≤ 32768 := by
     rw [HPp.out]
     exact Nat.pow_le_pow_right (n := 2) (by omega) (show 15 - k ≤ 15 by omega)
    have hle : n / p ≤ n := Nat.div_le_self _ _
    have hq : ((n : Int) / (p : Int)) = ((n / p : Nat) : Int) := by omega
    have hw1 : IntKind.u64.wrap ((n : Int) / (p : Int)) = ((n / p : Nat) : Int) := by
     rw [hq]
     generalize n / p = q at hle ⊢
     simp only [IntKind.wrap_u64]
     omega
    have hbit : ((IntKind.u64.wrap ((n : Int) / (p : Int))).tmod 2 == 1) = bitP (n : Int) ⟨k, hlt⟩ := by
     rw [hw1, bitP, HPp.out]
     have e : (((n / 2 ^ (15 - k) : Nat) : Int)).tmod 2 = ((n / 2 ^ (15 - k) % 2 : Nat) : Int) := by
      generalize n / 2 ^ (15 - k) = q
      rw [Int.tmod_eq_emod_of_nonneg (Int.natCast_nonneg q)]
      omega
     rw [e, Int.toNat_natCast]
     rw [Bool.eq_iff_iff]
     simp only [beq_iff_eq]
     omega
    have hd : IntKind.u64.wrap ((p : Int) / 2) = ((p / 2 : Nat) : Int) := by
     simp only [IntKind.wrap_u64]
     omega
    clear hw1 hq hle
    clear HPp
    generalize whK (n : Int) k = zs at HS hown hpl
    generalize bitP (n : Int) ⟨k, hlt⟩ = b at HS hbit
    cases b
    · go_wp2
      go_roundw
      case rel => exact ⟨k + 1, by omega, by go_num, ⟨p / 2, HP2, by simp only [Value.int.injEq, true_and]; omega⟩, by rw [HS.out]; simpa using hown, hb⟩
      case measure => simp [intOf]; omega
    · go_wp2_with (first
       | (at_builtin; refine wpList_append_own _ rfl _ _ 96 rfl w.heap.size 3 i0 (.int .i64 0) 1 8 Tryz.underlying96 hi hz0 hz1 hz2 rfl (by decide) _ _ _ rfl (hown.alloc _) ⟨wr.heap.size, 0, none⟩ 1 1 [.int .i64 (k : Int)] rfl rfl (cell_one_new _ _ _) (by simp [Value.oneCell']) (by unfold maxLen; omega) (by omega) (by have := hb.size; simp; omega) ?_))
      intro o' w1 hown' hgrow _
      have hb1 := rowBelow (Nat.le_refl _) hown hb hgrow
      have Hown : Hid (w1.ownsRow w.heap.size 3 1 o' (zs ++ [(⟨k, hlt⟩ : Fin 14)]).length (intVals (whI (zs ++ [(⟨k, hlt⟩ : Fin 14)])))) := Lib.hid (by
       rw [whI, List.map_append, List.map_singleton, intVals_snoc, List.length_append]; exact hown')
      clear hown' hgrow hown hb
      go_wp2
      go_roundw
      case rel => exact ⟨k + 1, by omega, by go_num, ⟨p / 2, HP2, by simp only [Value.int.injEq, true_and]; omega⟩, by rw [HS.out]; exact Hown.out, hb1⟩
      case measure => simp [intOf]; omega
  · obtain rfl : k = 14 := by omega
    go_wp2
    go_ret
    exact ⟨_, rfl, hown, hb⟩

theorem rwhich_len (f : Int) (w : World) (h0 : 0 ≤ f) (h1 : f < 18446744073709551616) :
 Calls Tryz.prog 46 #[.int .u64 f] w fun e w' => ∃ A c, e = .returned (.slice A (wh f).length c) ∧ ValsAt w' A (intVals (whI (wh f))) ∧ Below w.heap.size w w' := by
 obtain ⟨n, rfl⟩ := Int.eq_ofNat_of_zero_le h0
 refine (rwhich_any n w (by omega)).mono ?_
 rintro e w' ⟨v, rfl, hrow, hb⟩
 obtain ⟨A, c, rfl, hV, -⟩ := vals_row hrow
 exact ⟨A, c, rfl, hV, hb⟩
end Go.Proofs.YtllgkohgcicbhaaGreatDoor

/-
  The document's own val of chapter 7: why a property's value isn't right; nothing that was there is changed. Conditions: the value's number is a uint64, its text is shorter than 2^47 bytes.
-/
namespace Go.Proofs.YtllgkohgcicbhaaGreatDoor
open Go.RowKit

theorem alone_tabP (s : ByteArray) : (aloneE (nest true s 32) = 0) ↔ tabIs s = true := by
 unfold aloneE tabIs
 by_cases h : (nest true s 32).err = 0
 · by_cases g : (nest true s 32).rest.size = 0
   · simp [h, g]
   · simp [h, g]
 · simp [h]

set_option maxRecDepth 100000 in
set_option maxHeartbeats 1000000 in
theorem rpval_111 (n : Int) (s : ByteArray) (w : World) (v1 : 0 ≤ n) :
 Calls Tryz.prog 71 #[.int .u8 ((111 : UInt8).toNat : Nat), encV ⟨n, s⟩] w fun e w' => e = .returned (.int .i64 (vE 111 ⟨n, s⟩)) ∧ Below w.heap.size w w' := by
 have hB : Below w.heap.size w (w.alloc (.cells #[.int .u64 n, .string s] 58)) := (Below.refl _ w).alloc (Nat.le_refl _) _
 have hx := Bx.new w 58 [.int .u64 n, .string s]
 have x0 := hx.cell 0 (by simp)
 have x1 := hx.cell 1 (by simp)
 dsimp only [List.getElem_cons_zero, List.getElem_cons_succ] at x0 x1
 clear hx
 unfold encV
 dsimp only
 have hv : vE 111 ⟨n, s⟩ = (if 255 < n then 4 else if s.size = 0 then 0 else 1) := by
  have e : (putOk 1 n = true) ↔ ¬ 255 < n := by
   simp [putOk, isW]
   omega
  show numE 1 ⟨n, s⟩ = _
  unfold numE
  by_cases h : 255 < n
  · rw [if_neg (fun x => e.1 x h), if_pos h]
  · rw [if_pos (e.2 h), if_neg h]
 go_enter Tryz.func71, Tryz.ntmps71
 by_cases h1 : 255 < n
 · have HF : Hid (vE 111 ⟨n, s⟩ = 4) := Lib.hid (by rw [hv, if_pos h1])
   clear hv
   go_wp2
   go_ret
   exact ⟨by rw [HF.out]; rfl, hB⟩
 · by_cases hs : s.size = 0
   · have HF : Hid (vE 111 ⟨n, s⟩ = 0) := Lib.hid (by rw [hv, if_neg h1, if_pos hs])
     have ht : ((0 : Int) < ((s.size : Nat) : Int)) = False := by simp [hs]
     have ht2 : (0 < s.size) = False := by simp [hs]
     clear hs hv
     go_wp2
     go_ret
     exact ⟨by rw [HF.out]; rfl, hB⟩
   · have HF : Hid (vE 111 ⟨n, s⟩ = 1) := Lib.hid (by rw [hv, if_neg h1, if_neg hs])
     have ht2 : (0 < s.size) = True := by simp; omega
     clear hs hv
     go_wp2
     go_ret
     exact ⟨by rw [HF.out]; rfl, hB⟩

set_option maxRecDepth 100000 in
set_option maxHeartbeats 1000000 in
theorem rpval_113 (n : Int) (s : ByteArray) (w : World) (v2 : n < 18446744073709551616) :
 Calls Tryz.prog 71 #[.int .u8 ((113 : UInt8).toNat : Nat), encV ⟨n, s⟩] w fun e w' => e = .returned (.int .i64 (vE 113 ⟨n, s⟩)) ∧ Below w.heap.size w w' := by
 have hB : Below w.heap.size w (w.alloc (.cells #[.int .u64 n, .string s] 58)) := (Below.refl _ w).alloc (Nat.le_refl _) _
 have hx := Bx.new w 58 [.int .u64 n, .string s]
 have x0 := hx.cell 0 (by simp)
 have x1 := hx.cell 1 (by simp)
 dsimp only [List.getElem_cons_zero, List.getElem_cons_succ] at x0 x1
 clear hx
 unfold encV
 dsimp only
 have hv : vE 113 ⟨n, s⟩ = (if s.size = 0 then 0 else 1) := by
  have e : putOk 8 n = true := by
   simp [putOk, isW]
   omega
  show numE 8 ⟨n, s⟩ = _
  unfold numE
  rw [if_pos e]
 clear v2
 go_enter Tryz.func71, Tryz.ntmps71
 by_cases hs : s.size = 0
 · have HF : Hid (vE 113 ⟨n, s⟩ = 0) := Lib.hid (by rw [hv, if_pos hs])
   have ht : ((0 : Int) < ((s.size : Nat) : Int)) = False := by simp [hs]
   have ht2 : (0 < s.size) = False := by simp [hs]
   clear hs hv
   go_wp2
   go_ret
   exact ⟨by rw [HF.out]; rfl, hB⟩
 · have HF : Hid (vE 113 ⟨n, s⟩ = 1) := Lib.hid (by rw [hv, if_neg hs])
   have ht2 : (0 < s.size) = True := by simp; omega
   clear hs hv
   go_wp2
   go_ret
   exact ⟨by rw [HF.out]; rfl, hB⟩

set_option maxRecDepth 100000 in
set_option maxHeartbeats 1000000 in
theorem rpval_83 (n : Int) (s : ByteArray) (w : World) :
 Calls Tryz.prog 71 #[.int .u8 ((83 : UInt8).toNat : Nat), encV ⟨n, s⟩] w fun e w' => e = .returned (.int .i64 (vE 83 ⟨n, s⟩)) ∧ Below w.heap.size w w' := by
 have hB : Below w.heap.size w (w.alloc (.cells #[.int .u64 n, .string s] 58)) := (Below.refl _ w).alloc (Nat.le_refl _) _
 have hx := Bx.new w 58 [.int .u64 n, .string s]
 have x0 := hx.cell 0 (by simp)
 have x1 := hx.cell 1 (by simp)
 dsimp only [List.getElem_cons_zero, List.getElem_cons_succ] at x0 x1
 clear hx
 unfold encV
 dsimp only
 have hv : vE 83 ⟨n, s⟩ = (if 255 < s.size then 4 else if n = 0 then 0 else 1) := by
  have e : (layOk 1 s = true) ↔ ¬ 255 < s.size := by
   simp [layOk, putOk, isW]
   omega
  show (if layOk 1 s = true then (if n = 0 then 0 else 1) else 4) = _
  by_cases h : 255 < s.size
  · rw [if_neg (fun x => e.1 x h), if_pos h]
  · rw [if_pos (e.2 h), if_neg h]
 go_enter Tryz.func71, Tryz.ntmps71
 by_cases h1 : 255 < s.size
 · have HF : Hid (vE 83 ⟨n, s⟩ = 4) := Lib.hid (by rw [hv, if_pos h1])
   clear hv
   go_wp2
   go_ret
   exact ⟨by rw [HF.out]; rfl, hB⟩
 · by_cases hs : n = 0
   · have HF : Hid (vE 83 ⟨n, s⟩ = 0) := Lib.hid (by rw [hv, if_neg h1, if_pos hs])
     have hn : (n != 0) = false := by simp [hs]
     clear hs hv
     go_wp2
     go_ret
     exact ⟨by rw [HF.out]; rfl, hB⟩
   · have HF : Hid (vE 83 ⟨n, s⟩ = 1) := Lib.hid (by rw [hv, if_neg h1, if_neg hs])
     have hn : (n != 0) = true := by simp [hs]
     clear hs hv
     go_wp2
     go_ret
     exact ⟨by rw [HF.out]; rfl, hB⟩

set_option maxRecDepth 100000 in
set_option maxHeartbeats 1000000 in
theorem rpval_84 (n : Int) (s : ByteArray) (w : World) (v3 : s.size < 140737488355328) :
 Calls Tryz.prog 71 #[.int .u8 ((84 : UInt8).toNat : Nat), encV ⟨n, s⟩] w fun e w' => e = .returned (.int .i64 (vE 84 ⟨n, s⟩)) ∧ Below w.heap.size w w' := by
 have hB : Below w.heap.size w (w.alloc (.cells #[.int .u64 n, .string s] 58)) := (Below.refl _ w).alloc (Nat.le_refl _) _
 have hx := Bx.new w 58 [.int .u64 n, .string s]
 have x0 := hx.cell 0 (by simp)
 have x1 := hx.cell 1 (by simp)
 dsimp only [List.getElem_cons_zero, List.getElem_cons_succ] at x0 x1
 clear hx
 unfold encV
 dsimp only
 have hv : vE 84 ⟨n, s⟩ = (if n = 0 then (if tabIs s = true then 0 else 3) else 1) := rfl
 go_enter Tryz.func71, Tryz.ntmps71
 by_cases hs : n = 0
 · have HV : Hid (vE 84 ⟨n, s⟩ = (if tabIs s = true then 0 else 3)) := Lib.hid (by rw [hv, if_pos hs])
   have hn : (n != 0) = false := by simp [hs]
   clear hs hv
   go_wp2_with fail
   refine (rtabDeep_any s _ (by omega)).mono ?_
   rintro e w1 ⟨rfl, hb⟩
   have hB2 := hB.trans (hb.mono hB.size)
   clear hB hb x0 x1
   by_cases ha : aloneE (nest true s 32) = 0
   · have HF : Hid (vE 84 ⟨n, s⟩ = 0) := Lib.hid (by rw [HV.out, if_pos ((alone_tabP s).1 ha)])
     rw [ha]
     clear HV ha
     go_wp2
     go_ret
     exact ⟨by rw [HF.out]; rfl, hB2⟩
   · have HF : Hid (vE 84 ⟨n, s⟩ = 3) := Lib.hid (by rw [HV.out, if_neg (fun h => ha ((alone_tabP s).2 h))])
     have he : (aloneE (nest true s 32) != 0) = true := by simp [ha]
     clear HV ha
     generalize aloneE (nest true s 32) = q at he ⊢
     go_wp2
     go_ret
     exact ⟨by rw [HF.out]; rfl, hB2⟩
 · have HF : Hid (vE 84 ⟨n, s⟩ = 1) := Lib.hid (by rw [hv, if_neg hs])
   have hn : (n != 0) = true := by simp [hs]
   clear hs hv
   go_wp2
   go_ret
   exact ⟨by rw [HF.out]; rfl, hB⟩

theorem rpval_any (i : Fin 14) (v : MV) (w : World) (hv : wfV v) :
 Calls Tryz.prog 71 #[.int .u8 ((pLet i).toNat : Nat), encV v] w fun e w' => e = .returned (.int .i64 (vE (pLet i) v)) ∧ Below w.heap.size w w' := by
 obtain ⟨n, s⟩ := v
 obtain ⟨v1, v2, v3⟩ := hv
 rcases pLet_cases i with h | h | h | h <;> rw [h]
 · exact rpval_83 n s w
 · exact rpval_84 n s w v3
 · exact rpval_111 n s w v1
 · exact rpval_113 n s w v2
end Go.Proofs.YtllgkohgcicbhaaGreatDoor

/-
  The document's own values and Right of chapter 7 tell the first error of a head's values, and whether a head is right; nothing that was there is changed. Conditions: the values lie in old memory, each number a uint64, each text shorter than 2^47 bytes.
-/
namespace Go.Proofs.YtllgkohgcicbhaaGreatDoor
open Go.RowKit

theorem vals_i {w : World} {A : Option Addr} {l : List (Fin 14)} (h : ValsAt w A (intVals (whI l))) (h0 : 0 < l.length) : ∃ b off, A = some ⟨b, off, none⟩ ∧ b < w.heap.size ∧ ∀ k (hk : k < l.length), w.cell? ⟨b, off + k, none⟩ = some (.int .i64 (l[k].1 : Int)) := by
 obtain ⟨b, off, rfl, hb, hc⟩ := h (by simpa [intVals, whI] using h0)
 refine ⟨b, off, rfl, hb, fun k hk => ?_⟩
 have := hc k (by simpa [intVals, whI] using hk)
 simpa [intVals, whI] using this
theorem layEr_at {f : Int} {l : List MV} {k : Nat} (hk : k < (wh f).length) (hl : k < l.length) : layEr ((hLs f).drop k) (l.drop k) = if vE (pLet (wh f)[k]) l[k] = 0 then layEr ((hLs f).drop (k + 1)) (l.drop (k + 1)) else vE (pLet (wh f)[k]) l[k] := by
 have h1 : k < (hLs f).length := by rw [hLs_length]; exact hk
 rw [List.drop_eq_getElem_cons h1, List.drop_eq_getElem_cons hl, layEr]
 have e : (hLs f)[k] = pLet (wh f)[k] := by simp [hLs]
 rw [e]

set_option maxRecDepth 100000 in
set_option maxHeartbeats 4000000 in
theorem rvalues_any (h : He) (A : Option Addr) (cap : Nat) (w : World) (hh : wfH h) (hlen : (wh h.f).length = h.l.length) (hA : ValsAt w A (rowV h.l)) :
 Calls Tryz.prog 49 #[encH h A cap] w fun e w' => e = .returned (.int .i64 (layEr (hLs h.f) h.l)) ∧ Below w.heap.size w w' := by
 obtain ⟨c, z, f, l⟩ := h
 obtain ⟨-, ⟨hf0, hf1⟩, hwf⟩ := hh
 unfold encH
 dsimp only at *
 obtain ⟨W0, hW0⟩ : ∃ W0, W0 = w.alloc (.cells #[.int .i64 c, .int .u64 z, .int .u64 f, .slice A l.length cap] 27) := ⟨_, rfl⟩
 have hb0 : Below w.heap.size w W0 := by rw [hW0]; exact (Below.refl _ w).alloc (Nat.le_refl _) _
 have hx : Bx W0 w.heap.size 27 [.int .i64 c, .int .u64 z, .int .u64 f, .slice A l.length cap] := by rw [hW0]; exact Bx.new w 27 [.int .i64 c, .int .u64 z, .int .u64 f, .slice A l.length cap]
 have x2 := hx.cell 2 (by simp)
 dsimp only [List.getElem_cons_zero, List.getElem_cons_succ] at x2
 have hWh := rwhich_len f W0 hf0 hf1
 have hn14 := wh_le f
 have HL := Lib.hid hlen
 obtain ⟨q, hq⟩ : ∃ q, q = layEr (hLs f) l := ⟨_, rfl⟩
 rw [← hq]
 have HQ := Lib.hid hq
 have HW := Lib.hid hwf
 clear hq hwf hlen
 obtain ⟨n, hn⟩ : ∃ n, (wh f).length = n := ⟨_, rfl⟩
 rw [hn] at hWh hn14
 have HN := Lib.hid hn
 clear hn
 go_enter Tryz.func49, Tryz.ntmps49
 go_wp2_with fail
 rw [← hW0]
 clear hW0
 go_wp2_with fail
 refine hWh.mono ?_
 rintro e w1 ⟨A2, c2, rfl, hV2, hb1⟩
 have hB1 := hb0.trans (hb1.mono hb0.size)
 have hx1 := hx.kept hb1
 have hA1 := hA.below hB1
 clear hWh hx x2 hb1 hA
 go_wp2_with fail
 go_loopw [4] (fun v wr => ∃ k : Nat, k ≤ n ∧ v = .int .i64 k ∧ Below w1.heap.size w1 wr ∧ Hid (q = layEr ((hLs f).drop k) (l.drop k))) (fun v _ => n - (intOf v).toNat)
 case atStart => exact ⟨0, Nat.zero_le _, rfl, Below.refl _ _, Lib.hid HQ.out⟩
 case round =>
  obtain ⟨k, hk, rfl, hb, HK⟩ := hrel
  by_cases hlt : k < n
  · have hkw : k < (wh f).length := by rw [HN.out]; exact hlt
    have hkl : k < l.length := by rw [← HL.out]; exact hkw
    obtain ⟨b1, o1, rfl, hl1, g1⟩ := vals_v hA1 (by omega)
    obtain ⟨b2, o2, rfl, hl2, g2⟩ := vals_i hV2 (by omega)
    obtain ⟨c1, c1'⟩ := g1 k hkl
    have d1 := g2 k hkw
    have hR := fun W => rpval_any (wh f)[k] l[k] W (HW.out l[k] (List.getElem_mem hkl))
    have hidx := fun W => index_let (wh f)[k] W
    have HS := Lib.hid (layEr_at hkw hkl)
    have e1 : IntKind.i64.wrap ((k : Int) + 1) = ((k + 1 : Nat) : Int) := by simp only [IntKind.wrap_i64]; omega
    clear g1 g2 hA1 hV2
    generalize hvv : vE (pLet (wh f)[k]) l[k] = ve at HS hR
    clear hvv
    generalize ((pLet (wh f)[k]).toNat : Int) = lt at hR hidx
    generalize (((wh f)[k]).1 : Int) = ix at hidx d1
    generalize l[k] = u at *
    obtain ⟨un, us⟩ := u
    unfold encV at hR
    dsimp only at *
    have keep : ∀ w', Below wr.heap.size wr w' → w'.cell? ⟨b2, o2 + k, none⟩ = some (.int .i64 ix) ∧ w'.cell? ⟨w.heap.size, 3, none⟩ = some (.slice (some ⟨b1, o1, none⟩) l.length cap) ∧ w'.cell? ⟨b1, o1 + k * 2, none⟩ = some (.int .u64 un) ∧ w'.cell? ⟨b1, o1 + k * 2 + 1, none⟩ = some (.string us) := fun w' h =>
     have hb' := hb.trans (h.mono hb.size)
     ⟨(hb'.cell (p := ⟨b2, o2 + k, none⟩) hl2).trans d1, (hx1.kept hb').cell 3 (by simp), (hb'.cell (p := ⟨b1, o1 + k * 2, none⟩) hl1).trans c1, (hb'.cell (p := ⟨b1, o1 + k * 2 + 1, none⟩) hl1).trans c1'⟩
    obtain ⟨y0, y1, y2, y3⟩ := keep wr (Below.refl _ _)
    have hbs := hb.size
    clear c1 c1' d1 hx1
    go_wp2
    go_region_held3 (fun w' => w'.cell? ⟨b2, o2 + k, none⟩ = some (.int .i64 ix) ∧ w'.cell? ⟨w.heap.size, 3, none⟩ = some (.slice (some ⟨b1, o1, none⟩) l.length cap) ∧ w'.cell? ⟨b1, o1 + k * 2, none⟩ = some (.int .u64 un) ∧ w'.cell? ⟨b1, o1 + k * 2 + 1, none⟩ = some (.string us)) (first | go_keep | (exact keep _ ⟨hq.os, hq.tape, hq.output, hq.size, hq.block⟩)) (first | (go_at_call 71; refine (hR _).mono ?_; rintro e w3 ⟨rfl, hq⟩))
    have hf : Below wr.heap.size wr w3 := ⟨hq.os, hq.tape, hq.output, hq.size, hq.block⟩
    have hb3 := hb.trans (hf.mono hb.size)
    clear keep y0 y1 y2 y3 hR hq hf
    by_cases hv : ve = 0
    · subst hv
      have HF : Hid (q = layEr ((hLs f).drop (k + 1)) (l.drop (k + 1))) := Lib.hid (by rw [HK.out, HS.out]; simp)
      clear HK HS
      go_wp2
      go_roundw
      case rel => exact ⟨k + 1, hlt, rfl, hb3, HF⟩
      case measure => simp only [intOf]; omega
    · have HF : Hid (q = ve) := Lib.hid (by rw [HK.out, HS.out, if_neg hv])
      have t : (ve != 0) = true := by simpa using hv
      clear HK HS hv
      go_wp2
      go_ret
      exact ⟨by rw [HF.out]; rfl, hB1.trans (hb3.mono hB1.size)⟩
  · obtain rfl : k = n := by omega
    have HF : Hid (q = 0) := Lib.hid (by rw [HK.out, List.drop_of_length_le (by rw [hLs_length, HN.out]; exact Nat.le_refl _)]; cases l.drop k <;> rfl)
    clear HK
    go_wp2
    go_ret
    exact ⟨by rw [HF.out]; rfl, hB1.trans (hb.mono hB1.size)⟩
end Go.Proofs.YtllgkohgcicbhaaGreatDoor

/-
  The document's own take of chapter 7 takes the value that bytes begin with, by its letter, as the plain functions say; nothing that was there is changed. Conditions: texts of fewer than 2^62 bytes.
-/
namespace Go.Proofs.YtllgkohgcicbhaaGreatDoor
open Go.RowKit

set_option maxRecDepth 100000 in
set_option maxHeartbeats 1000000 in
theorem rptake_111 (s : ByteArray) (w : World) :
 Calls Tryz.prog 47 #[.int .u8 111, .string s] w fun e w' => e = .returned (.tuple #[encV (oV 111 s), .string (oR 111 s), .int .i64 (oE 111 s)]) ∧ Below w.heap.size w w' := by
 have hb0 : Below w.heap.size w (w.alloc (.cells #[.int .u64 0, .string ⟨#[]⟩] 58)) := (Below.refl _ w).alloc (Nat.le_refl _) _
 have hx := Bx.new w 58 [.int .u64 0, .string ⟨#[]⟩]
 have hT := rtake_any s 1 (w.alloc (.cells #[.int .u64 0, .string ⟨#[]⟩] 58))
 have HF : Hid (oV 111 s = ⟨takeV s 1, ⟨#[]⟩⟩) := Lib.hid rfl
 have H2 : oR 111 s = takeR s 1 := rfl
 have H3 : oE 111 s = takeE s 1 := rfl
 rw [H2, H3]
 clear H2 H3
 generalize takeV s 1 = tv at hT HF
 generalize takeR s 1 = R at hT ⊢
 generalize takeE s 1 = E at hT ⊢
 generalize oV 111 s = V at HF ⊢
 go_enter Tryz.func47, Tryz.ntmps47
 go_wp2_with fail
 refine hT.mono ?_
 rintro e w1 ⟨rfl, hb1⟩
 have hx1 := hx.kept (Below.mono hb1 (by simp))
 have hB1 := hb0.trans (hb1.mono hb0.size)
 obtain ⟨a0, f0, a1, f1, bR⟩ := hx1.store2 (.int .u64 tv) (.string ⟨#[]⟩)
 have hB3 := below_store2 hB1 (B := w.heap.size) (Nat.le_refl _) (.int .u64 tv) (.string ⟨#[]⟩)
 clear hT hx hb1 hb0 hx1 hB1
 go_wp2
 have y0 := bR.cell 0 (by simp)
 have y1 := bR.cell 1 (by simp)
 dsimp only [List.getElem_cons_zero, List.getElem_cons_succ] at y0 y1
 refine bodyPost_ret (v := .tuple #[encV V, .string R, .int .i64 E]) ?_ rfl ⟨rfl, hB3⟩
 rw [results_ctt rfl, HF.out]
 simp [asAddr, Result.andThen, go_sem, y0, y1, encV]

set_option maxRecDepth 100000 in
set_option maxHeartbeats 1000000 in
theorem rptake_113 (s : ByteArray) (w : World) :
 Calls Tryz.prog 47 #[.int .u8 113, .string s] w fun e w' => e = .returned (.tuple #[encV (oV 113 s), .string (oR 113 s), .int .i64 (oE 113 s)]) ∧ Below w.heap.size w w' := by
 have hb0 : Below w.heap.size w (w.alloc (.cells #[.int .u64 0, .string ⟨#[]⟩] 58)) := (Below.refl _ w).alloc (Nat.le_refl _) _
 have hx := Bx.new w 58 [.int .u64 0, .string ⟨#[]⟩]
 have hT := rtake_any s 8 (w.alloc (.cells #[.int .u64 0, .string ⟨#[]⟩] 58))
 have HF : Hid (oV 113 s = ⟨takeV s 8, ⟨#[]⟩⟩) := Lib.hid rfl
 have H2 : oR 113 s = takeR s 8 := rfl
 have H3 : oE 113 s = takeE s 8 := rfl
 rw [H2, H3]
 clear H2 H3
 generalize takeV s 8 = tv at hT HF
 generalize takeR s 8 = R at hT ⊢
 generalize takeE s 8 = E at hT ⊢
 generalize oV 113 s = V at HF ⊢
 go_enter Tryz.func47, Tryz.ntmps47
 go_wp2_with fail
 refine hT.mono ?_
 rintro e w1 ⟨rfl, hb1⟩
 have hx1 := hx.kept (Below.mono hb1 (by simp))
 have hB1 := hb0.trans (hb1.mono hb0.size)
 obtain ⟨a0, f0, a1, f1, bR⟩ := hx1.store2 (.int .u64 tv) (.string ⟨#[]⟩)
 have hB3 := below_store2 hB1 (B := w.heap.size) (Nat.le_refl _) (.int .u64 tv) (.string ⟨#[]⟩)
 clear hT hx hb1 hb0 hx1 hB1
 go_wp2
 have y0 := bR.cell 0 (by simp)
 have y1 := bR.cell 1 (by simp)
 dsimp only [List.getElem_cons_zero, List.getElem_cons_succ] at y0 y1
 refine bodyPost_ret (v := .tuple #[encV V, .string R, .int .i64 E]) ?_ rfl ⟨rfl, hB3⟩
 rw [results_ctt rfl, HF.out]
 simp [asAddr, Result.andThen, go_sem, y0, y1, encV]

set_option maxRecDepth 100000 in
set_option maxHeartbeats 1000000 in
theorem rptake_83 (s : ByteArray) (w : World) (hs : s.size < 4611686018427387904) :
 Calls Tryz.prog 47 #[.int .u8 83, .string s] w fun e w' => e = .returned (.tuple #[encV (oV 83 s), .string (oR 83 s), .int .i64 (oE 83 s)]) ∧ Below w.heap.size w w' := by
 have hb0 : Below w.heap.size w (w.alloc (.cells #[.int .u64 0, .string ⟨#[]⟩] 58)) := (Below.refl _ w).alloc (Nat.le_refl _) _
 have hx := Bx.new w 58 [.int .u64 0, .string ⟨#[]⟩]
 have hT := rtakeShort_any s (w.alloc (.cells #[.int .u64 0, .string ⟨#[]⟩] 58)) hs
 have HF : Hid (oV 83 s = ⟨0, ttA 1 s⟩) := Lib.hid rfl
 have H2 : oR 83 s = ttR 1 s := rfl
 have H3 : oE 83 s = ttE 1 s := rfl
 rw [H2, H3]
 clear H2 H3
 generalize ttA 1 s = tv at hT HF
 generalize ttR 1 s = R at hT ⊢
 generalize ttE 1 s = E at hT ⊢
 generalize oV 83 s = V at HF ⊢
 go_enter Tryz.func47, Tryz.ntmps47
 go_wp2_with fail
 refine hT.mono ?_
 rintro e w1 ⟨rfl, hb1⟩
 have hx1 := hx.kept (Below.mono hb1 (by simp))
 have hB1 := hb0.trans (hb1.mono hb0.size)
 obtain ⟨a0, f0, a1, f1, bR⟩ := hx1.store2 (.int .u64 0) (.string tv)
 have hB3 := below_store2 hB1 (B := w.heap.size) (Nat.le_refl _) (.int .u64 0) (.string tv)
 clear hT hx hb1 hb0 hx1 hB1
 go_wp2
 have y0 := bR.cell 0 (by simp)
 have y1 := bR.cell 1 (by simp)
 dsimp only [List.getElem_cons_zero, List.getElem_cons_succ] at y0 y1
 refine bodyPost_ret (v := .tuple #[encV V, .string R, .int .i64 E]) ?_ rfl ⟨rfl, hB3⟩
 rw [results_ctt rfl, HF.out]
 simp [asAddr, Result.andThen, go_sem, y0, y1, encV]

set_option maxRecDepth 100000 in
set_option maxHeartbeats 1000000 in
theorem rptake_84 (s : ByteArray) (w : World) (hs : s.size < 4611686018427387904) :
 Calls Tryz.prog 47 #[.int .u8 84, .string s] w fun e w' => e = .returned (.tuple #[encV (oV 84 s), .string (oR 84 s), .int .i64 (oE 84 s)]) ∧ Below w.heap.size w w' := by
 have hb0 : Below w.heap.size w (w.alloc (.cells #[.int .u64 0, .string ⟨#[]⟩] 58)) := (Below.refl _ w).alloc (Nat.le_refl _) _
 have hx := Bx.new w 58 [.int .u64 0, .string ⟨#[]⟩]
 have hT := rtabTake_any s (w.alloc (.cells #[.int .u64 0, .string ⟨#[]⟩] 58)) hs
 have HF : Hid (oV 84 s = ⟨0, takenA s (nest true s 32)⟩) := Lib.hid rfl
 have H2 : oR 84 s = takenB (nest true s 32) := rfl
 have H3 : oE 84 s = (nest true s 32).err := rfl
 rw [H2, H3]
 clear H2 H3
 generalize takenA s (nest true s 32) = tv at hT HF
 generalize takenB (nest true s 32) = R at hT ⊢
 generalize (nest true s 32).err = E at hT ⊢
 generalize oV 84 s = V at HF ⊢
 go_enter Tryz.func47, Tryz.ntmps47
 go_wp2_with fail
 refine hT.mono ?_
 rintro e w1 ⟨rfl, hb1⟩
 have hx1 := hx.kept (Below.mono hb1 (by simp))
 have hB1 := hb0.trans (hb1.mono hb0.size)
 obtain ⟨a0, f0, a1, f1, bR⟩ := hx1.store2 (.int .u64 0) (.string tv)
 have hB3 := below_store2 hB1 (B := w.heap.size) (Nat.le_refl _) (.int .u64 0) (.string tv)
 clear hT hx hb1 hb0 hx1 hB1
 go_wp2
 have y0 := bR.cell 0 (by simp)
 have y1 := bR.cell 1 (by simp)
 dsimp only [List.getElem_cons_zero, List.getElem_cons_succ] at y0 y1
 refine bodyPost_ret (v := .tuple #[encV V, .string R, .int .i64 E]) ?_ rfl ⟨rfl, hB3⟩
 rw [results_ctt rfl, HF.out]
 simp [asAddr, Result.andThen, go_sem, y0, y1, encV]

theorem rptake_any (i : Fin 14) (s : ByteArray) (w : World) (hs : s.size < 4611686018427387904) :
 Calls Tryz.prog 47 #[.int .u8 ((pLet i).toNat : Int), .string s] w fun e w' => e = .returned (.tuple #[encV (oV (pLet i) s), .string (oR (pLet i) s), .int .i64 (oE (pLet i) s)]) ∧ Below w.heap.size w w' := by
 rcases pLet_cases i with h | h | h | h <;> rw [h]
 · exact rptake_83 s w hs
 · exact rptake_84 s w hs
 · exact rptake_111 s w
 · exact rptake_113 s w
end Go.Proofs.YtllgkohgcicbhaaGreatDoor

/-
  The head that bytes are, byte by byte: the same as by taking it piece by piece. No condition.
-/
namespace Go.Proofs.YtllgkohgcicbhaaGreatDoor

theorem pr_extract (s : ByteArray) (a b : Nat) : (s.extract a b).data.toList = (s.data.toList.drop a).take (b - a) := by
 rw [ByteArray.data_extract, Array.toList_extract, List.extract_eq_take_drop]
theorem pr_tail (s : ByteArray) (a : Nat) : (s.extract a s.size).data.toList = s.data.toList.drop a := by
 rw [pr_extract, List.take_of_length_le]
 rw [List.length_drop, ba_len]
 omega
theorem pr_V {s : ByteArray} {n : Int} (h : takeOk s n = true) : takeV s n = (takeL (s.data.toList.take n.toNat) : Int) := by rw [takeV, if_pos h]
theorem pr_R {s : ByteArray} {n : Int} (h : takeOk s n = true) : (takeR s n).data.toList = s.data.toList.drop n.toNat := by rw [takeR, if_pos h, pr_tail]
theorem pr_ok (s : ByteArray) (n : Int) (hn : isW n = true) : takeOk s n = decide (n ≤ s.size) := by simp [takeOk, hn]
theorem takeL_two (a b : UInt8) : takeL [a, b] = 256 * a.toNat + b.toNat := by simp [takeL]; omega
theorem takeL_twoAt (l : List UInt8) (k : Nat) (h : k + 1 < l.length) : takeL ((l.drop k).take 2) = 256 * (l[k]'(by omega)).toNat + (l[k + 1]'h).toNat := by
 rw [List.drop_eq_getElem_cons (show k < l.length by omega), List.take_succ_cons, List.drop_eq_getElem_cons h, List.take_succ_cons, List.take_zero, takeL_two]
theorem pr_get (s : ByteArray) (k : Nat) (h : k < s.size) : s.data.toList[k]'(by rw [ba_len]; exact h) = s[k]'h := by simp; rfl

theorem tp_whole {s : ByteArray} (h : 14 ≤ s.size) :
 takeE (tpR3 s) 2 = 0 ∧ takeV s 2 = 256 * ((s[0]'(by omega)).toNat : Int) + ((s[1]'(by omega)).toNat : Int) ∧
 takeV (tpR1 s) 2 = 256 * ((s[2]'(by omega)).toNat : Int) + ((s[3]'(by omega)).toNat : Int) ∧
 takeV (tpR2 s) 8 = takeV (s.extract 4 12) 8 ∧ tpF s = takeV (s.extract 12 14) 2 ∧ tpR4 s = s.extract 14 s.size := by
 have hL := ba_len s
 have o1 : takeOk s 2 = true := by rw [pr_ok s 2 (by decide)]; simp; omega
 have l1 : (tpR1 s).data.toList = s.data.toList.drop 2 := by rw [tp_e1]; exact pr_R o1
 have z1 : (tpR1 s).size = s.size - 2 := by rw [← ba_len, l1, List.length_drop, hL]
 have o2 : takeOk (tpR1 s) 2 = true := by rw [pr_ok _ 2 (by decide), z1]; simp; omega
 have l2 : (tpR2 s).data.toList = s.data.toList.drop 4 := by
  have h := pr_R o2
  rw [l1, List.drop_drop] at h
  rw [tp_e2]; exact h
 have z2 : (tpR2 s).size = s.size - 4 := by rw [← ba_len, l2, List.length_drop, hL]
 have o3 : takeOk (tpR2 s) 8 = true := by rw [pr_ok _ 8 (by decide), z2]; simp; omega
 have l3 : (tpR3 s).data.toList = s.data.toList.drop 12 := by
  have h := pr_R o3
  rw [l2, List.drop_drop] at h
  rw [tp_e3]; exact h
 have z3 : (tpR3 s).size = s.size - 12 := by rw [← ba_len, l3, List.length_drop, hL]
 have o4 : takeOk (tpR3 s) 2 = true := by rw [pr_ok _ 2 (by decide), z3]; simp; omega
 have l4 : (tpR4 s).data.toList = s.data.toList.drop 14 := by
  have h := pr_R o4
  rw [l3, List.drop_drop] at h
  rw [tp_e4]; exact h
 have e8 : (s.extract 4 12).data.toList = (s.data.toList.drop 4).take 8 := pr_extract s 4 12
 have e2 : (s.extract 12 14).data.toList = (s.data.toList.drop 12).take 2 := pr_extract s 12 14
 have s8 : (s.extract 4 12).size = 8 := by rw [← ba_len, e8, List.length_take, List.length_drop, hL]; omega
 have s2 : (s.extract 12 14).size = 2 := by rw [← ba_len, e2, List.length_take, List.length_drop, hL]; omega
 have p8 : takeOk (s.extract 4 12) 8 = true := by rw [pr_ok _ 8 (by decide), s8]; rfl
 have p2 : takeOk (s.extract 12 14) 2 = true := by rw [pr_ok _ 2 (by decide), s2]; rfl
 have g0 := pr_get s 0 (by omega)
 have g1 := pr_get s 1 (by omega)
 have g2 := pr_get s 2 (by omega)
 have g3 := pr_get s 3 (by omega)
 refine ⟨takeE_of o4, ?_, ?_, ?_, ?_, ?_⟩
 · have h := takeL_twoAt s.data.toList 0 (by omega)
   rw [pr_V o1, show (2 : Int).toNat = 2 from rfl]
   simp only [Nat.zero_add] at h
   rw [List.drop_zero] at h
   rw [h, ← g0, ← g1]
   omega
 · have h := takeL_twoAt s.data.toList 2 (by omega)
   simp only [Nat.reduceAdd] at h
   rw [pr_V o2, show (2 : Int).toNat = 2 from rfl, l1, h, ← g2, ← g3]
   omega
 · rw [pr_V o3, pr_V p8, l2, e8, show (8 : Int).toNat = 8 from rfl, List.take_take]
   rfl
 · rw [tpF, pr_V o4, pr_V p2, l3, e2, show (2 : Int).toNat = 2 from rfl, List.take_take]
   rfl
 · exact ba_ext (by rw [l4, pr_tail])
theorem tp_short {s : ByteArray} (h : s.size < 14) : ¬ takeE (tpR3 s) 2 = 0 := by
 intro he
 have k4 := takeOk_of he
 have k3 : takeOk (tpR2 s) 8 = true := by rw [tp_e3] at k4; exact take_ahead k4
 have k2 : takeOk (tpR1 s) 2 = true := by rw [tp_e2] at k3; exact take_ahead k3
 have k1 : takeOk s 2 = true := by rw [tp_e1] at k2; exact take_ahead k2
 have r1 := takeR_size k1
 have r2 := takeR_size k2
 have r3 := takeR_size k3
 rw [← tp_e1] at r1
 rw [← tp_e2] at r2
 rw [← tp_e3] at r3
 have h1 := (takeOk_w k1).2
 have h2 := (takeOk_w k2).2
 have h3 := (takeOk_w k3).2
 have h4 := (takeOk_w k4).2
 omega
end Go.Proofs.YtllgkohgcicbhaaGreatDoor
