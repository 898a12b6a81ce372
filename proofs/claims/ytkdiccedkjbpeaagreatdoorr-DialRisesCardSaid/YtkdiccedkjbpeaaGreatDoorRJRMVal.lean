/-
  Several texts joined in one file: each says at its own head, below, what it proves, and its conditions.
-/
import Derived.Test.YtkdiccedkjbpeaaGreatDoorRJRTabC
import Derived.Test.YtkdiccedkjbpeaaGreatDoorRRPut
import Derived.Test.YtkdiccedkjbpeaaGreatDoorRWVal
/-
  The document's own width and val (so far of numbers) of interchangeref06: how many bytes a number of a letter has, 0 if it is no number; why a number isn't right; nothing that was there is changed. Condition: the letter is one of chapter 5's.
-/
namespace Go.Proofs.YtkdiccedkjbpeaaGreatDoorR
open Go.RowKit

def widC (c : UInt8) : Int := if c = 111 then 1 else if c = 115 then 2 else if c = 108 then 4 else if c = 113 then 8 else 0

set_option maxHeartbeats 1000000 in
theorem rwidth_any (c : UInt8) (w : World) (hc : isLet c = true) :
    Calls Tryz.prog 66 #[.int .u8 (c.toNat : Nat)] w fun e w' => e = .returned (.int .i64 (widC c)) ∧ w' = w := by
  rcases let_cases hc with rfl | rfl | rfl | rfl | rfl | rfl | rfl | rfl
  all_goals
    clear hc
    go_enter Tryz.func66, Tryz.ntmps66
    go_wp2
    go_ret
    exact ⟨rfl, rfl⟩

set_option maxRecDepth 100000 in
set_option maxHeartbeats 1000000 in
theorem rval_108 (n : Int) (s : ByteArray) (w : World) (v1 : 0 ≤ n) (v2 : n < 18446744073709551616) :
    Calls Tryz.prog 43 #[.int .u8 ((108 : UInt8).toNat : Nat), encV ⟨n, s⟩] w fun e w' => e = .returned (.int .i64 (vE 108 ⟨n, s⟩)) ∧ Below w.heap.size w w' := by
  have hb0 : Below w.heap.size w (w.alloc (.cells #[.int .u64 n, .string s] 51)) := (Below.refl _ w).alloc (Nat.le_refl _) _
  have hx := Bx.new w 51 [.int .u64 n, .string s]
  have x0 := hx.cell 0 (by simp)
  dsimp only [List.getElem_cons_zero, List.getElem_cons_succ] at x0
  unfold encV
  dsimp only
  have hr := rwidth_any 108 (w.alloc (.cells #[.int .u64 n, .string s] 51)) rfl
  rw [show widC 108 = 4 from rfl] at hr
  go_enter Tryz.func43, Tryz.ntmps43
  go_wp2_with fail
  refine hr.mono ?_
  clear hr
  rintro e w1 ⟨rfl, rfl⟩
  go_wp2_with fail
  refine (rput_any 4 n _ v1 v2).mono ?_
  rintro e w1 ⟨rfl, hb⟩
  have x1 := (hx.kept hb).cell 1 (by simp)
  dsimp only [List.getElem_cons_zero, List.getElem_cons_succ] at x1
  have hB := hb0.trans (hb.mono hb0.size)
  clear hx hb hb0 x0
  have hv : vE 108 ⟨n, s⟩ = numE 4 ⟨n, s⟩ := rfl
  cases hp : putOk 4 n
  · have e4 : putE 4 n = 4 := by rw [putE, if_pos (show isW 4 = true from rfl), if_neg (by simp [hp])]
    have HF : Hid (vE 108 ⟨n, s⟩ = 4) := Lib.hid (by rw [hv]; simp [numE, hp])
    rw [e4]
    clear hp e4 hv
    go_wp2
    go_ret
    exact ⟨by rw [HF.out]; rfl, hB⟩
  · rw [putE_of hp]
    by_cases hs : s.size = 0
    · have HF : Hid (vE 108 ⟨n, s⟩ = 0) := Lib.hid (by rw [hv, numE, if_pos hp, if_pos hs])
      have ht : ((0 : Int) < ((s.size : Nat) : Int)) = False := by simp [hs]
      have ht2 : (0 < s.size) = False := by simp [hs]
      clear hs hp hv
      go_wp2
      go_ret
      exact ⟨by rw [HF.out]; rfl, hB⟩
    · have HF : Hid (vE 108 ⟨n, s⟩ = 1) := Lib.hid (by rw [hv, numE, if_pos hp, if_neg hs])
      have ht2 : (0 < s.size) = True := by simp; omega
      clear hs hp hv
      go_wp2
      go_ret
      exact ⟨by rw [HF.out]; rfl, hB⟩

set_option maxRecDepth 100000 in
set_option maxHeartbeats 1000000 in
theorem rval_111 (n : Int) (s : ByteArray) (w : World) (v1 : 0 ≤ n) (v2 : n < 18446744073709551616) :
    Calls Tryz.prog 43 #[.int .u8 ((111 : UInt8).toNat : Nat), encV ⟨n, s⟩] w fun e w' => e = .returned (.int .i64 (vE 111 ⟨n, s⟩)) ∧ Below w.heap.size w w' := by
  have hb0 : Below w.heap.size w (w.alloc (.cells #[.int .u64 n, .string s] 51)) := (Below.refl _ w).alloc (Nat.le_refl _) _
  have hx := Bx.new w 51 [.int .u64 n, .string s]
  have x0 := hx.cell 0 (by simp)
  dsimp only [List.getElem_cons_zero, List.getElem_cons_succ] at x0
  unfold encV
  dsimp only
  have hr := rwidth_any 111 (w.alloc (.cells #[.int .u64 n, .string s] 51)) rfl
  rw [show widC 111 = 1 from rfl] at hr
  go_enter Tryz.func43, Tryz.ntmps43
  go_wp2_with fail
  refine hr.mono ?_
  clear hr
  rintro e w1 ⟨rfl, rfl⟩
  go_wp2_with fail
  refine (rput_any 1 n _ v1 v2).mono ?_
  rintro e w1 ⟨rfl, hb⟩
  have x1 := (hx.kept hb).cell 1 (by simp)
  dsimp only [List.getElem_cons_zero, List.getElem_cons_succ] at x1
  have hB := hb0.trans (hb.mono hb0.size)
  clear hx hb hb0 x0
  have hv : vE 111 ⟨n, s⟩ = numE 1 ⟨n, s⟩ := rfl
  cases hp : putOk 1 n
  · have e4 : putE 1 n = 4 := by rw [putE, if_pos (show isW 1 = true from rfl), if_neg (by simp [hp])]
    have HF : Hid (vE 111 ⟨n, s⟩ = 4) := Lib.hid (by rw [hv]; simp [numE, hp])
    rw [e4]
    clear hp e4 hv
    go_wp2
    go_ret
    exact ⟨by rw [HF.out]; rfl, hB⟩
  · rw [putE_of hp]
    by_cases hs : s.size = 0
    · have HF : Hid (vE 111 ⟨n, s⟩ = 0) := Lib.hid (by rw [hv, numE, if_pos hp, if_pos hs])
      have ht : ((0 : Int) < ((s.size : Nat) : Int)) = False := by simp [hs]
      have ht2 : (0 < s.size) = False := by simp [hs]
      clear hs hp hv
      go_wp2
      go_ret
      exact ⟨by rw [HF.out]; rfl, hB⟩
    · have HF : Hid (vE 111 ⟨n, s⟩ = 1) := Lib.hid (by rw [hv, numE, if_pos hp, if_neg hs])
      have ht2 : (0 < s.size) = True := by simp; omega
      clear hs hp hv
      go_wp2
      go_ret
      exact ⟨by rw [HF.out]; rfl, hB⟩

set_option maxRecDepth 100000 in
set_option maxHeartbeats 1000000 in
theorem rval_113 (n : Int) (s : ByteArray) (w : World) (v1 : 0 ≤ n) (v2 : n < 18446744073709551616) :
    Calls Tryz.prog 43 #[.int .u8 ((113 : UInt8).toNat : Nat), encV ⟨n, s⟩] w fun e w' => e = .returned (.int .i64 (vE 113 ⟨n, s⟩)) ∧ Below w.heap.size w w' := by
  have hb0 : Below w.heap.size w (w.alloc (.cells #[.int .u64 n, .string s] 51)) := (Below.refl _ w).alloc (Nat.le_refl _) _
  have hx := Bx.new w 51 [.int .u64 n, .string s]
  have x0 := hx.cell 0 (by simp)
  dsimp only [List.getElem_cons_zero, List.getElem_cons_succ] at x0
  unfold encV
  dsimp only
  have hr := rwidth_any 113 (w.alloc (.cells #[.int .u64 n, .string s] 51)) rfl
  rw [show widC 113 = 8 from rfl] at hr
  go_enter Tryz.func43, Tryz.ntmps43
  go_wp2_with fail
  refine hr.mono ?_
  clear hr
  rintro e w1 ⟨rfl, rfl⟩
  go_wp2_with fail
  refine (rput_any 8 n _ v1 v2).mono ?_
  rintro e w1 ⟨rfl, hb⟩
  have x1 := (hx.kept hb).cell 1 (by simp)
  dsimp only [List.getElem_cons_zero, List.getElem_cons_succ] at x1
  have hB := hb0.trans (hb.mono hb0.size)
  clear hx hb hb0 x0
  have hv : vE 113 ⟨n, s⟩ = numE 8 ⟨n, s⟩ := rfl
  cases hp : putOk 8 n
  · have e4 : putE 8 n = 4 := by rw [putE, if_pos (show isW 8 = true from rfl), if_neg (by simp [hp])]
    have HF : Hid (vE 113 ⟨n, s⟩ = 4) := Lib.hid (by rw [hv]; simp [numE, hp])
    rw [e4]
    clear hp e4 hv
    go_wp2
    go_ret
    exact ⟨by rw [HF.out]; rfl, hB⟩
  · rw [putE_of hp]
    by_cases hs : s.size = 0
    · have HF : Hid (vE 113 ⟨n, s⟩ = 0) := Lib.hid (by rw [hv, numE, if_pos hp, if_pos hs])
      have ht : ((0 : Int) < ((s.size : Nat) : Int)) = False := by simp [hs]
      have ht2 : (0 < s.size) = False := by simp [hs]
      clear hs hp hv
      go_wp2
      go_ret
      exact ⟨by rw [HF.out]; rfl, hB⟩
    · have HF : Hid (vE 113 ⟨n, s⟩ = 1) := Lib.hid (by rw [hv, numE, if_pos hp, if_neg hs])
      have ht2 : (0 < s.size) = True := by simp; omega
      clear hs hp hv
      go_wp2
      go_ret
      exact ⟨by rw [HF.out]; rfl, hB⟩

set_option maxRecDepth 100000 in
set_option maxHeartbeats 1000000 in
theorem rval_115 (n : Int) (s : ByteArray) (w : World) (v1 : 0 ≤ n) (v2 : n < 18446744073709551616) :
    Calls Tryz.prog 43 #[.int .u8 ((115 : UInt8).toNat : Nat), encV ⟨n, s⟩] w fun e w' => e = .returned (.int .i64 (vE 115 ⟨n, s⟩)) ∧ Below w.heap.size w w' := by
  have hb0 : Below w.heap.size w (w.alloc (.cells #[.int .u64 n, .string s] 51)) := (Below.refl _ w).alloc (Nat.le_refl _) _
  have hx := Bx.new w 51 [.int .u64 n, .string s]
  have x0 := hx.cell 0 (by simp)
  dsimp only [List.getElem_cons_zero, List.getElem_cons_succ] at x0
  unfold encV
  dsimp only
  have hr := rwidth_any 115 (w.alloc (.cells #[.int .u64 n, .string s] 51)) rfl
  rw [show widC 115 = 2 from rfl] at hr
  go_enter Tryz.func43, Tryz.ntmps43
  go_wp2_with fail
  refine hr.mono ?_
  clear hr
  rintro e w1 ⟨rfl, rfl⟩
  go_wp2_with fail
  refine (rput_any 2 n _ v1 v2).mono ?_
  rintro e w1 ⟨rfl, hb⟩
  have x1 := (hx.kept hb).cell 1 (by simp)
  dsimp only [List.getElem_cons_zero, List.getElem_cons_succ] at x1
  have hB := hb0.trans (hb.mono hb0.size)
  clear hx hb hb0 x0
  have hv : vE 115 ⟨n, s⟩ = numE 2 ⟨n, s⟩ := rfl
  cases hp : putOk 2 n
  · have e4 : putE 2 n = 4 := by rw [putE, if_pos (show isW 2 = true from rfl), if_neg (by simp [hp])]
    have HF : Hid (vE 115 ⟨n, s⟩ = 4) := Lib.hid (by rw [hv]; simp [numE, hp])
    rw [e4]
    clear hp e4 hv
    go_wp2
    go_ret
    exact ⟨by rw [HF.out]; rfl, hB⟩
  · rw [putE_of hp]
    by_cases hs : s.size = 0
    · have HF : Hid (vE 115 ⟨n, s⟩ = 0) := Lib.hid (by rw [hv, numE, if_pos hp, if_pos hs])
      have ht : ((0 : Int) < ((s.size : Nat) : Int)) = False := by simp [hs]
      have ht2 : (0 < s.size) = False := by simp [hs]
      clear hs hp hv
      go_wp2
      go_ret
      exact ⟨by rw [HF.out]; rfl, hB⟩
    · have HF : Hid (vE 115 ⟨n, s⟩ = 1) := Lib.hid (by rw [hv, numE, if_pos hp, if_neg hs])
      have ht2 : (0 < s.size) = True := by simp; omega
      clear hs hp hv
      go_wp2
      go_ret
      exact ⟨by rw [HF.out]; rfl, hB⟩
end Go.Proofs.YtkdiccedkjbpeaaGreatDoorR

/-
  The document's own val of interchangeref06, of a bit and of texts: why they aren't right; nothing that was there is changed.
-/
namespace Go.Proofs.YtkdiccedkjbpeaaGreatDoorR
open Go.RowKit

set_option maxRecDepth 100000 in
set_option maxHeartbeats 1000000 in
theorem rval_98 (n : Int) (s : ByteArray) (w : World) :
    Calls Tryz.prog 43 #[.int .u8 ((98 : UInt8).toNat : Nat), encV ⟨n, s⟩] w fun e w' => e = .returned (.int .i64 (vE 98 ⟨n, s⟩)) ∧ Below w.heap.size w w' := by
  have hB : Below w.heap.size w (w.alloc (.cells #[.int .u64 n, .string s] 51)) := (Below.refl _ w).alloc (Nat.le_refl _) _
  have hx := Bx.new w 51 [.int .u64 n, .string s]
  have x0 := hx.cell 0 (by simp)
  have x1 := hx.cell 1 (by simp)
  dsimp only [List.getElem_cons_zero, List.getElem_cons_succ] at x0 x1
  clear hx
  unfold encV
  dsimp only
  have hr := rwidth_any 98 (w.alloc (.cells #[.int .u64 n, .string s] 51)) rfl
  rw [show widC 98 = 0 from rfl] at hr
  have hv : vE 98 ⟨n, s⟩ = (if 1 < n then 4 else if s.size = 0 then 0 else 1) := rfl
  go_enter Tryz.func43, Tryz.ntmps43
  go_wp2_with fail
  refine hr.mono ?_
  clear hr
  rintro e w1 ⟨rfl, rfl⟩
  by_cases h1 : 1 < n
  · have HF : Hid (vE 98 ⟨n, s⟩ = 4) := Lib.hid (by rw [hv, if_pos h1])
    clear hv
    go_wp2
    go_ret
    exact ⟨by rw [HF.out]; rfl, hB⟩
  · by_cases hs : s.size = 0
    · have HF : Hid (vE 98 ⟨n, s⟩ = 0) := Lib.hid (by rw [hv, if_neg h1, if_pos hs])
      have ht : ((0 : Int) < ((s.size : Nat) : Int)) = False := by simp [hs]
      have ht2 : (0 < s.size) = False := by simp [hs]
      clear hs hv
      go_wp2
      go_ret
      exact ⟨by rw [HF.out]; rfl, hB⟩
    · have HF : Hid (vE 98 ⟨n, s⟩ = 1) := Lib.hid (by rw [hv, if_neg h1, if_neg hs])
      have ht2 : (0 < s.size) = True := by simp; omega
      clear hs hv
      go_wp2
      go_ret
      exact ⟨by rw [HF.out]; rfl, hB⟩

set_option maxRecDepth 100000 in
set_option maxHeartbeats 1000000 in
theorem rval_83 (n : Int) (s : ByteArray) (w : World) :
    Calls Tryz.prog 43 #[.int .u8 ((83 : UInt8).toNat : Nat), encV ⟨n, s⟩] w fun e w' => e = .returned (.int .i64 (vE 83 ⟨n, s⟩)) ∧ Below w.heap.size w w' := by
  have hB : Below w.heap.size w (w.alloc (.cells #[.int .u64 n, .string s] 51)) := (Below.refl _ w).alloc (Nat.le_refl _) _
  have hx := Bx.new w 51 [.int .u64 n, .string s]
  have x0 := hx.cell 0 (by simp)
  have x1 := hx.cell 1 (by simp)
  dsimp only [List.getElem_cons_zero, List.getElem_cons_succ] at x0 x1
  clear hx
  unfold encV
  dsimp only
  have hr := rwidth_any 83 (w.alloc (.cells #[.int .u64 n, .string s] 51)) rfl
  rw [show widC 83 = 0 from rfl] at hr
  have hv : vE 83 ⟨n, s⟩ = (if 255 < s.size then 4 else if n = 0 then 0 else 1) := by
    have e : (layOk 1 s = true) ↔ ¬ 255 < s.size := by
      simp [layOk, putOk, isW]
      omega
    show (if layOk 1 s = true then (if n = 0 then 0 else 1) else 4) = _
    by_cases h : 255 < s.size
    · rw [if_neg (fun x => e.1 x h), if_pos h]
    · rw [if_pos (e.2 h), if_neg h]
  go_enter Tryz.func43, Tryz.ntmps43
  go_wp2_with fail
  refine hr.mono ?_
  clear hr
  rintro e w1 ⟨rfl, rfl⟩
  by_cases h1 : 255 < s.size
  · have HF : Hid (vE 83 ⟨n, s⟩ = 4) := Lib.hid (by rw [hv, if_pos h1])
    have ht : ((255 : Int) < ((s.size : Nat) : Int)) = True := by simp; omega
    clear hv
    go_wp2
    go_ret
    exact ⟨by rw [HF.out]; rfl, hB⟩
  · have ht : ((255 : Int) < ((s.size : Nat) : Int)) = False := by simp; omega
    by_cases hs : n = 0
    · have HF : Hid (vE 83 ⟨n, s⟩ = 0) := Lib.hid (by rw [hv, if_neg h1, if_pos hs])
      have hn : (n != 0) = false := by simp [hs]
      clear hs hv
      go_wp2
      go_ret
      exact ⟨by rw [HF.out]; rfl, hB⟩
    · have HF : Hid (vE 83 ⟨n, s⟩ = 1) := Lib.hid (by rw [hv, if_neg h1, if_neg hs])
      have hn : (n != 0) = true := by simp [hs]
      clear hs hv
      go_wp2
      go_ret
      exact ⟨by rw [HF.out]; rfl, hB⟩

set_option maxRecDepth 100000 in
set_option maxHeartbeats 1000000 in
theorem rval_76 (n : Int) (s : ByteArray) (w : World) :
    Calls Tryz.prog 43 #[.int .u8 ((76 : UInt8).toNat : Nat), encV ⟨n, s⟩] w fun e w' => e = .returned (.int .i64 (vE 76 ⟨n, s⟩)) ∧ Below w.heap.size w w' := by
  have hB : Below w.heap.size w (w.alloc (.cells #[.int .u64 n, .string s] 51)) := (Below.refl _ w).alloc (Nat.le_refl _) _
  have hx := Bx.new w 51 [.int .u64 n, .string s]
  have x0 := hx.cell 0 (by simp)
  have x1 := hx.cell 1 (by simp)
  dsimp only [List.getElem_cons_zero, List.getElem_cons_succ] at x0 x1
  clear hx
  unfold encV
  dsimp only
  have hr := rwidth_any 76 (w.alloc (.cells #[.int .u64 n, .string s] 51)) rfl
  rw [show widC 76 = 0 from rfl] at hr
  have hv : vE 76 ⟨n, s⟩ = (if 131072 < s.size then 4 else if n = 0 then 0 else 1) := by
    rfl
  go_enter Tryz.func43, Tryz.ntmps43
  go_wp2_with fail
  refine hr.mono ?_
  clear hr
  rintro e w1 ⟨rfl, rfl⟩
  by_cases h1 : 131072 < s.size
  · have HF : Hid (vE 76 ⟨n, s⟩ = 4) := Lib.hid (by rw [hv, if_pos h1])
    have ht : ((131072 : Int) < ((s.size : Nat) : Int)) = True := by simp; omega
    clear hv
    go_wp2
    go_ret
    exact ⟨by rw [HF.out]; rfl, hB⟩
  · have ht : ((131072 : Int) < ((s.size : Nat) : Int)) = False := by simp; omega
    by_cases hs : n = 0
    · have HF : Hid (vE 76 ⟨n, s⟩ = 0) := Lib.hid (by rw [hv, if_neg h1, if_pos hs])
      have hn : (n != 0) = false := by simp [hs]
      clear hs hv
      go_wp2
      go_ret
      exact ⟨by rw [HF.out]; rfl, hB⟩
    · have HF : Hid (vE 76 ⟨n, s⟩ = 1) := Lib.hid (by rw [hv, if_neg h1, if_neg hs])
      have hn : (n != 0) = true := by simp [hs]
      clear hs hv
      go_wp2
      go_ret
      exact ⟨by rw [HF.out]; rfl, hB⟩
end Go.Proofs.YtkdiccedkjbpeaaGreatDoorR

/-
  The document's own val of interchangeref06, of a table, and of every letter: why a value isn't right; nothing that was there is changed. Conditions: the value's number is a uint64, its text is shorter than 2^47 bytes; the letter is one of chapter 5's.
-/
namespace Go.Proofs.YtkdiccedkjbpeaaGreatDoorR
open Go.RowKit

theorem alone_tab (s : ByteArray) : (aloneE (nest true s 32) = 0) ↔ tabIs s = true := by
  unfold aloneE tabIs
  by_cases h : (nest true s 32).err = 0
  · by_cases g : (nest true s 32).rest.size = 0
    · simp [h, g]
    · simp [h, g]
  · simp [h]

set_option maxRecDepth 100000 in
set_option maxHeartbeats 1000000 in
theorem rval_84 (n : Int) (s : ByteArray) (w : World) (v3 : s.size < 140737488355328) :
    Calls Tryz.prog 43 #[.int .u8 ((84 : UInt8).toNat : Nat), encV ⟨n, s⟩] w fun e w' => e = .returned (.int .i64 (vE 84 ⟨n, s⟩)) ∧ Below w.heap.size w w' := by
  have hB : Below w.heap.size w (w.alloc (.cells #[.int .u64 n, .string s] 51)) := (Below.refl _ w).alloc (Nat.le_refl _) _
  have hx := Bx.new w 51 [.int .u64 n, .string s]
  have x0 := hx.cell 0 (by simp)
  have x1 := hx.cell 1 (by simp)
  dsimp only [List.getElem_cons_zero, List.getElem_cons_succ] at x0 x1
  clear hx
  unfold encV
  dsimp only
  have hr := rwidth_any 84 (w.alloc (.cells #[.int .u64 n, .string s] 51)) rfl
  rw [show widC 84 = 0 from rfl] at hr
  have hv : vE 84 ⟨n, s⟩ = (if n = 0 then (if tabIs s = true then 0 else 3) else 1) := rfl
  go_enter Tryz.func43, Tryz.ntmps43
  go_wp2_with fail
  refine hr.mono ?_
  clear hr
  rintro e w1 ⟨rfl, rfl⟩
  by_cases hs : n = 0
  · have HV : Hid (vE 84 ⟨n, s⟩ = (if tabIs s = true then 0 else 3)) := Lib.hid (by rw [hv, if_pos hs])
    have hn : (n != 0) = false := by simp [hs]
    clear hs hv
    go_wp2_with fail
    refine (rtabDeep_any s _ (by omega)).mono ?_
    rintro e w1 ⟨rfl, hb⟩
    have hB2 := hB.trans (hb.mono hB.size)
    clear hB hb x0 x1
    by_cases ha : aloneE (nest true s 32) = 0
    · have HF : Hid (vE 84 ⟨n, s⟩ = 0) := Lib.hid (by rw [HV.out, if_pos ((alone_tab s).1 ha)])
      rw [ha]
      clear HV ha
      go_wp2
      go_ret
      exact ⟨by rw [HF.out]; rfl, hB2⟩
    · have HF : Hid (vE 84 ⟨n, s⟩ = 3) := Lib.hid (by rw [HV.out, if_neg (fun h => ha ((alone_tab s).2 h))])
      have he : (aloneE (nest true s 32) != 0) = true := by simp [ha]
      clear HV ha
      generalize aloneE (nest true s 32) = q at he ⊢
      go_wp2
      go_ret
      exact ⟨by rw [HF.out]; rfl, hB2⟩
  · have HF : Hid (vE 84 ⟨n, s⟩ = 1) := Lib.hid (by rw [hv, if_neg hs])
    have hn : (n != 0) = true := by simp [hs]
    clear hs hv
    go_wp2
    go_ret
    exact ⟨by rw [HF.out]; rfl, hB⟩

theorem rval_any (c : UInt8) (v : MV) (w : World) (hc : isLet c = true) (hv : wfV v) :
    Calls Tryz.prog 43 #[.int .u8 (c.toNat : Nat), encV v] w fun e w' => e = .returned (.int .i64 (vE c v)) ∧ Below w.heap.size w w' := by
  obtain ⟨n, s⟩ := v
  obtain ⟨v1, v2, v3⟩ := hv
  rcases let_cases hc with rfl | rfl | rfl | rfl | rfl | rfl | rfl | rfl
  · exact rval_98 n s w
  · exact rval_76 n s w
  · exact rval_83 n s w
  · exact rval_84 n s w v3
  · exact rval_108 n s w v1 v2
  · exact rval_111 n s w v1 v2
  · exact rval_113 n s w v1 v2
  · exact rval_115 n s w v1 v2
end Go.Proofs.YtkdiccedkjbpeaaGreatDoorR
