/-
  The document's example of chapter 8 comes out; nothing that was there is changed. Conditions: the tables of widths and of contents are as their texts lay them.
-/
import Derived.Laws.MakeOwn
import Derived.Laws.BytesArg
import Derived.Deep.DeepCutAuto
import Derived.Test.YtllgkohgcicbhaaGreatDoorJC1
import Derived.Test.YtllgkohgcicbhaaGreatDoorWCFrames
import Derived.Test.YtllgkohgcicbhaaGreatDoorZB
namespace Go.Proofs.YtllgkohgcicbhaaGreatDoor
open Go.RowKit

/-- bytes of 0, cell by cell -/
def zCellsN (n : Nat) : Array Value := madeCells (Value.cells (.int .u8 0)) n
theorem zCells_at (n i : Nat) (h : i < n) : (zCellsN n)[i]? = some (.int .u8 0) := by
  have e : ∀ k, (Value.cells (.int .u8 0))[k % (Value.cells (.int .u8 0)).size]! = .int .u8 0 := fun k => by
    rw [show (Value.cells (.int .u8 0)) = #[.int .u8 0] from rfl, show (#[Value.int .u8 0] : Array Value).size = 1 from rfl, Nat.mod_one]
    rfl
  rw [zCellsN, madeCells, Array.getElem?_map, Array.getElem?_range, if_pos h, Option.map_some, e]
def zCells : Array Value := zCellsN 5000
theorem infoU8 : (Tryz.prog.info? 5).map (fun i => (i.zero, i.size, i.bytes)) = some (some (.int .u8 0), 1, 1) := by kernel_rfl
theorem run_zeros (u : World) : (Instr.makeSlice 59 (.int .i64 5000) (.int .i64 5000)).run Tryz.prog u = .ok (.slice (some ⟨u.heap.size, 0, none⟩) 5000 5000) (u.alloc (.cells zCells 5)) := by
  obtain ⟨i, hi, hz0, hz1, hz2⟩ := info_parts infoU8
  have h := run_make (P := Tryz.prog) u 59 5 i (.int .u8 0) Tryz.underlying59 hi hz0 .i64 .i64 5000 5000 (by decide) (by decide) (by rw [hz2]; decide) (by decide)
  rw [hz1] at h
  exact h
theorem run_zstringN (n : Nat) (u : World) (B : Nat) (h : u.heap[B]? = some (.cells (zCellsN n) 5 (0, 0))) : (convert 59 9 (.slice (some ⟨B, 0, none⟩) n n)).run Tryz.prog u = .ok (.string (zerosN n)) u := by
  have h2 := run_convert_bytes_arg (P := Tryz.prog) u 59 5 Tryz.underlying59 Tryz.underlying5 B 0 n n (List.replicate n 0) List.length_replicate (fun i hi => by
    have e : u.cell? ⟨B, 0 + i, none⟩ = (zCellsN n)[i]? := by simp [World.cell?, h]
    rw [e, zCells_at n i hi]
    simp [List.getD, hi]) 9 Tryz.underlying9
  rw [h2]
  have e : strOfNums (List.replicate n 0) = zerosN n := by
    rw [zerosN, strOfNums, List.map_replicate]
    rfl
  rw [e]
theorem run_zstring (u : World) (B : Nat) (h : u.heap[B]? = some (.cells zCells 5 (0, 0))) : (convert 59 9 (.slice (some ⟨B, 0, none⟩) 5000 5000)).run Tryz.prog u = .ok (.string zeros) u := run_zstringN 5000 u B h

set_option maxRecDepth 100000 in
set_option maxHeartbeats 4000000 in
theorem cshown_any (w : World) (hw : Wid w) (hk : Con w) : Calls Tryz.prog 7 #[] w fun e w' => e = .returned (.bool true) ∧ Below w.heap.size w w' := by
  have hmk := run_zeros
  obtain ⟨W1, hW1⟩ : ∃ W1, W1 = (w.alloc (.cells #[.int .u64 0, .string ⟨#[]⟩, .int .u64 0, .string ⟨#[]⟩, .int .u64 0, .string ⟨#[113]⟩, .int .u64 0, .string ⟨#[]⟩, .int .u64 0, .string ⟨#[]⟩] 58)).alloc (.cells #[.int .i64 60, .int .i64 40, .slice (some ⟨w.heap.size, 0, none⟩) 5 5] 24) := ⟨_, rfl⟩
  have hb1 : Below w.heap.size w W1 := by rw [hW1]; exact ((Below.refl _ w).alloc (Nat.le_refl _) _).alloc (by simp) _
  have hm : Bx W1 (w.heap.size + 1) 24 [.int .i64 60, .int .i64 40, .slice (some ⟨w.heap.size, 0, none⟩) 5 5] := by
    have h := Bx.new (w.alloc (.cells #[.int .u64 0, .string ⟨#[]⟩, .int .u64 0, .string ⟨#[]⟩, .int .u64 0, .string ⟨#[113]⟩, .int .u64 0, .string ⟨#[]⟩, .int .u64 0, .string ⟨#[]⟩] 58)) 24 [.int .i64 60, .int .i64 40, .slice (some ⟨w.heap.size, 0, none⟩) 5 5]
    rw [World.size_alloc] at h
    rw [hW1]
    exact h
  have hv : ValsAt W1 (some ⟨w.heap.size, 0, none⟩) (rowV shM.l) := by
    have h := (Bx.new w 58 (rowV shM.l)).alloc (.cells #[.int .i64 60, .int .i64 40, .slice (some ⟨w.heap.size, 0, none⟩) 5 5] 24)
    have e : w.alloc (.cells (rowV shM.l).toArray 58) = w.alloc (.cells #[.int .u64 0, .string ⟨#[]⟩, .int .u64 0, .string ⟨#[]⟩, .int .u64 0, .string ⟨#[113]⟩, .int .u64 0, .string ⟨#[]⟩, .int .u64 0, .string ⟨#[]⟩] 58) := rfl
    rw [e, ← hW1] at h
    exact fun _ => ⟨w.heap.size, 0, rfl, h.lt, fun i hi => by rw [Nat.zero_add]; exact h.cell i hi⟩
  obtain ⟨L, hL⟩ : ∃ L, L = cFrs shC 1 4088 := ⟨_, rfl⟩
  have hL4 : L.length = 4 := by rw [hL, sh_frs]; rfl
  have HL2 : Hid (∃ f, L[2]? = some f ∧ f.d.size = 4088) := Lib.hid (by rw [hL, sh_frs]; exact ⟨_, rfl, sh_sizes.1⟩)
  have HL3 : Hid (∃ f, L[3]? = some f ∧ f.d.size = 912) := Lib.hid (by rw [hL, sh_frs]; exact ⟨_, rfl, sh_sizes.2⟩)
  have hF : ∀ U, Below W1.heap.size W1 U → Calls Tryz.prog 10 #[.agg #[.int .i64 60, .int .i64 40, .slice (some ⟨w.heap.size, 0, none⟩) 5 5, .int .i64 60, .int .u64 5000, .int .u64 0, .slice none 0 0, .string zeros], .int .i64 1, .int .i64 4096] U fun e w' => ∃ v, e = .returned (.tuple #[v, .int .i64 0]) ∧ w'.ownsRow U.heap.size 33 3 v 4 (rowFr L) ∧ Below U.heap.size U w' := fun U h => by
    have hU := hb1.trans (h.mono hb1.size)
    have hc : CmAt U shC (some ⟨w.heap.size, 0, none⟩) none 5 0 := ⟨hv.below h, fun h' => by simp [shC, shH, rowV] at h', (fun h' => by cases h'), fun _ => ⟨rfl, rfl⟩⟩
    have q := frames_any shC (some ⟨w.heap.size, 0, none⟩) none 5 0 1 4096 U (hw.below hU) (hk.below hU) sh_wf hc ⟨by decide, by decide⟩ (by show zeros.size < _; rw [zeros_size]; decide)
    rw [sh_room] at q
    unfold FrPost at q
    rw [sh_frsE, ← hL, hL4] at q
    exact q
  have HLn := Lib.hid hL4
  clear hL hL4 hv
  have hcv : ∀ u : World, u.heap = (W1.alloc (.cells zCells 5)).heap → (convert 59 9 (.slice (some ⟨W1.heap.size, 0, none⟩) 5000 5000)).run Tryz.prog u = .ok (.string zeros) u := fun u h => run_zstring u W1.heap.size (by rw [h]; exact heap_alloc_new W1 _)
  generalize zCells = zc at hmk hcv
  generalize zeros = zs at hcv hF
  have c00 := hcv (W1.alloc (.cells zc 5)) rfl
  have c01 := hcv (W1.alloc (.cells zc 5)).drew rfl
  have c02 := hcv (W1.alloc (.cells zc 5)).drew.drew rfl
  have c03 := hcv (W1.alloc (.cells zc 5)).drew.drew.drew rfl
  have c10 := hcv (W1.drew.alloc (.cells zc 5)) rfl
  have c11 := hcv (W1.drew.alloc (.cells zc 5)).drew rfl
  have c12 := hcv (W1.drew.alloc (.cells zc 5)).drew.drew rfl
  have c13 := hcv (W1.drew.alloc (.cells zc 5)).drew.drew.drew rfl
  have c20 := hcv (W1.drew.drew.alloc (.cells zc 5)) rfl
  have c21 := hcv (W1.drew.drew.alloc (.cells zc 5)).drew rfl
  have c22 := hcv (W1.drew.drew.alloc (.cells zc 5)).drew.drew rfl
  have c30 := hcv (W1.drew.drew.drew.alloc (.cells zc 5)) rfl
  have c31 := hcv (W1.drew.drew.drew.alloc (.cells zc 5)).drew rfl
  clear hcv
  have x0 := hm.cell 0 (by simp)
  have x1 := hm.cell 1 (by simp)
  have x2 := hm.cell 2 (by simp)
  dsimp only [List.getElem_cons_zero, List.getElem_cons_succ] at x0 x1 x2
  have y0 := (hm.alloc (.cells zc 5)).cell 0 (by simp)
  have y1 := (hm.alloc (.cells zc 5)).cell 1 (by simp)
  have y2 := (hm.alloc (.cells zc 5)).cell 2 (by simp)
  dsimp only [List.getElem_cons_zero, List.getElem_cons_succ] at y0 y1 y2
  have hbs := hb1.size
  clear hm
  go_enter Tryz.func7, Tryz.ntmps7
  go_upto_region 2 with fail
  rw [← hW1]
  clear hW1
  go_cut [2, 3] (fun v e wx => e = .int .i64 0 ∧ (∃ A c, v = .slice A 4 c ∧ ValsAt wx A (rowFr L)) ∧ Below w.heap.size w wx)
  case first =>
    go_region_with (first | (go_at_call 10; refine (hF _ (by repeat (first | exact Below.refl _ _ | refine Below.drew ?_ | refine Below.alloc ?_ (by simp) _))).mono ?_; rintro e w4 ⟨v, rfl, hr, hb4⟩))
    all_goals
      have hU : Below W1.heap.size W1 w4 := Below.trans (by repeat (first | exact Below.refl _ _ | refine Below.drew ?_ | refine Below.alloc ?_ (by simp) _)) (hb4.mono (by simp))
      have hB := hb1.trans (hU.mono hbs)
      obtain ⟨A, cp, rfl, hvA, -, -⟩ := vals_of_row3 hr
      clear hr hb4 hU
      go_wp2_with fail
      go_meet
      exact ⟨rfl, ⟨A, cp, rfl, hvA⟩, hB⟩
  case rest =>
    obtain ⟨rfl, ⟨A, cp, rfl, hvA⟩, hB⟩ := hcut
    obtain ⟨b2, o2, rfl, -, g2⟩ := vals_frame hvA 2 (by rw [HLn.out]; decide)
    obtain ⟨b3, o3, e3, -, g3⟩ := vals_frame hvA 3 (by rw [HLn.out]; decide)
    cases e3
    obtain ⟨-, -, z2⟩ := g2 _ (Below.refl _ _)
    obtain ⟨-, -, z3⟩ := g3 _ (Below.refl _ _)
    have s2 : (L[2]'(by rw [HLn.out]; decide)).d.size = 4088 := by
      obtain ⟨f, h1, h2⟩ := HL2.out
      obtain ⟨h3, h4⟩ := List.getElem?_eq_some_iff.1 h1
      rw [h4]; exact h2
    have s3 : (L[3]'(by rw [HLn.out]; decide)).d.size = 912 := by
      obtain ⟨f, h1, h2⟩ := HL3.out
      obtain ⟨h3, h4⟩ := List.getElem?_eq_some_iff.1 h1
      rw [h4]; exact h2
    generalize (L[2]'(by rw [HLn.out]; decide)).d = d2 at z2 s2
    generalize (L[3]'(by rw [HLn.out]; decide)).d = d3 at z3 s3
    have t2 : ((d2.size : Int) == 4088) = true := by rw [s2]; rfl
    have t3 : ((d3.size : Int) == 912) = true := by rw [s3]; rfl
    clear hvA g2 g3 HL2 HL3 HLn c00 c01 c02 c03 c10 c11 c12 c13 c20 c21 c22 c30 c31 hmk hF x0 x1 x2 y0 y1 y2
    go_wp2
    go_ret
    exact ⟨rfl, hB⟩
end Go.Proofs.YtllgkohgcicbhaaGreatDoor
