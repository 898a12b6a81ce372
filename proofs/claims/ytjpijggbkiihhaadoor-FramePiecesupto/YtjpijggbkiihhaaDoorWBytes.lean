/-
  frame.Bytes answers a frame's bytes, or that it isn't right; nothing that was there is changed. Conditions: the tables of widths and kinds are as their texts lay them.
-/
import Derived.Test.YtjpijggbkiihhaaDoorWPut
import Derived.Test.YtjpijggbkiihhaaDoorWRight
namespace Go.Proofs.YtjpijggbkiihhaaDoor
open Go.RowKit

set_option maxHeartbeats 2000000 in
theorem frbytes_ok (f : Fr) (w : World) (hw : Wid w) (hk : Kin w) (hr : frRight f = true) :
    Calls Tryd.prog 11 #[encFr f] w fun e w' => e = .returned (.tuple #[.string (frB f), .int .i64 0]) ∧ Below w.heap.size w w' := by
  obtain ⟨-, ht, hc0, hc1, hd⟩ := frRight_parts hr
  obtain ⟨o1, o2, o3⟩ := fr_puts hr
  have x0 := Bx.new w 23 [.int .i64 f.t, .int .i64 f.c, .string f.d]
  have hb0 : Below w.heap.size w (w.alloc (.cells [.int .i64 f.t, .int .i64 f.c, .string f.d].toArray 23)) := (Below.refl _ _).alloc (Nat.le_refl _) _
  have r1 := right_any f _ (hk.below hb0)
  have ht0 : 0 ≤ f.t ∧ f.t ≤ 8 := by omega
  have HB := Lib.hid (show frB f = putR 1 f.t ++ putR 2 f.c ++ putR 4 f.d.size ++ f.d ++ putR 1 206 by unfold frB; rw [layR_of o3]; simp only [ba_assoc])
  have s1 := putR_size o1
  have s2 := putR_size o2
  have s3 : ((putR 4 f.d.size).size : Int) = 4 := putR_size o3
  have s4 := putR_size (show putOk 1 206 = true by decide)
  have e1 := putE_of o1
  have e2 := putE_of o2
  have e3 : putE 4 f.d.size = 0 := putE_of o3
  have e4 := putE_of (show putOk 1 206 = true by decide)
  clear o1 o2 o3
  unfold encFr at r1 ⊢
  rw [hr] at r1
  clear hr ht
  obtain ⟨t, c, d⟩ := f
  dsimp only at *
  go_enter Tryd.func11, Tryd.ntmps11
  go_wp2_with fail
  refine r1.mono ?_
  rintro e w1 ⟨rfl, hb⟩
  have x1 := x0.kept hb
  have hb1 := hb0.trans (hb.mono hb0.size)
  clear x0 hb0 hb r1
  have a0 := x1.cell 0 (by simp)
  dsimp only [List.getElem_cons_zero, List.getElem_cons_succ] at a0
  go_wp2_with fail
  refine (put_any 1 t _ (hw.below hb1) ht0.1 (by omega)).mono ?_
  rintro e w2 ⟨rfl, hb⟩
  rw [e1]
  clear e1 a0
  have x2 := x1.kept hb
  have hb2 := hb1.trans (hb.mono hb1.size)
  clear x1 hb1 hb
  have a1 := x2.cell 1 (by simp)
  dsimp only [List.getElem_cons_zero, List.getElem_cons_succ] at a1
  go_wp2_with fail
  refine (put_any 2 c _ (hw.below hb2) hc0 (by omega)).mono ?_
  rintro e w3 ⟨rfl, hb⟩
  rw [e2]
  clear e2 a1
  have x3 := x2.kept hb
  have hb3 := hb2.trans (hb.mono hb2.size)
  clear x2 hb2 hb
  have a2 := x3.cell 2 (by simp)
  dsimp only [List.getElem_cons_zero, List.getElem_cons_succ] at a2
  go_wp2_with fail
  refine (put_any 4 d.size _ (hw.below hb3) (by omega) (by omega)).mono ?_
  rintro e w4 ⟨rfl, hb⟩
  rw [e3]
  clear e3 a2
  have x4 := x3.kept hb
  have hb4 := hb3.trans (hb.mono hb3.size)
  clear x3 hb3 hb
  go_wp2_with fail
  refine (put_any 1 206 _ (hw.below hb4) (by omega) (by omega)).mono ?_
  rintro e w5 ⟨rfl, hb⟩
  rw [e4]
  clear e4
  have x5 := x4.kept hb
  have hb5 := hb4.trans (hb.mono hb4.size)
  clear x4 hb4 hb
  have a2 := x5.cell 2 (by simp)
  dsimp only [List.getElem_cons_zero, List.getElem_cons_succ] at a2
  clear x5
  generalize putR 1 t = p1 at HB s1 ⊢
  generalize putR 2 c = p2 at HB s2 ⊢
  generalize putR 4 d.size = p3 at HB s3 ⊢
  generalize putR 1 206 = p4 at HB s4 ⊢
  have z1 : p1.size + p2.size ≤ 9223372036854775807 := by omega
  have z2 : (p1 ++ p2).size + p3.size ≤ 9223372036854775807 := by rw [ByteArray.size_append]; omega
  have z3 : (p1 ++ p2 ++ p3).size + d.size ≤ 9223372036854775807 := by simp only [ByteArray.size_append]; omega
  have z4 : (p1 ++ p2 ++ p3 ++ d).size + p4.size ≤ 9223372036854775807 := by simp only [ByteArray.size_append]; omega
  clear s1 s2 s3 s4
  go_wp2
  go_ret2
  exact ⟨by rw [HB.out]; rfl, hb5⟩
theorem frbytes_bad (f : Fr) (w : World) (hk : Kin w) (hr : frRight f = false) :
    Calls Tryd.prog 11 #[encFr f] w fun e w' => e = .returned (.tuple #[.string ⟨#[]⟩, .int .i64 1]) ∧ Below w.heap.size w w' := by
  have hb0 : Below w.heap.size w (w.alloc (.cells [.int .i64 f.t, .int .i64 f.c, .string f.d].toArray 23)) := (Below.refl _ _).alloc (Nat.le_refl _) _
  have r1 := right_any f _ (hk.below hb0)
  rw [hr] at r1
  unfold encFr at r1 ⊢
  go_enter Tryd.func11, Tryd.ntmps11
  go_wp2_with fail
  refine r1.mono ?_
  rintro e w1 ⟨rfl, hb⟩
  go_wp2
  go_ret2
  exact ⟨rfl, hb0.trans (hb.mono hb0.size)⟩
theorem frbytes_any (f : Fr) (w : World) (hw : Wid w) (hk : Kin w) :
    Calls Tryd.prog 11 #[encFr f] w fun e w' => e = .returned (.tuple #[.string (frBytes f), .int .i64 (frBytesE f)]) ∧ Below w.heap.size w w' := by
  cases hr : frRight f
  · refine (frbytes_bad f w hk hr).mono ?_
    rintro e w1 ⟨rfl, hb⟩
    exact ⟨by simp [frBytes, frBytesE, hr], hb⟩
  · refine (frbytes_ok f w hw hk hr).mono ?_
    rintro e w1 ⟨rfl, hb⟩
    exact ⟨by simp [frBytes, frBytesE, hr], hb⟩
end Go.Proofs.YtjpijggbkiihhaaDoor
