/-
  interchangelaw06.MethodArgs answers true; nothing that was there is changed. Conditions: the table of widths is as its text lays it; the values lie in old memory, of at most 2^47 bytes.
-/
import Derived.Deep.RegionHeld3
import Derived.Test.YtmpfkommeakgbaaDoorRMWith
namespace Go.Proofs.YtmpfkommeakgbaaDoor
open Go.RowKit

set_option maxRecDepth 100000 in
set_option maxHeartbeats 4000000 in
theorem methodArgs_walk (m : Me) (A : Option Addr) (cap : Nat) (i : Int) (v : MV) (w : World) (hw : Wid w) (hA : ValsAt w A (rowV m.l)) (h0 : A = none → m.l.length = 0 ∧ cap = 0) (hl : m.l.length * 24 ≤ 140737488355328) :
    Calls Tryd.prog 3 #[encM m A cap, .int .i64 i, encV v] w fun e w' => e = .returned (.bool true) ∧ Below w.heap.size w w' := by
  have hWith := fun W hA => with_any m A cap i v W hA h0 hl
  have hRWith := fun W hA => rwith_any m A cap i v W hA hl
  have hArg := fun W hA => arg_any m A cap i W hA
  have hRArg := fun W hA => rarg_any m A cap i W hA
  have hSame := fun A1 B1 c1 c2 W h1 h2 => rsame_any ⟨m.c, m.i, withV m.l i v⟩ ⟨m.c, m.i, withV m.l i v⟩ A1 B1 c1 c2 W h1 h2 (by dsimp only; rw [withV_length]; omega)
  have hT : sameM ⟨m.c, m.i, withV m.l i v⟩ ⟨m.c, m.i, withV m.l i v⟩ = true := (sameM_iff _ _).2 rfl
  rw [hT] at hSame
  have hE : ∀ w, (Op.equalIn 10000 27 (encV (argV m.l i)) (encV (argV m.l i))).run Tryd.prog w = .ok true w := fun w => by
    have h := eqV (argV m.l i) (argV m.l i) w
    rw [(sameV_iff _ _).2 rfl] at h
    exact h
  generalize argV m.l i = av at hArg hRArg hE
  have HL : Hid ((⟨m.c, m.i, withV m.l i v⟩ : Me).l.length = m.l.length) := Lib.hid (withV_length _ _ _)
  obtain ⟨an, ax⟩ := av
  generalize (⟨m.c, m.i, withV m.l i v⟩ : Me) = m' at hWith hRWith hSame HL
  clear hT
  obtain ⟨c, j, l⟩ := m
  obtain ⟨nn, ss⟩ := v
  unfold MeAt at hWith hRWith
  simp only [encM, encV] at hWith hRWith hArg hRArg hSame hE ⊢
  dsimp only at hA h0 hl HL
  have hb0 : Below w.heap.size w ((w.alloc (.cells #[.int .i64 c, .int .i64 j, .slice A l.length cap] 24)).alloc (.cells #[.int .u64 nn, .string ss] 27)) := ((Below.refl _ w).alloc (Nat.le_refl _) _).alloc (by simp) _
  have hx := (Bx.new w 24 [.int .i64 c, .int .i64 j, .slice A l.length cap]).alloc (.cells #[.int .u64 nn, .string ss] 27)
  have hv := Bx.new (w.alloc (.cells #[.int .i64 c, .int .i64 j, .slice A l.length cap] 24)) 27 [.int .u64 nn, .string ss]
  rw [World.size_alloc] at hv
  have hSh := mshown_any _ (hw.below hb0)
  go_enter Tryd.func3, Tryd.ntmps3
  go_wp2_with fail
  refine hSh.mono ?_
  rintro e w9 ⟨rfl, hb1⟩
  have hb9 := hb0.trans (hb1.mono hb0.size)
  have x9 := hx.kept hb1
  have y9 := hv.kept hb1
  have hA9 := hA.below hb9
  have hbs := hb9.size
  clear hSh hb0 hb1 hx hv hA hw
  have keep : ∀ w', Below w9.heap.size w9 w' → w'.cell? ⟨w.heap.size, 0, none⟩ = some (.int .i64 c) ∧ w'.cell? ⟨w.heap.size, 1, none⟩ = some (.int .i64 j) ∧ w'.cell? ⟨w.heap.size, 2, none⟩ = some (.slice A l.length cap) ∧ w'.cell? ⟨w.heap.size + 1, 0, none⟩ = some (.int .u64 nn) ∧ w'.cell? ⟨w.heap.size + 1, 1, none⟩ = some (.string ss) := fun w' h => ⟨(x9.kept h).cell 0 (by simp), (x9.kept h).cell 1 (by simp), (x9.kept h).cell 2 (by simp), (y9.kept h).cell 0 (by simp), (y9.kept h).cell 1 (by simp)⟩
  obtain ⟨x0, x1, x2, y0, y1⟩ := keep w9 (Below.refl _ _)
  clear x9 y9
  go_wp2_with fail
  go_region_held3 (fun w' => w'.cell? ⟨w.heap.size, 0, none⟩ = some (.int .i64 c) ∧ w'.cell? ⟨w.heap.size, 1, none⟩ = some (.int .i64 j) ∧ w'.cell? ⟨w.heap.size, 2, none⟩ = some (.slice A l.length cap) ∧ w'.cell? ⟨w.heap.size + 1, 0, none⟩ = some (.int .u64 nn) ∧ w'.cell? ⟨w.heap.size + 1, 1, none⟩ = some (.string ss)) (first | (exact keep _ (Below.refl _ w9).drew) | (exact keep _ ⟨hq.os, hq.tape, hq.output, hq.size, hq.block⟩) | (exact keep _ (Below.trans ⟨hq.os, hq.tape, hq.output, hq.size, hq.block⟩ (hq2.mono hq.size))) | (exact keep _ (Below.trans (Below.trans ⟨hq.os, hq.tape, hq.output, hq.size, hq.block⟩ (hq2.mono hq.size)) (hq3.mono (Nat.le_trans hq.size hq2.size))))) (first | (go_at_call 12; refine (hWith _ (hA9.below (Below.refl _ w9).drew)).mono ?_; rintro e w10 ⟨A1, cap1, rfl, hV1, hn1, hq⟩) | (go_at_call 13; refine (hRWith _ (hA9.below ⟨hq.os, hq.tape, hq.output, hq.size, hq.block⟩)).mono ?_; rintro e w11 ⟨A2, cap2, rfl, hV2, hn2, hq2⟩) | (go_at_call 11; refine (hSame A1 A2 cap1 cap2 _ (hV1.below hq2) hV2).mono ?_; rintro e w12 ⟨rfl, hq3⟩))
  have hf : Below w9.heap.size w9 w12 := Below.trans (Below.trans ⟨hq.os, hq.tape, hq.output, hq.size, hq.block⟩ (hq2.mono hq.size)) (hq3.mono (Nat.le_trans hq.size hq2.size))
  have hA12 := hA9.below hf
  have hb12 := hb9.trans (hf.mono hbs)
  have hbs2 := hb12.size
  have keep2 : ∀ w', Below w12.heap.size w12 w' → w'.cell? ⟨w.heap.size, 0, none⟩ = some (.int .i64 c) ∧ w'.cell? ⟨w.heap.size, 1, none⟩ = some (.int .i64 j) ∧ w'.cell? ⟨w.heap.size, 2, none⟩ = some (.slice A l.length cap) ∧ w'.cell? ⟨w.heap.size + 1, 0, none⟩ = some (.int .u64 nn) ∧ w'.cell? ⟨w.heap.size + 1, 1, none⟩ = some (.string ss) := fun w' h => keep w' (hf.trans (h.mono hf.size))
  obtain ⟨x0, x1, x2, y0, y1⟩ := keep w12 hf
  clear keep hf hq hq2 hq3 hV1 hV2 hn1 hn2 hA9 hb9 hbs hWith hRWith hSame
  go_wp2_with fail
  go_region_held3 (fun w' => w'.cell? ⟨w.heap.size, 0, none⟩ = some (.int .i64 c) ∧ w'.cell? ⟨w.heap.size, 1, none⟩ = some (.int .i64 j) ∧ w'.cell? ⟨w.heap.size, 2, none⟩ = some (.slice A l.length cap) ∧ w'.cell? ⟨w.heap.size + 1, 0, none⟩ = some (.int .u64 nn) ∧ w'.cell? ⟨w.heap.size + 1, 1, none⟩ = some (.string ss)) (first | (exact keep2 _ (Below.refl _ w12).drew) | (exact keep2 _ ⟨hr.os, hr.tape, hr.output, hr.size, hr.block⟩) | (exact keep2 _ (Below.trans ⟨hr.os, hr.tape, hr.output, hr.size, hr.block⟩ (hr2.mono hr.size)))) (first | (go_at_call 14; refine (hArg _ (hA12.below (Below.refl _ w12).drew)).mono ?_; rintro e w13 ⟨rfl, hr⟩) | (go_at_call 15; refine (hRArg _ (hA12.below ⟨hr.os, hr.tape, hr.output, hr.size, hr.block⟩)).mono ?_; rintro e w14 ⟨rfl, hr2⟩))
  have hf : Below w12.heap.size w12 w14 := Below.trans ⟨hr.os, hr.tape, hr.output, hr.size, hr.block⟩ (hr2.mono hr.size)
  have hb14 := hb12.trans (hf.mono hbs2)
  clear hr hr2 hf hArg hRArg keep2 hA12
  go_wp2
  go_ret
  exact ⟨rfl, hb14⟩
end Go.Proofs.YtmpfkommeakgbaaDoor
