/-
  serve.Right, Begin, Greet and Empty answer as plain functions say; nothing that was there is changed. No condition.
-/
import Derived.Deep.RegionHeld3
import Derived.Test.YtkdiccedkjbpeaaGreatDoorRKF
import Derived.Test.YtkdiccedkjbpeaaGreatDoorRKD
namespace Go.Proofs.YtkdiccedkjbpeaaGreatDoorR
open Go.RowKit

def hBegin (c f b : Int) : Hd := if tRight c f b = true then ⟨0, c, f, b, ⟨#[]⟩, ⟨#[]⟩, ⟨#[]⟩⟩ else hd0
def emptyS : ByteArray := ⟨#[0, 0, 0, 0]⟩
def enS : ByteArray := ⟨#[101, 110, 95, 85, 83]⟩
def hGreet (h : Hd) : Tn := if h.st = 0 then hSay h 1 10 [numV 0, numV 9, wordV emptyS, wordV plainS, wordV enS] else hRefuse h 8
set_option maxRecDepth 100000 in
set_option maxHeartbeats 2000000 in
theorem begin_ok (c f b : Int) (w : World) (hq : tRight c f b = true) : Calls Tryz.prog 7 #[.agg #[.int .i64 c, .int .i64 f, .int .i64 b]] w fun e w' => e = .returned (.tuple #[encHd (hBegin c f b), .int .i64 (if tRight c f b = true then 0 else 1)]) ∧ Below w.heap.size w w' := by
  obtain ⟨W0, hW0⟩ : ∃ W0, W0 = (w.alloc (.cells #[.int .i64 c, .int .i64 f, .int .i64 b] 23)).alloc (.cells #[.int .i64 0, .int .i64 0, .int .i64 0, .int .i64 0, .string ⟨#[]⟩, .string ⟨#[]⟩, .string ⟨#[]⟩] 28) := ⟨_, rfl⟩
  have hb0 : Below w.heap.size w W0 := by rw [hW0]; exact ((Below.refl _ w).alloc (Nat.le_refl _) _).alloc (by simp) _
  have hx : Bx W0 w.heap.size 23 [.int .i64 c, .int .i64 f, .int .i64 b] := by rw [hW0]; exact (Bx.new w 23 [.int .i64 c, .int .i64 f, .int .i64 b]).alloc _
  have hr : Bx W0 (w.heap.size + 1) 28 [.int .i64 0, .int .i64 0, .int .i64 0, .int .i64 0, .string ⟨#[]⟩, .string ⟨#[]⟩, .string ⟨#[]⟩] := by
    have h := Bx.new (w.alloc (.cells #[.int .i64 c, .int .i64 f, .int .i64 b] 23)) 28 [.int .i64 0, .int .i64 0, .int .i64 0, .int .i64 0, .string ⟨#[]⟩, .string ⟨#[]⟩, .string ⟨#[]⟩]
    rw [World.size_alloc] at h
    rw [hW0]; exact h
  have hC := sRight_any c f b W0
  obtain ⟨r, HG⟩ : ∃ r, Hid (r = hBegin c f b) := ⟨_, Lib.hid rfl⟩
  rw [← HG.out]
  have HF : Hid (r = if tRight c f b = true then ⟨0, c, f, b, ⟨#[]⟩, ⟨#[]⟩, ⟨#[]⟩⟩ else hd0) := Lib.hid HG.out
  clear HG
  generalize tRight c f b = q at *
  unfold encHd
  go_enter Tryz.func7, Tryz.ntmps7
  go_wp2_with fail
  rw [← hW0]
  clear hW0
  with_reducible refine hC.mono ?_
  rintro e w1 ⟨rfl, hb1⟩
  have hB := hb0.trans (hb1.mono hb0.size)
  replace hx := hx.kept hb1
  replace hr := hr.kept hb1
  obtain ⟨x0, x1, x2⟩ := hx.three
  clear hC hb0 hb1 hx
  have HG : Hid (r = ⟨0, c, f, b, ⟨#[]⟩, ⟨#[]⟩, ⟨#[]⟩⟩) := Lib.hid (by rw [HF.out, hq]; rfl)
  subst hq
  clear HF
  obtain ⟨a0, f0, a1, f1, a2, f2, a3, f3, a4, f4, a5, f5, a6, f6, bR⟩ := hr.store7 (.int .i64 0) (.int .i64 c) (.int .i64 f) (.int .i64 b) (.string ⟨#[]⟩) (.string ⟨#[]⟩) (.string ⟨#[]⟩)
  have hBz := below_store7 hB (B := w.heap.size + 1) (by omega) (.int .i64 0) (.int .i64 c) (.int .i64 f) (.int .i64 b) (.string ⟨#[]⟩) (.string ⟨#[]⟩) (.string ⟨#[]⟩)
  obtain ⟨y0, y1, y2, y3, y4, y5, y6⟩ := bR.seven
  clear bR hr hB
  go_wp2
  refine bodyPost_ret (v := .tuple #[.agg #[.int .i64 0, .int .i64 c, .int .i64 f, .int .i64 b, .string ⟨#[]⟩, .string ⟨#[]⟩, .string ⟨#[]⟩], .int .i64 0]) ?_ rfl ⟨by rw [HG.out] <;> rfl, hBz⟩
  rw [sResults_ct rfl]
  simp [asAddr, Result.andThen, go_sem, y0, y1, y2, y3, y4, y5, y6]
theorem empty_any (w : World) : Calls Tryz.prog 57 #[] w fun e w' => e = .returned (.string emptyS) ∧ w = w' := by
  go_enter Tryz.func57, Tryz.ntmps57
  go_wp2
  go_ret
  exact ⟨rfl, rfl⟩
set_option maxRecDepth 100000 in
set_option maxHeartbeats 4000000 in
theorem greet_any (h : Hd) (w : World) : Calls Tryz.prog 9 #[encHd h] w (TnPost (hGreet h) w) := by
  obtain ⟨st, ch, fr, bt, us, wo, ho⟩ := h
  unfold encHd
  dsimp only
  obtain ⟨r, HG0⟩ : ∃ r, Hid (r = hGreet ⟨st, ch, fr, bt, us, wo, ho⟩) := ⟨_, Lib.hid rfl⟩
  rw [← HG0.out]
  unfold TnPost
  have HF : Hid (r = if st = 0 then hSay ⟨st, ch, fr, bt, us, wo, ho⟩ 1 10 [numV 0, numV 9, wordV emptyS, wordV plainS, wordV enS] else hRefuse ⟨st, ch, fr, bt, us, wo, ho⟩ 8) := Lib.hid HG0.out
  clear HG0
  obtain ⟨W0, hW0⟩ : ∃ W0, W0 = (w.alloc (.cells #[.int .i64 st, .int .i64 ch, .int .i64 fr, .int .i64 bt, .string us, .string wo, .string ho] 28)).alloc (.cells #[.int .i64 0, .int .i64 0, .int .i64 0, .int .i64 0, .string ⟨#[]⟩, .string ⟨#[]⟩, .string ⟨#[]⟩] 28) := ⟨_, rfl⟩
  have hb0 : Below w.heap.size w W0 := by rw [hW0]; exact ((Below.refl _ w).alloc (Nat.le_refl _) _).alloc (by simp) _
  have hx : Bx W0 w.heap.size 28 [.int .i64 st, .int .i64 ch, .int .i64 fr, .int .i64 bt, .string us, .string wo, .string ho] := by rw [hW0]; exact (Bx.new w 28 [.int .i64 st, .int .i64 ch, .int .i64 fr, .int .i64 bt, .string us, .string wo, .string ho]).alloc _
  have hr : Bx W0 (w.heap.size + 1) 28 [.int .i64 0, .int .i64 0, .int .i64 0, .int .i64 0, .string ⟨#[]⟩, .string ⟨#[]⟩, .string ⟨#[]⟩] := by
    have h := Bx.new (w.alloc (.cells #[.int .i64 st, .int .i64 ch, .int .i64 fr, .int .i64 bt, .string us, .string wo, .string ho] 28)) 28 [.int .i64 0, .int .i64 0, .int .i64 0, .int .i64 0, .string ⟨#[]⟩, .string ⟨#[]⟩, .string ⟨#[]⟩]
    rw [World.size_alloc] at h
    rw [hW0]; exact h
  obtain ⟨x0, x1, x2, x3, x4, x5, x6⟩ := hx.seven
  have hlt := hr.lt
  by_cases h0 : st = 0
  · have HG : Hid (r = hSay ⟨st, ch, fr, bt, us, wo, ho⟩ 1 10 [numV 0, numV 9, wordV emptyS, wordV plainS, wordV enS]) := Lib.hid (by rw [HF.out, if_pos h0])
    clear HF
    have hN0 := fun W => sNumber_any 0 W
    have hN1 := fun W => sNumber_any 9 W
    have hN2 := fun W => sWord_any emptyS W
    have hN3 := fun W => sWord_any plainS W
    have hN4 := fun W => sWord_any enS W
    generalize numV 0 = v0 at hN0 HG
    generalize numV 9 = v1 at hN1 HG
    generalize wordV emptyS = v2 at hN2 HG
    generalize wordV plainS = v3 at hN3 HG
    generalize wordV enS = v4 at hN4 HG
    obtain ⟨n0, s0⟩ := v0
    obtain ⟨n1, s1⟩ := v1
    obtain ⟨n2, s2⟩ := v2
    obtain ⟨n3, s3⟩ := v3
    obtain ⟨n4, s4⟩ := v4
    unfold encV at hN0 hN1 hN2 hN3 hN4
    unfold emptyS at hN2
    unfold plainS at hN3
    unfold enS at hN4
    try dsimp only at hN0 hN1 hN2 hN3 hN4
    subst h0
    go_enter Tryz.func9, Tryz.ntmps9
    go_upto_region 1 with fail
    rw [← hW0]
    clear hW0
    go_upto_region 3 with fail
    clear x0 x1 x2 x3 x4 x5 x6
    have keep : ∀ w', Below W0.heap.size W0 w' → w'.cell? ⟨w.heap.size, 0, none⟩ = some (.int .i64 0) ∧ w'.cell? ⟨w.heap.size, 1, none⟩ = some (.int .i64 ch) ∧ w'.cell? ⟨w.heap.size, 2, none⟩ = some (.int .i64 fr) ∧ w'.cell? ⟨w.heap.size, 3, none⟩ = some (.int .i64 bt) ∧ w'.cell? ⟨w.heap.size, 4, none⟩ = some (.string us) ∧ w'.cell? ⟨w.heap.size, 5, none⟩ = some (.string wo) ∧ w'.cell? ⟨w.heap.size, 6, none⟩ = some (.string ho) := fun w' h => (hx.kept h).seven
    have hSa : ∀ w4, Below W0.heap.size W0 w4 → _ := fun w4 (h : Below W0.heap.size W0 w4) => say_any ⟨0, ch, fr, bt, us, wo, ho⟩ 1 10 (some ⟨w4.heap.size, 0, none⟩) [⟨n0, s0⟩, ⟨n1, s1⟩, ⟨n2, s2⟩, ⟨n3, s3⟩, ⟨n4, s4⟩] 5 5 (w.heap.size + 1 + 1) (w4.alloc (.cells #[.int .u64 n0, .string s0, .int .u64 n1, .string s1, .int .u64 n2, .string s2, .int .u64 n3, .string s3, .int .u64 n4, .string s4] 51)) rfl (.inr ⟨_, rfl, by have := h.size; omega, Bx.new w4 51 [.int .u64 n0, .string s0, .int .u64 n1, .string s1, .int .u64 n2, .string s2, .int .u64 n3, .string s3, .int .u64 n4, .string s4]⟩) (by have := h.size; rw [World.size_alloc]; omega)
    unfold encHd at hSa
    dsimp only at hSa
    go_region_held3 (fun w' => w'.cell? ⟨w.heap.size, 0, none⟩ = some (.int .i64 0) ∧ w'.cell? ⟨w.heap.size, 1, none⟩ = some (.int .i64 ch) ∧ w'.cell? ⟨w.heap.size, 2, none⟩ = some (.int .i64 fr) ∧ w'.cell? ⟨w.heap.size, 3, none⟩ = some (.int .i64 bt) ∧ w'.cell? ⟨w.heap.size, 4, none⟩ = some (.string us) ∧ w'.cell? ⟨w.heap.size, 5, none⟩ = some (.string wo) ∧ w'.cell? ⟨w.heap.size, 6, none⟩ = some (.string ho)) (first | (with_reducible exact keep _ hf6) | (with_reducible exact hx5.seven) | (with_reducible exact keep _ (hf5.alloc hf5.size _)) | (with_reducible exact keep _ hf5) | (with_reducible exact keep _ hf4) | (with_reducible exact keep _ hf3) | (with_reducible exact keep _ hf2) | (with_reducible exact keep _ hf1) | (with_reducible exact keep _ (Below.refl _ W0).drew)) (first | (go_at_call 19; refine (hN0 _).mono ?_; rintro e w1 ⟨rfl, hr1⟩; have hf1 : Below W0.heap.size W0 w1 := ⟨hr1.os, hr1.tape, hr1.output, hr1.size, hr1.block⟩) | (go_at_call 19; refine (hN1 _).mono ?_; rintro e w2 ⟨rfl, hr2⟩; have hf2 : Below W0.heap.size W0 w2 := hf1.trans (hr2.mono hf1.size)) | (go_at_call 20; refine (hN2 _).mono ?_; rintro e w3 ⟨rfl, hr3⟩; have hf3 : Below W0.heap.size W0 w3 := hf2.trans (hr3.mono hf2.size)) | (go_at_call 20; refine (hN3 _).mono ?_; rintro e w4 ⟨rfl, hr4⟩; have hf4 : Below W0.heap.size W0 w4 := hf3.trans (hr4.mono hf3.size)) | (go_at_call 20; refine (hN4 _).mono ?_; rintro e w5 ⟨rfl, hr5⟩; have hf5 : Below W0.heap.size W0 w5 := hf4.trans (hr5.mono hf4.size)) | (go_at_call 18; refine (hSa w5 hf5).mono ?_; rintro e w9 ⟨B9, rfl, hS, hr9⟩; have hf6 : Below W0.heap.size W0 w9 := (hf5.alloc hf5.size _).trans (hr9.mono (hf5.alloc hf5.size _).size); have hrz := hr.kept hf6; obtain ⟨a0, f0, a1, f1, a2, f2, a3, f3, a4, f4, a5, f5, a6, f6, bR⟩ := hrz.store7 (.int .i64 1) (.int .i64 ch) (.int .i64 fr) (.int .i64 bt) (.string us) (.string wo) (.string ho); have hx5 := (hx.kept hf6).other7 (B := w.heap.size + 1) (by omega) (.int .i64 1) (.int .i64 ch) (.int .i64 fr) (.int .i64 bt) (.string us) (.string wo) (.string ho)))
    have hB9 := hb0.trans (hf6.mono hb0.size)
    have hBz := below_store7 hB9 (B := w.heap.size + 1) (by omega) (.int .i64 1) (.int .i64 ch) (.int .i64 fr) (.int .i64 bt) (.string us) (.string wo) (.string ho)
    have HS := Lib.hid (SaidAt.store7 (w := w9) (n' := w.heap.size) hS (by omega) (B := w.heap.size + 1) (by omega) (.int .i64 1) (.int .i64 ch) (.int .i64 fr) (.int .i64 bt) (.string us) (.string wo) (.string ho))
    obtain ⟨y0, y1, y2, y3, y4, y5, y6⟩ := bR.seven
    go_wp2
    refine bodyPost_ret (v := .tuple #[.agg #[.int .i64 1, .int .i64 ch, .int .i64 fr, .int .i64 bt, .string us, .string wo, .string ho], .slice (some ⟨B9, 0, none⟩) 1 1, .int .i64 0]) ?_ rfl ⟨some ⟨B9, 0, none⟩, 1, 1, by rw [HG.out] <;> rfl, by rw [HG.out]; exact HS.out, hBz⟩
    rw [results_ctt rfl]
    simp [asAddr, Result.andThen, go_sem, y0, y1, y2, y3, y4, y5, y6]
  · have HG : Hid (r = hRefuse ⟨st, ch, fr, bt, us, wo, ho⟩ 8) := Lib.hid (by rw [HF.out, if_neg h0])
    clear HF
    have e1 : (st != 0) = true := bne_iff_ne.2 h0
    go_enter Tryz.func9, Tryz.ntmps9
    go_upto_region 1 with fail
    rw [← hW0]
    clear hW0
    obtain ⟨a0, f0, a1, f1, a2, f2, a3, f3, a4, f4, a5, f5, a6, f6, bR⟩ := hr.store7 (.int .i64 st) (.int .i64 ch) (.int .i64 fr) (.int .i64 bt) (.string us) (.string wo) (.string ho)
    have hBz := below_store7 hb0 (B := w.heap.size + 1) (by omega) (.int .i64 st) (.int .i64 ch) (.int .i64 fr) (.int .i64 bt) (.string us) (.string wo) (.string ho)
    obtain ⟨y0, y1, y2, y3, y4, y5, y6⟩ := bR.seven
    clear bR hr hx
    go_wp2
    first | refine bodyPost_ret (v := .tuple #[.agg #[.int .i64 st, .int .i64 ch, .int .i64 fr, .int .i64 bt, .string us, .string wo, .string ho], .slice none 0 0, .int .i64 8]) ?_ rfl ⟨none, 0, 0, by rw [HG.out] <;> rfl, by rw [HG.out]; exact ⟨rfl, rfl⟩, hBz⟩ | refine bodyPost_ret (v := .tuple #[.agg #[.int .i64 st, .int .i64 ch, .int .i64 fr, .int .i64 bt, .string us, .string wo, .string ho], .slice none 0 0, .int .i64 8]) ?_ rfl ⟨none, 0, ⟨0, by rw [HG.out] <;> rfl⟩, by rw [HG.out]; exact ⟨rfl, rfl⟩, hBz⟩
    rw [results_ctt rfl]
    simp [asAddr, Result.andThen, go_sem, y0, y1, y2, y3, y4, y5, y6]
end Go.Proofs.YtkdiccedkjbpeaaGreatDoorR
