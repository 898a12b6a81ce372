/-
  The document's example of chapter 10 comes out; nothing that was there is changed. Condition: the table of widths is as its text lays it.
-/
import Derived.Deep.RegionHeld3
import Derived.Test.YtebkolhibifbpaaGreatDoorWServe7
import Derived.Test.YtebkolhibifbpaaGreatDoorWServe8
namespace Go.Proofs.YtebkolhibifbpaaGreatDoor
open Go.RowKit

theorem said_parts {n : Nat} {w : World} {A : Option Addr} {k : Nat} {m : Me} (h : SaidAt n w A k (some m)) : k = 1 ∧ ∃ b A' c, A = some ⟨b, 0, none⟩ ∧ n ≤ b ∧ Bx w b 37 [.int .i64 m.c, .int .i64 m.i, .slice A' m.l.length c] ∧ RowAt n w A' m.l := h
theorem said_none {n : Nat} {w : World} {A : Option Addr} {k : Nat} (h : SaidAt n w A k none) : A = none ∧ k = 0 := h
def upS : ByteArray := ⟨#[0, 117, 0, 112]⟩
def shM : Me := ⟨10, 11, [⟨0, emptyS⟩, ⟨0, plainS⟩, ⟨0, upS⟩, ⟨0, enS⟩]⟩
theorem shown_begin : tRight 9 4096 5 = true := by decide
theorem shown_greet : ∃ L, hGreet ⟨0, 9, 4096, 5, ⟨#[]⟩, ⟨#[]⟩, ⟨#[]⟩⟩ = ⟨⟨1, 9, 4096, 5, ⟨#[]⟩, ⟨#[]⟩, ⟨#[]⟩⟩, some ⟨10, 10, L⟩, 0⟩ := ⟨_, by unfold hGreet; rw [if_pos rfl]; rfl⟩
theorem shown_right : mE shM = 0 := by kernel_rfl
theorem shown_pair : pairOk upS = true := by kernel_rfl
theorem shown_take : ∃ pa pb L, hTake ⟨1, 9, 4096, 5, ⟨#[]⟩, ⟨#[]⟩, ⟨#[]⟩⟩ shM = ⟨⟨2, 9, 4096, 5, pa, pb, ⟨#[]⟩⟩, some ⟨10, 30, L⟩, 0⟩ := by
  refine ⟨pairA upS, pairB upS, [numV 9, numV 4096, numV 5], ?_⟩
  unfold hTake
  rw [if_pos shown_right]
  dsimp only
  rw [if_neg (by decide), if_pos rfl]
  unfold hStart
  rw [if_pos (by rfl)]
  have e1 : (argV shM.l 1).s = plainS := rfl
  have e2 : (argV shM.l 2).s = upS := rfl
  rw [if_pos e1, e2, if_pos shown_pair]
  rfl
theorem shown_wf : wfM shM := by
  intro v hv
  simp only [shM, List.mem_cons, List.not_mem_nil, or_false] at hv
  rcases hv with rfl | rfl | rfl | rfl <;> exact ⟨by decide, by decide, by decide⟩
set_option maxRecDepth 100000 in
set_option maxHeartbeats 4000000 in
theorem shown_any (w : World) (hw : Wid w) : Calls Tryz.prog 5 #[] w fun e w' => e = .returned (.bool true) ∧ Below w.heap.size w w' := by
  have hBg := begin_ok 9 4096 5 w shown_begin
  unfold encHd hBegin at hBg
  rw [if_pos shown_begin, if_pos shown_begin] at hBg
  dsimp only at hBg
  obtain ⟨L1, hG1⟩ := shown_greet
  have hGr := fun W => greet_any ⟨0, 9, 4096, 5, ⟨#[]⟩, ⟨#[]⟩, ⟨#[]⟩⟩ W
  rw [hG1] at hGr
  unfold TnPost encHd at hGr
  dsimp only at hGr
  obtain ⟨pa, pb, L2, hT1⟩ := shown_take
  have hTk := fun A W (hW : Wid W) (hA : ValsAt W A (rowV shM.l)) => sTake_any ⟨1, 9, 4096, 5, ⟨#[]⟩, ⟨#[]⟩, ⟨#[]⟩⟩ shM A 4 W hW shown_wf hA
  rw [hT1] at hTk
  unfold TnPost encHd encM at hTk
  have eL : shM.l.length = 4 := rfl
  simp only [eL] at hTk
  dsimp only [shM] at hTk
  clear eL
  have eR : rowV [⟨0, emptyS⟩, ⟨0, plainS⟩, ⟨0, upS⟩, ⟨0, enS⟩] = [.int .u64 0, .string ⟨#[0, 0, 0, 0]⟩, .int .u64 0, .string ⟨#[80, 76, 65, 73, 78]⟩, .int .u64 0, .string ⟨#[0, 117, 0, 112]⟩, .int .u64 0, .string ⟨#[101, 110, 95, 85, 83]⟩] := rfl
  rw [eR] at hTk
  clear hG1 hT1 eR
  have hEm := fun W => empty_any W
  unfold emptyS at hEm
  go_enter Tryz.func5, Tryz.ntmps5
  go_wp2_with fail
  with_reducible refine hBg.mono ?_
  rintro e w1 ⟨rfl, hb1⟩
  clear hBg
  obtain ⟨W1, hW1⟩ : ∃ W1, W1 = w1.alloc (.cells #[.int .i64 0, .int .i64 9, .int .i64 4096, .int .i64 5, .string ⟨#[]⟩, .string ⟨#[]⟩, .string ⟨#[]⟩] 27) := ⟨_, rfl⟩
  have hb2 : Below w1.heap.size w1 W1 := by rw [hW1]; exact (Below.refl _ w1).alloc (Nat.le_refl _) _
  have hx : Bx W1 w1.heap.size 27 [.int .i64 0, .int .i64 9, .int .i64 4096, .int .i64 5, .string ⟨#[]⟩, .string ⟨#[]⟩, .string ⟨#[]⟩] := by rw [hW1]; exact Bx.new w1 _ _
  have hB := hb1.trans (hb2.mono hb1.size)
  have hl1 := hb1.size
  have hl2 := hx.lt
  clear hb1 hb2
  obtain ⟨x0, x1, x2, x3, x4, x5, x6⟩ := hx.seven
  go_upto_region 2 with fail
  rw [← hW1]
  clear hW1
  have hGr1 := hGr W1
  go_wp2_with fail
  with_reducible refine hGr1.mono ?_
  rintro e w2 ⟨A1, k1, c1, rfl, hS1, hb2⟩
  have hB2 := hB.trans (hb2.mono hB.size)
  replace hx := hx.kept hb2
  clear hGr hGr1 hB x0 x1 x2 x3 x4 x5 x6
  obtain ⟨a0, f0, a1, f1, a2, f2, a3, f3, a4, f4, a5, f5, a6, f6, bR⟩ := hx.store7 (.int .i64 1) (.int .i64 9) (.int .i64 4096) (.int .i64 5) (.string ⟨#[]⟩) (.string ⟨#[]⟩) (.string ⟨#[]⟩)
  obtain ⟨W2, hW2⟩ : ∃ W2, W2 = (((((((w2.setCell ⟨w1.heap.size, 0, none⟩ (.int .i64 1)).setCell ⟨w1.heap.size, 1, none⟩ (.int .i64 9)).setCell ⟨w1.heap.size, 2, none⟩ (.int .i64 4096)).setCell ⟨w1.heap.size, 3, none⟩ (.int .i64 5)).setCell ⟨w1.heap.size, 4, none⟩ (.string ⟨#[]⟩)).setCell ⟨w1.heap.size, 5, none⟩ (.string ⟨#[]⟩)).setCell ⟨w1.heap.size, 6, none⟩ (.string ⟨#[]⟩)) := ⟨_, rfl⟩
  have hS2 := hS1.store7 (n' := 0) (by omega) (B := w1.heap.size) (by omega) (.int .i64 1) (.int .i64 9) (.int .i64 4096) (.int .i64 5) (.string ⟨#[]⟩) (.string ⟨#[]⟩) (.string ⟨#[]⟩)
  have hB3 := below_store7 hB2 (B := w1.heap.size) hl1 (.int .i64 1) (.int .i64 9) (.int .i64 4096) (.int .i64 5) (.string ⟨#[]⟩) (.string ⟨#[]⟩) (.string ⟨#[]⟩)
  rw [← hW2] at bR hS2 hB3
  go_upto_region 3 with fail
  rw [← hW2]
  clear hW2 a0 f0 a1 f1 a2 f2 a3 f3 a4 f4 a5 f5 a6 f6 hx hS1 hb2 hB2
  obtain ⟨hk1, b1, A1', c1', rfl, hn1, bx1, -⟩ := hS2
  subst hk1
  have keep : ∀ w', Below W2.heap.size W2 w' → w'.cell? ⟨w1.heap.size, 0, none⟩ = some (.int .i64 1) ∧ w'.cell? ⟨w1.heap.size, 1, none⟩ = some (.int .i64 9) ∧ w'.cell? ⟨w1.heap.size, 2, none⟩ = some (.int .i64 4096) ∧ w'.cell? ⟨w1.heap.size, 3, none⟩ = some (.int .i64 5) ∧ w'.cell? ⟨w1.heap.size, 4, none⟩ = some (.string ⟨#[]⟩) ∧ w'.cell? ⟨w1.heap.size, 5, none⟩ = some (.string ⟨#[]⟩) ∧ w'.cell? ⟨w1.heap.size, 6, none⟩ = some (.string ⟨#[]⟩) := fun w' h => (bR.kept h).seven
  have hlW := hB3.size
  have hq1 : Below W2.heap.size W2 (W2.alloc (.cells #[.int .u64 0, .string ⟨#[0, 0, 0, 0]⟩, .int .u64 0, .string ⟨#[80, 76, 65, 73, 78]⟩, .int .u64 0, .string ⟨#[0, 117, 0, 112]⟩, .int .u64 0, .string ⟨#[101, 110, 95, 85, 83]⟩] 44)).drew := ((Below.refl _ W2).alloc (Nat.le_refl _) _).drew
  have hq2 : Below W2.heap.size W2 ((W2.alloc (.cells #[.int .i64 0, .int .i64 0, .int .i64 0, .int .i64 0, .string ⟨#[]⟩, .string ⟨#[]⟩, .string ⟨#[]⟩] 27)).alloc (.cells #[.int .u64 0, .string ⟨#[0, 0, 0, 0]⟩, .int .u64 0, .string ⟨#[80, 76, 65, 73, 78]⟩, .int .u64 0, .string ⟨#[0, 117, 0, 112]⟩, .int .u64 0, .string ⟨#[101, 110, 95, 85, 83]⟩] 44)).drew := (((Below.refl _ W2).alloc (Nat.le_refl _) _).alloc (by simp) _).drew
  have hq3 : Below W2.heap.size W2 ((W2.alloc (.cells #[.int .u64 0, .string ⟨#[0, 0, 0, 0]⟩, .int .u64 0, .string ⟨#[80, 76, 65, 73, 78]⟩, .int .u64 0, .string ⟨#[0, 117, 0, 112]⟩, .int .u64 0, .string ⟨#[101, 110, 95, 85, 83]⟩] 44)).alloc (.cells #[.int .i64 0, .int .i64 0, .int .i64 0, .int .i64 0, .string ⟨#[]⟩, .string ⟨#[]⟩, .string ⟨#[]⟩] 27)).drew := (((Below.refl _ W2).alloc (Nat.le_refl _) _).alloc (by simp) _).drew
  have hv1 : Bx (W2.alloc (.cells #[.int .u64 0, .string ⟨#[0, 0, 0, 0]⟩, .int .u64 0, .string ⟨#[80, 76, 65, 73, 78]⟩, .int .u64 0, .string ⟨#[0, 117, 0, 112]⟩, .int .u64 0, .string ⟨#[101, 110, 95, 85, 83]⟩] 44)).drew W2.heap.size 44 [.int .u64 0, .string ⟨#[0, 0, 0, 0]⟩, .int .u64 0, .string ⟨#[80, 76, 65, 73, 78]⟩, .int .u64 0, .string ⟨#[0, 117, 0, 112]⟩, .int .u64 0, .string ⟨#[101, 110, 95, 85, 83]⟩] := Bx.new W2 44 [.int .u64 0, .string ⟨#[0, 0, 0, 0]⟩, .int .u64 0, .string ⟨#[80, 76, 65, 73, 78]⟩, .int .u64 0, .string ⟨#[0, 117, 0, 112]⟩, .int .u64 0, .string ⟨#[101, 110, 95, 85, 83]⟩]
  have hv2 : Bx ((W2.alloc (.cells #[.int .i64 0, .int .i64 0, .int .i64 0, .int .i64 0, .string ⟨#[]⟩, .string ⟨#[]⟩, .string ⟨#[]⟩] 27)).alloc (.cells #[.int .u64 0, .string ⟨#[0, 0, 0, 0]⟩, .int .u64 0, .string ⟨#[80, 76, 65, 73, 78]⟩, .int .u64 0, .string ⟨#[0, 117, 0, 112]⟩, .int .u64 0, .string ⟨#[101, 110, 95, 85, 83]⟩] 44)).drew (W2.heap.size + 1) 44 [.int .u64 0, .string ⟨#[0, 0, 0, 0]⟩, .int .u64 0, .string ⟨#[80, 76, 65, 73, 78]⟩, .int .u64 0, .string ⟨#[0, 117, 0, 112]⟩, .int .u64 0, .string ⟨#[101, 110, 95, 85, 83]⟩] := by
    have h := Bx.new (W2.alloc (.cells #[.int .i64 0, .int .i64 0, .int .i64 0, .int .i64 0, .string ⟨#[]⟩, .string ⟨#[]⟩, .string ⟨#[]⟩] 27)) 44 [.int .u64 0, .string ⟨#[0, 0, 0, 0]⟩, .int .u64 0, .string ⟨#[80, 76, 65, 73, 78]⟩, .int .u64 0, .string ⟨#[0, 117, 0, 112]⟩, .int .u64 0, .string ⟨#[101, 110, 95, 85, 83]⟩]
    rw [World.size_alloc] at h
    exact h
  have hv3 : Bx ((W2.alloc (.cells #[.int .u64 0, .string ⟨#[0, 0, 0, 0]⟩, .int .u64 0, .string ⟨#[80, 76, 65, 73, 78]⟩, .int .u64 0, .string ⟨#[0, 117, 0, 112]⟩, .int .u64 0, .string ⟨#[101, 110, 95, 85, 83]⟩] 44)).alloc (.cells #[.int .i64 0, .int .i64 0, .int .i64 0, .int .i64 0, .string ⟨#[]⟩, .string ⟨#[]⟩, .string ⟨#[]⟩] 27)).drew W2.heap.size 44 [.int .u64 0, .string ⟨#[0, 0, 0, 0]⟩, .int .u64 0, .string ⟨#[80, 76, 65, 73, 78]⟩, .int .u64 0, .string ⟨#[0, 117, 0, 112]⟩, .int .u64 0, .string ⟨#[101, 110, 95, 85, 83]⟩] := (Bx.new W2 44 [.int .u64 0, .string ⟨#[0, 0, 0, 0]⟩, .int .u64 0, .string ⟨#[80, 76, 65, 73, 78]⟩, .int .u64 0, .string ⟨#[0, 117, 0, 112]⟩, .int .u64 0, .string ⟨#[101, 110, 95, 85, 83]⟩]).alloc (.cells #[.int .i64 0, .int .i64 0, .int .i64 0, .int .i64 0, .string ⟨#[]⟩, .string ⟨#[]⟩, .string ⟨#[]⟩] 27)
  have hz2 : Bx ((W2.alloc (.cells #[.int .i64 0, .int .i64 0, .int .i64 0, .int .i64 0, .string ⟨#[]⟩, .string ⟨#[]⟩, .string ⟨#[]⟩] 27)).alloc (.cells #[.int .u64 0, .string ⟨#[0, 0, 0, 0]⟩, .int .u64 0, .string ⟨#[80, 76, 65, 73, 78]⟩, .int .u64 0, .string ⟨#[0, 117, 0, 112]⟩, .int .u64 0, .string ⟨#[101, 110, 95, 85, 83]⟩] 44)).drew W2.heap.size 27 [.int .i64 0, .int .i64 0, .int .i64 0, .int .i64 0, .string ⟨#[]⟩, .string ⟨#[]⟩, .string ⟨#[]⟩] := (Bx.new W2 27 [.int .i64 0, .int .i64 0, .int .i64 0, .int .i64 0, .string ⟨#[]⟩, .string ⟨#[]⟩, .string ⟨#[]⟩]).alloc (.cells #[.int .u64 0, .string ⟨#[0, 0, 0, 0]⟩, .int .u64 0, .string ⟨#[80, 76, 65, 73, 78]⟩, .int .u64 0, .string ⟨#[0, 117, 0, 112]⟩, .int .u64 0, .string ⟨#[101, 110, 95, 85, 83]⟩] 44)
  have hz3 : Bx ((W2.alloc (.cells #[.int .u64 0, .string ⟨#[0, 0, 0, 0]⟩, .int .u64 0, .string ⟨#[80, 76, 65, 73, 78]⟩, .int .u64 0, .string ⟨#[0, 117, 0, 112]⟩, .int .u64 0, .string ⟨#[101, 110, 95, 85, 83]⟩] 44)).alloc (.cells #[.int .i64 0, .int .i64 0, .int .i64 0, .int .i64 0, .string ⟨#[]⟩, .string ⟨#[]⟩, .string ⟨#[]⟩] 27)).drew (W2.heap.size + 1) 27 [.int .i64 0, .int .i64 0, .int .i64 0, .int .i64 0, .string ⟨#[]⟩, .string ⟨#[]⟩, .string ⟨#[]⟩] := by
    have h := Bx.new (W2.alloc (.cells #[.int .u64 0, .string ⟨#[0, 0, 0, 0]⟩, .int .u64 0, .string ⟨#[80, 76, 65, 73, 78]⟩, .int .u64 0, .string ⟨#[0, 117, 0, 112]⟩, .int .u64 0, .string ⟨#[101, 110, 95, 85, 83]⟩] 44)) 27 [.int .i64 0, .int .i64 0, .int .i64 0, .int .i64 0, .string ⟨#[]⟩, .string ⟨#[]⟩, .string ⟨#[]⟩]
    rw [World.size_alloc] at h
    exact h
  have hva : ∀ W B, Bx W B 44 [.int .u64 0, .string ⟨#[0, 0, 0, 0]⟩, .int .u64 0, .string ⟨#[80, 76, 65, 73, 78]⟩, .int .u64 0, .string ⟨#[0, 117, 0, 112]⟩, .int .u64 0, .string ⟨#[101, 110, 95, 85, 83]⟩] → ValsAt W (some ⟨B, 0, none⟩) [.int .u64 0, .string ⟨#[0, 0, 0, 0]⟩, .int .u64 0, .string ⟨#[80, 76, 65, 73, 78]⟩, .int .u64 0, .string ⟨#[0, 117, 0, 112]⟩, .int .u64 0, .string ⟨#[101, 110, 95, 85, 83]⟩] := fun W B h _ => ⟨B, 0, rfl, h.lt, fun i hi => by rw [Nat.zero_add]; exact h.cell i hi⟩
  have hT1 := hTk _ _ (hw.below (hB3.trans (hq1.mono hlW))) (hva _ _ hv1)
  have hT2 := hTk _ _ (hw.below (hB3.trans (hq2.mono hlW))) (hva _ _ hv2)
  have hT3 := hTk _ _ (hw.below (hB3.trans (hq3.mono hlW))) (hva _ _ hv3)
  have hg1 := hq1.size
  have hg2 := hq2.size
  have hg3 : W2.heap.size + 1 < (((W2.alloc (.cells #[.int .u64 0, .string ⟨#[0, 0, 0, 0]⟩, .int .u64 0, .string ⟨#[80, 76, 65, 73, 78]⟩, .int .u64 0, .string ⟨#[0, 117, 0, 112]⟩, .int .u64 0, .string ⟨#[101, 110, 95, 85, 83]⟩] 44)).alloc (.cells #[.int .i64 0, .int .i64 0, .int .i64 0, .int .i64 0, .string ⟨#[]⟩, .string ⟨#[]⟩, .string ⟨#[]⟩] 27)).drew).heap.size := hz3.lt
  have hg4 : W2.heap.size < (((W2.alloc (.cells #[.int .i64 0, .int .i64 0, .int .i64 0, .int .i64 0, .string ⟨#[]⟩, .string ⟨#[]⟩, .string ⟨#[]⟩] 27)).alloc (.cells #[.int .u64 0, .string ⟨#[0, 0, 0, 0]⟩, .int .u64 0, .string ⟨#[80, 76, 65, 73, 78]⟩, .int .u64 0, .string ⟨#[0, 117, 0, 112]⟩, .int .u64 0, .string ⟨#[101, 110, 95, 85, 83]⟩] 44)).drew).heap.size := hz2.lt
  clear hTk hva hv1 hv2 hv3 hw
  go_cut [6, 7] (fun l g wx => g = .int .i64 0 ∧ (∃ b A c c2, l = .slice (some ⟨b, 0, none⟩) 1 c2 ∧ Bx wx b 37 [.int .i64 10, .int .i64 30, .slice A L2.length c]) ∧ Below W2.heap.size W2 wx)
  case first =>
    go_region_held3 (fun w' => w'.cell? ⟨w1.heap.size, 0, none⟩ = some (.int .i64 1) ∧ w'.cell? ⟨w1.heap.size, 1, none⟩ = some (.int .i64 9) ∧ w'.cell? ⟨w1.heap.size, 2, none⟩ = some (.int .i64 4096) ∧ w'.cell? ⟨w1.heap.size, 3, none⟩ = some (.int .i64 5) ∧ w'.cell? ⟨w1.heap.size, 4, none⟩ = some (.string ⟨#[]⟩) ∧ w'.cell? ⟨w1.heap.size, 5, none⟩ = some (.string ⟨#[]⟩) ∧ w'.cell? ⟨w1.heap.size, 6, none⟩ = some (.string ⟨#[]⟩)) (first | (with_reducible exact keep _ hf) | (with_reducible exact keep _ hfS) | (with_reducible exact keep _ (hf.alloc hf.size _)) | (with_reducible exact keep _ hq1) | (with_reducible exact keep _ hq2) | (with_reducible exact keep _ hq3) | (with_reducible exact keep _ (Below.refl _ W2).drew) | (with_reducible exact keep _ ((Below.refl _ W2).alloc (Nat.le_refl _) _).drew)) (first | (go_at_call 11; refine (hEm _).mono ?_; rintro e we ⟨rfl, rfl⟩) | (go_at_call 9; with_reducible refine hT1.mono ?_; rintro e w9 ⟨A9, k9, c9, rfl, hS, hr9⟩; have hf : Below W2.heap.size W2 w9 := hq1.trans (hr9.mono hq1.size); obtain ⟨rfl, b9, A9', c9', rfl, hn9, bx9, -⟩ := said_parts hS) | (go_at_call 9; with_reducible refine hT2.mono ?_; rintro e w9 ⟨A9, k9, c9, rfl, hS, hr9⟩; have hf : Below W2.heap.size W2 w9 := hq2.trans (hr9.mono hq2.size); obtain ⟨rfl, b9, A9', c9', rfl, hn9, bx9, -⟩ := said_parts hS; obtain ⟨a0, f0, a1, f1, a2, f2, a3, f3, a4, f4, a5, f5, a6, f6, bS⟩ := (hz2.kept hr9).store7 (.int .i64 2) (.int .i64 9) (.int .i64 4096) (.int .i64 5) (.string pa) (.string pb) (.string ⟨#[]⟩); have hfS := below_store7 hf (B := W2.heap.size) (Nat.le_refl _) (.int .i64 2) (.int .i64 9) (.int .i64 4096) (.int .i64 5) (.string pa) (.string pb) (.string ⟨#[]⟩)) | (go_at_call 9; with_reducible refine hT3.mono ?_; rintro e w9 ⟨A9, k9, c9, rfl, hS, hr9⟩; have hf : Below W2.heap.size W2 w9 := hq3.trans (hr9.mono hq3.size); obtain ⟨rfl, b9, A9', c9', rfl, hn9, bx9, -⟩ := said_parts hS; obtain ⟨a0, f0, a1, f1, a2, f2, a3, f3, a4, f4, a5, f5, a6, f6, bS⟩ := (hz3.kept hr9).store7 (.int .i64 2) (.int .i64 9) (.int .i64 4096) (.int .i64 5) (.string pa) (.string pb) (.string ⟨#[]⟩); have hfS := below_store7 hf (B := W2.heap.size + 1) (by omega) (.int .i64 2) (.int .i64 9) (.int .i64 4096) (.int .i64 5) (.string pa) (.string pb) (.string ⟨#[]⟩)))
    all_goals
      go_wp2_with fail
      go_meet
      case rel => first | (have hfT := hfS; exact ⟨rfl, ⟨_, _, _, _, rfl, bx9.other7 (by omega) (.int .i64 2) (.int .i64 9) (.int .i64 4096) (.int .i64 5) (.string pa) (.string pb) (.string ⟨#[]⟩)⟩, hfT⟩) | exact ⟨rfl, ⟨_, _, _, _, rfl, bx9.alloc _⟩, hf.alloc hf.size _⟩
  case rest =>
    obtain ⟨rfl, ⟨b, A, c, c2, rfl, bx⟩, hc⟩ := hcut
    obtain ⟨m0, m1, m2⟩ := (bx1.kept hc).three
    obtain ⟨n0, n1, n2⟩ := bx.three
    have hBz := hB3.trans (hc.mono hlW)
    clear hq1 hq2 hq3 hz2 hz3 hT1 hT2 hT3 hEm keep bR bx bx1 hg1 hg2 hg3 hg4 hc hB3
    go_wp2
    go_ret
    exact ⟨rfl, hBz⟩
end Go.Proofs.YtebkolhibifbpaaGreatDoor
