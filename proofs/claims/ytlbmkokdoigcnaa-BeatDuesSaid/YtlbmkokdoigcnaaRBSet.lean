/-
  interchangeref12.Set: as the program's is. Nothing that was there is changed. Conditions: less than a million places; the row lies in old memory.
-/
import Derived.Test.YtlbmkokdoigcnaaRBDrop
namespace Go.Proofs.Ytlbmkokdoigcnaa
open Go.RowKit Go.Shelf

set_option maxRecDepth 100000 in
set_option maxHeartbeats 8000000 in
theorem rset_any (A : Option Addr) (cap : Nat) (l : List DP) (d : DP) (w : World) (hA : InD w A cap l) (hl : l.length < 999998) :
    Calls Try.prog 17 #[.slice A l.length cap, encD d] w fun e w' => ∃ u, e = .returned u ∧ w'.ownsRow w.heap.size 24 2 u (setF l d).length (rowD (setF l d)) ∧ Below w.heap.size w w' := by
  obtain ⟨i0, hi, hz0, hz1, hz2⟩ := info_partsD infoDue
  obtain ⟨W, hW0⟩ : ∃ W, W = w.alloc (.cells #[.int .i64 d.a, .int .i64 d.i] 24) := ⟨_, rfl⟩
  have hb0 : Below w.heap.size w W := by rw [hW0]; exact (Below.refl _ w).alloc (Nat.le_refl _) _
  have hx0 : Bx W w.heap.size 24 [.int .i64 d.a, .int .i64 d.i] := by rw [hW0]; exact Bx.new w _ _
  have hs0 := hb0.size
  have hD := fun w' (h : Below W.heap.size W w') => rdrop_any A cap l d.i w' ((hA.below hb0).below h) (by omega)
  have hkl := kept_len (fun x => x.i == d.i) l
  have hsl := srt_length (dropF d.i l)
  have hdl : (dropF d.i l).length ≤ l.length := hkl
  have hset : setF l d = srt (srt (dropF d.i l) ++ [d]) := srt_perm ((srt_self _).symm.append_right [d])
  rw [hset]
  clear hset
  generalize srt (dropF d.i l) = dl at *
  have hml : dl.length < 999998 := by omega
  have hO := fun g c w' (h : InD w' (some g) c (dl ++ [d])) => ordered_any (some g) c (dl ++ [d]) w' h (by simp; omega)
  have hsn := rowD_snoc dl d
  have hln : (dl ++ [d]).length = dl.length + 1 := by simp
  have hsl2 := srt_length (dl ++ [d])
  rw [hsl2]
  rw [hln] at hO ⊢
  have HSn := Lib.hid hsn
  have HLn := Lib.hid hln
  generalize srt (dl ++ [d]) = res at *
  obtain ⟨m, hm⟩ : ∃ m, m = dl.length := ⟨_, rfl⟩
  rw [← hm] at hD hO HLn hml ⊢
  have keep : ∀ w', Below W.heap.size W w' → w'.cell? ⟨w.heap.size, 0, none⟩ = some (.int .i64 d.a) ∧ w'.cell? ⟨w.heap.size, 1, none⟩ = some (.int .i64 d.i) := fun w' h => by
    have hx := hx0.kept h
    exact ⟨hx.cell 0 (by simp), hx.cell 1 (by simp)⟩
  obtain ⟨x0, x1⟩ := keep W (Below.refl _ _)
  have hfa : Below W.heap.size W (W.alloc (.cells #[.int .i64 d.a, .int .i64 d.i] 24)).drew := ((Below.refl _ W).alloc (Nat.le_refl _) _).drew
  have HC2 : Hid (∀ w', Below (W.heap.size + 1) (W.alloc (.cells #[.int .i64 d.a, .int .i64 d.i] 24)) w' → ∀ j u, [Value.int .i64 d.a, .int .i64 d.i][j]? = some u → w'.cell? ((⟨W.heap.size, 0, none⟩ : Addr).add j) = some u) := Lib.hid (fun w' h j u hj => by
    have h1 := cell_two W (.int .i64 d.a) (.int .i64 d.i) 24 j u hj
    rw [← h1]
    have e : (⟨W.heap.size, 0, none⟩ : Addr).add j = ⟨W.heap.size, 0 + j, none⟩ := Addr.add_lit _ _ _
    rw [e]
    exact h.cell (p := ⟨W.heap.size, 0 + j, none⟩) (by simp))
  have ml : m + 1 ≤ maxLen := by unfold maxLen; omega
  have h2 : (m + 1) * 16 ≤ 140737488355328 := by omega
  have HIn : Hid (∀ g c w', w'.ownsRow W.heap.size 24 2 (.slice (some ⟨g, 0, none⟩) (m + 1) c) (m + 1) (rowD dl ++ [.int .i64 d.a, .int .i64 d.i]) → InD w' (some ⟨g, 0, none⟩) c (dl ++ [d])) := Lib.hid (fun g c w' h => by
    rw [← HSn.out, ← HLn.out] at h
    obtain ⟨A2, c2, e, h2⟩ := InD.of_own h
    cases e
    exact h2)
  have hl2 : ∀ n : Nat, l.length = n → n < 999998 := fun n h => by omega
  unfold encD
  generalize rowD dl = row at *
  generalize l.length = ln at *
  clear hkl hsl hdl hsl2 hsn hln hA hx0 hl2 hl hm
  go_enter Try.func17, Try.ntmps17
  go_wp2
  rw [← hW0]
  clear hW0
  go_region_held3 (fun w' => w'.cell? ⟨w.heap.size, 0, none⟩ = some (.int .i64 d.a) ∧ w'.cell? ⟨w.heap.size, 1, none⟩ = some (.int .i64 d.i)) (first | (with_reducible exact keep _ hf6) | (with_reducible exact keep _ hf5) | (with_reducible exact keep _ hf4a) | (with_reducible exact keep _ hf4) | (with_reducible exact keep _ hfa) | (with_reducible exact keep _ (Below.refl _ W).drew)) (first
    | (go_at_call 19; refine (hD _ (Below.refl _ W).drew).mono ?_; rintro e w4 ⟨u4, rfl, ho4, hb4⟩; have hf4 : Below W.heap.size W w4 := ⟨hb4.os, hb4.tape, hb4.output, hb4.size, hb4.block⟩; have hf4a := hf4.alloc hf4.size (.cells #[.int .i64 d.a, .int .i64 d.i] 24); have hown4 := ho4.alloc (.cells #[.int .i64 d.a, .int .i64 d.i] 24); have hc4 := cell_two w4 (.int .i64 d.a) (.int .i64 d.i) 24; have hs4 := hf4a.size; have hl4 := hown4.lt)
    | (go_at_call 19; refine (hD _ hfa).mono ?_; rintro e w4b ⟨u4, rfl, ho4, hb4⟩; have hf4 : Below W.heap.size W w4b := hfa.trans (hb4.mono hfa.size); have hown4b := own_down ho4 hfa.size; have hl4b := hown4b.lt; have hs4b := hf4.size; have hc4b := HC2.out w4b ⟨hb4.os, hb4.tape, hb4.output, hb4.size, fun j hj => hb4.block j (by simpa using hj)⟩)
    | (refine step_append_lies _ rfl (.tmp 8) (.tmp 10) 22 rfl W.heap.size 24 i0 (.agg #[.int .i64 0, .int .i64 0]) 2 16 Try.underlying22 hi hz0 hz1 hz2 rfl (by decide) _ _ _ rfl hown4 ⟨w4.heap.size, 0, none⟩ 1 1 [.int .i64 d.a, .int .i64 d.i] rfl rfl hc4 (by simp [Value.oneCell']) (by decide) ml h2 hs4 (w4.heap.size + 1) (by simp) ?_; intro g5 cap5 w5 hown5 hgrow5 hat5 hlt5; have hf5 : Below W.heap.size W w5 := hf4a.grown hgrow5 hs4 (fun j hj => (hl4 j hj).1); have hin5 := HIn.out g5 cap5 w5 hown5)
    | (refine step_append_lies _ rfl (.tmp 8) (.tmp 10) 22 rfl W.heap.size 24 i0 (.agg #[.int .i64 0, .int .i64 0]) 2 16 Try.underlying22 hi hz0 hz1 hz2 rfl (by decide) _ _ _ rfl hown4b ⟨W.heap.size, 0, none⟩ 1 1 [.int .i64 d.a, .int .i64 d.i] rfl rfl hc4b (by simp [Value.oneCell']) (by decide) ml h2 hs4b w4b.heap.size rfl ?_; intro g5 cap5 w5 hown5 hgrow5 hat5 hlt5; have hf5 : Below W.heap.size W w5 := hf4.grown hgrow5 hs4b (fun j hj => (hl4b j hj).1); have hin5 := HIn.out g5 cap5 w5 hown5)
    | (go_at_call 29; refine (hO _ _ _ hin5).mono ?_; rintro e w6 ⟨u6, rfl, ho6, hb6⟩; have hf6 : Below W.heap.size W w6 := hf5.trans (hb6.mono hf5.size)))
  all_goals (
    have hB6 := hb0.trans (hf6.mono hs0)
    have HU := Lib.hid (own_down ho6 (Nat.le_trans hs0 hf5.size))
    clear ho6 hb6 hf6 hf5 keep hO hD HIn HC2 x0 x1
    go_wp2
    go_ret
    exact ⟨_, rfl, HU.out, hB6⟩)
end Go.Proofs.Ytlbmkokdoigcnaa
