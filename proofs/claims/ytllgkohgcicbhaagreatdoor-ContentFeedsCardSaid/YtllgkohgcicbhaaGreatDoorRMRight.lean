/-
  The document's own Right of chapter 6 tells whether a method is right; nothing that was there is changed. Conditions: the values lie in old memory, each number a uint64, each text shorter than 2^47 bytes.
-/
import Derived.BigQuiet
import Derived.Deep.QuietTactic
import Derived.Deep.RegionHeld3
import Derived.Test.YtllgkohgcicbhaaGreatDoorJRMVal
import Derived.Test.YtllgkohgcicbhaaGreatDoorZK
import Derived.Test.YtllgkohgcicbhaaGreatDoorZE
import Derived.Test.YtllgkohgcicbhaaGreatDoorZJ
namespace Go.Proofs.YtllgkohgcicbhaaGreatDoor
open Go.RowKit

theorem index_str (L : ByteArray) (k : Nat) (hk : k < L.size) (w : World) : (Instr.index 9 (.string L) (.int .i64 (k : Int))).run Tryz.prog w = .ok (.int .u8 ((L[k]'hk).toNat : Int)) w := by
 simp [Instr.index, asIntOf, run_underlying Tryz.underlying9, Result.andThen, Sem.run_bind, hk]
theorem layEr_k {L : ByteArray} {l : List MV} {k : Nat} (hk : k < L.size) (hl : k < l.length) : layEr (L.data.toList.drop k) (l.drop k) = if vE (L[k]'hk) l[k] = 0 then layEr (L.data.toList.drop (k + 1)) (l.drop (k + 1)) else vE (L[k]'hk) l[k] := by
 have h1 : k < L.data.toList.length := by rw [ba_len]; exact hk
 rw [List.drop_eq_getElem_cons h1, List.drop_eq_getElem_cons hl, layEr]
 rfl

set_option maxRecDepth 100000 in
set_option maxHeartbeats 4000000 in
theorem rright6_any (m : Me) (A : Option Addr) (cap : Nat) (w : World) (hm : wfM m) (hA : ValsAt w A (rowV m.l)) :
 Calls Tryz.prog 34 #[encM m A cap] w fun e w' => e = .returned (.int .i64 (mE m)) ∧ Below w.heap.size w w' := by
 obtain ⟨c, i, l⟩ := m
 have HE : Hid (mE ⟨c, i, l⟩ = if sIs c i = true then (if (sOf c i).size = l.length then layEr (sOf c i).data.toList l else 7) else 7) := Lib.hid rfl
 have HF : Hid (sIs c i = true → (∀ x ∈ (sOf c i).data.toList, isLet x = true) ∧ (sOf c i).size ≤ 16) := Lib.hid (fun h => ⟨(met_facts h).1, (met_facts h).2.1⟩)
 have HW : Hid (∀ v ∈ l, wfV v) := Lib.hid hm
 unfold encM
 dsimp only at *
 obtain ⟨W0, hW0⟩ : ∃ W0, W0 = w.alloc (.cells #[.int .i64 c, .int .i64 i, .slice A l.length cap] 24) := ⟨_, rfl⟩
 have hb0 : Below w.heap.size w W0 := by rw [hW0]; exact (Below.refl _ w).alloc (Nat.le_refl _) _
 have hx : Bx W0 w.heap.size 24 [.int .i64 c, .int .i64 i, .slice A l.length cap] := by rw [hW0]; exact Bx.new w 24 [.int .i64 c, .int .i64 i, .slice A l.length cap]
 have x0 := hx.cell 0 (by simp)
 have x1 := hx.cell 1 (by simp)
 dsimp only [List.getElem_cons_zero, List.getElem_cons_succ] at x0 x1
 have hOf := rof_any c i W0
 generalize mE ⟨c, i, l⟩ = q at HE ⊢
 generalize sOf c i = L at HE HF hOf
 generalize sIs c i = b at HE HF hOf
 clear hm
 go_enter Tryz.func34, Tryz.ntmps34
 go_wp2_with fail
 rw [← hW0]
 clear hW0
 go_wp2_with fail
 with_reducible refine hOf.mono ?_
 rintro e w1 ⟨rfl, hb1⟩
 have hB1 := hb0.trans (hb1.mono hb0.size)
 have hx1 := hx.kept hb1
 have hA1 := hA.below hB1
 clear hOf hx hb1 hb0 hA x0 x1
 cases b
 · have HQ : Hid (q = 7) := Lib.hid (by rw [HE.out]; rfl)
   clear HE HF
   go_wp2
   go_ret
   exact ⟨by rw [HQ.out]; rfl, hB1⟩
 · obtain ⟨hls, h16⟩ := HF.out rfl
   have HLS := Lib.hid hls
   have HE2 : Hid (q = if L.size = l.length then layEr L.data.toList l else 7) := Lib.hid (by rw [HE.out, if_pos rfl])
   have x2 := hx1.cell 2 (by simp)
   dsimp only [List.getElem_cons_zero, List.getElem_cons_succ] at x2
   clear HE HF hls
   by_cases hlen : L.size = l.length
   · have HQ : Hid (q = layEr L.data.toList l) := Lib.hid (by rw [HE2.out, if_pos hlen])
     have t3 : ((L.size : Int) != (l.length : Int)) = false := by simp [hlen]
     have HLN := Lib.hid hlen
     obtain ⟨n, hn⟩ : ∃ n, L.size = n := ⟨_, rfl⟩
     have HN := Lib.hid hn
     have hn16 : n ≤ 16 := by omega
     clear HE2 hlen h16 hn
     go_wp2_with fail
     go_loopw [5] (fun v wr => ∃ k : Nat, k ≤ n ∧ v = .int .i64 k ∧ Below w1.heap.size w1 wr ∧ Hid (q = layEr (L.data.toList.drop k) (l.drop k))) (fun v _ => n - (intOf v).toNat)
     case atStart => exact ⟨0, Nat.zero_le _, rfl, Below.refl _ _, Lib.hid HQ.out⟩
     case round =>
      obtain ⟨k, hk, rfl, hb, HK⟩ := hrel
      by_cases hlt : k < n
      · have hkL : k < L.size := by rw [HN.out]; exact hlt
        have hkl : k < l.length := by rw [← HLN.out]; exact hkL
        obtain ⟨b1, o1, rfl, hl1, g1⟩ := vals_v hA1 (by omega)
        obtain ⟨c1, c1'⟩ := g1 k hkl
        have hR := fun W => rval_any (L[k]'hkL) l[k] W (HLS.out _ (List.getElem_mem (by rw [ba_len]; exact hkL))) (HW.out l[k] (List.getElem_mem hkl))
        have hidx := fun W => index_str L k hkL W
        have HS := Lib.hid (layEr_k hkL hkl)
        have e1 : IntKind.i64.wrap ((k : Int) + 1) = ((k + 1 : Nat) : Int) := by simp only [IntKind.wrap_i64]; omega
        have hlI : (k : Int) < (L.size : Int) := by omega
        clear g1 hA1
        generalize hvv : vE (L[k]'hkL) l[k] = ve at HS hR
        clear hvv
        generalize ((L[k]'hkL).toNat : Int) = lt at hR hidx
        generalize l[k] = u at *
        obtain ⟨un, us⟩ := u
        unfold encV at hR
        dsimp only at *
        have keep : ∀ w', Below wr.heap.size wr w' → w'.cell? ⟨w.heap.size, 2, none⟩ = some (.slice (some ⟨b1, o1, none⟩) l.length cap) ∧ w'.cell? ⟨b1, o1 + k * 2, none⟩ = some (.int .u64 un) ∧ w'.cell? ⟨b1, o1 + k * 2 + 1, none⟩ = some (.string us) := fun w' h =>
         have hb' := hb.trans (h.mono hb.size)
         ⟨(hx1.kept hb').cell 2 (by simp), (hb'.cell (p := ⟨b1, o1 + k * 2, none⟩) hl1).trans c1, (hb'.cell (p := ⟨b1, o1 + k * 2 + 1, none⟩) hl1).trans c1'⟩
        obtain ⟨y0, y1, y2⟩ := keep wr (Below.refl _ _)
        have hbs := hb.size
        clear c1 c1' hx1 x2
        go_wp2
        go_region_held3 (fun w' => w'.cell? ⟨w.heap.size, 2, none⟩ = some (.slice (some ⟨b1, o1, none⟩) l.length cap) ∧ w'.cell? ⟨b1, o1 + k * 2, none⟩ = some (.int .u64 un) ∧ w'.cell? ⟨b1, o1 + k * 2 + 1, none⟩ = some (.string us)) (first | go_keep | (exact keep _ ⟨hq.os, hq.tape, hq.output, hq.size, hq.block⟩)) (first | (go_at_call 61; refine (hR _).mono ?_; rintro e w3 ⟨rfl, hq⟩))
        have hf : Below wr.heap.size wr w3 := ⟨hq.os, hq.tape, hq.output, hq.size, hq.block⟩
        have hb3 := hb.trans (hf.mono hb.size)
        clear keep y0 y1 y2 hR hq hf hidx
        by_cases hv : ve = 0
        · subst hv
          have HF : Hid (q = layEr (L.data.toList.drop (k + 1)) (l.drop (k + 1))) := Lib.hid (by rw [HK.out, HS.out]; simp)
          clear HK HS
          go_wp2
          go_roundw
          case rel => exact ⟨k + 1, hlt, rfl, hb3, HF⟩
          case measure => simp only [intOf]; omega
        · have HF : Hid (q = ve) := Lib.hid (by rw [HK.out, HS.out, if_neg hv])
          have t : (ve != 0) = true := by simpa using hv
          clear HK HS hv
          go_wp2
          go_ret
          exact ⟨by rw [HF.out]; rfl, hB1.trans (hb3.mono hB1.size)⟩
      · obtain rfl : k = n := by omega
        have HF : Hid (q = 0) := Lib.hid (by rw [HK.out, List.drop_of_length_le (by rw [ba_len, HN.out]; exact Nat.le_refl _)]; cases l.drop k <;> rfl)
        have tN : ((k : Int) < (L.size : Int)) = False := by rw [HN.out]; simp
        clear HK
        go_wp2
        go_ret
        exact ⟨by rw [HF.out]; rfl, hB1.trans (hb.mono hB1.size)⟩
   · have HQ : Hid (q = 7) := Lib.hid (by rw [HE2.out, if_neg hlen])
     have t3 : ((L.size : Int) != (l.length : Int)) = true := by simp; omega
     clear HE2 hlen
     go_wp2
     go_ret
     exact ⟨by rw [HQ.out]; rfl, hB1⟩
end Go.Proofs.YtllgkohgcicbhaaGreatDoor
