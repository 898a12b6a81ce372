/-
  Several texts joined in one file: each says at its own head, below, what it proves, and its conditions.
-/
import Derived.BigQuiet
import Derived.Deep.QuietTactic
import Derived.Deep.RegionHeld3
import Derived.Test.YtkdiccedkjbpeaaGreatDoorRJRMVal
import Derived.Test.YtkdiccedkjbpeaaGreatDoorRJRSig
import Derived.Test.YtkdiccedkjbpeaaGreatDoorRPMethC
import Derived.Test.YtkdiccedkjbpeaaGreatDoorRKL
import Derived.Test.YtkdiccedkjbpeaaGreatDoorRWServeS
import Derived.Test.YtkdiccedkjbpeaaGreatDoorRKC
import Derived.Test.YtkdiccedkjbpeaaGreatDoorRKM
import Derived.Test.YtkdiccedkjbpeaaGreatDoorRWDial0
/-
  The document's own Right of chapter 6 tells whether a method is right; nothing that was there is changed. Conditions: the values lie in old memory, each number a uint64, each text shorter than 2^47 bytes.
-/
namespace Go.Proofs.YtkdiccedkjbpeaaGreatDoorR
open Go.RowKit

theorem index_str (L : ByteArray) (k : Nat) (hk : k < L.size) (w : World) : (Instr.index 9 (.string L) (.int .i64 (k : Int))).run Tryz.prog w = .ok (.int .u8 ((L[k]'hk).toNat : Int)) w := by
  simp [Instr.index, asIntOf, run_underlying Tryz.underlying9, Result.andThen, Sem.run_bind, hk]
theorem layEr_k {L : ByteArray} {l : List MV} {k : Nat} (hk : k < L.size) (hl : k < l.length) : layEr (L.data.toList.drop k) (l.drop k) = if vE (L[k]'hk) l[k] = 0 then layEr (L.data.toList.drop (k + 1)) (l.drop (k + 1)) else vE (L[k]'hk) l[k] := by
  have h1 : k < L.data.toList.length := by rw [ba_len]; exact hk
  rw [List.drop_eq_getElem_cons h1, List.drop_eq_getElem_cons hl, layEr]
  rfl

set_option maxRecDepth 100000 in
set_option maxHeartbeats 4000000 in
theorem rright6_any (m : Me) (A : Option Addr) (cap : Nat) (w : World) (hm : wfM m) (hA : ValsAt w A (rowV m.l)) :
    Calls Tryz.prog 24 #[encM m A cap] w fun e w' => e = .returned (.int .i64 (mE m)) ∧ Below w.heap.size w w' := by
  obtain ⟨c, i, l⟩ := m
  have HE : Hid (mE ⟨c, i, l⟩ = if sIs c i = true then (if (sOf c i).size = l.length then layEr (sOf c i).data.toList l else 7) else 7) := Lib.hid rfl
  have HF : Hid (sIs c i = true → (∀ x ∈ (sOf c i).data.toList, isLet x = true) ∧ (sOf c i).size ≤ 16) := Lib.hid (fun h => ⟨(met_facts h).1, (met_facts h).2.1⟩)
  have HW : Hid (∀ v ∈ l, wfV v) := Lib.hid hm
  unfold encM
  dsimp only at *
  obtain ⟨W0, hW0⟩ : ∃ W0, W0 = w.alloc (.cells #[.int .i64 c, .int .i64 i, .slice A l.length cap] 39) := ⟨_, rfl⟩
  have hb0 : Below w.heap.size w W0 := by rw [hW0]; exact (Below.refl _ w).alloc (Nat.le_refl _) _
  have hx : Bx W0 w.heap.size 39 [.int .i64 c, .int .i64 i, .slice A l.length cap] := by rw [hW0]; exact Bx.new w 39 [.int .i64 c, .int .i64 i, .slice A l.length cap]
  have x0 := hx.cell 0 (by simp)
  have x1 := hx.cell 1 (by simp)
  dsimp only [List.getElem_cons_zero, List.getElem_cons_succ] at x0 x1
  have hOf := rof_any c i W0
  generalize mE ⟨c, i, l⟩ = q at HE ⊢
  generalize sOf c i = L at HE HF hOf
  generalize sIs c i = b at HE HF hOf
  clear hm
  go_enter Tryz.func24, Tryz.ntmps24
  go_wp2_with fail
  rw [← hW0]
  clear hW0
  go_wp2_with fail
  with_reducible refine hOf.mono ?_
  rintro e w1 ⟨rfl, hb1⟩
  have hB1 := hb0.trans (hb1.mono hb0.size)
  have hx1 := hx.kept hb1
  have hA1 := hA.below hB1
  clear hOf hx hb1 hb0 hA x0 x1
  cases b
  · have HQ : Hid (q = 7) := Lib.hid (by rw [HE.out]; rfl)
    clear HE HF
    go_wp2
    go_ret
    exact ⟨by rw [HQ.out]; rfl, hB1⟩
  · obtain ⟨hls, h16⟩ := HF.out rfl
    have HLS := Lib.hid hls
    have HE2 : Hid (q = if L.size = l.length then layEr L.data.toList l else 7) := Lib.hid (by rw [HE.out, if_pos rfl])
    have x2 := hx1.cell 2 (by simp)
    dsimp only [List.getElem_cons_zero, List.getElem_cons_succ] at x2
    clear HE HF hls
    by_cases hlen : L.size = l.length
    · have HQ : Hid (q = layEr L.data.toList l) := Lib.hid (by rw [HE2.out, if_pos hlen])
      have t3 : ((L.size : Int) != (l.length : Int)) = false := by simp [hlen]
      have HLN := Lib.hid hlen
      obtain ⟨n, hn⟩ : ∃ n, L.size = n := ⟨_, rfl⟩
      have HN := Lib.hid hn
      have hn16 : n ≤ 16 := by omega
      clear HE2 hlen h16 hn
      go_wp2_with fail
      go_loopw [5] (fun v wr => ∃ k : Nat, k ≤ n ∧ v = .int .i64 k ∧ Below w1.heap.size w1 wr ∧ Hid (q = layEr (L.data.toList.drop k) (l.drop k))) (fun v _ => n - (intOf v).toNat)
      case atStart => exact ⟨0, Nat.zero_le _, rfl, Below.refl _ _, Lib.hid HQ.out⟩
      case round =>
        obtain ⟨k, hk, rfl, hb, HK⟩ := hrel
        by_cases hlt : k < n
        · have hkL : k < L.size := by rw [HN.out]; exact hlt
          have hkl : k < l.length := by rw [← HLN.out]; exact hkL
          obtain ⟨b1, o1, rfl, hl1, g1⟩ := vals_v hA1 (by omega)
          obtain ⟨c1, c1'⟩ := g1 k hkl
          have hR := fun W => rval_any (L[k]'hkL) l[k] W (HLS.out _ (List.getElem_mem (by rw [ba_len]; exact hkL))) (HW.out l[k] (List.getElem_mem hkl))
          have hidx := fun W => index_str L k hkL W
          have HS := Lib.hid (layEr_k hkL hkl)
          have e1 : IntKind.i64.wrap ((k : Int) + 1) = ((k + 1 : Nat) : Int) := by simp only [IntKind.wrap_i64]; omega
          have hlI : (k : Int) < (L.size : Int) := by omega
          clear g1 hA1
          generalize hvv : vE (L[k]'hkL) l[k] = ve at HS hR
          clear hvv
          generalize ((L[k]'hkL).toNat : Int) = lt at hR hidx
          generalize l[k] = u at *
          obtain ⟨un, us⟩ := u
          unfold encV at hR
          dsimp only at *
          have keep : ∀ w', Below wr.heap.size wr w' → w'.cell? ⟨w.heap.size, 2, none⟩ = some (.slice (some ⟨b1, o1, none⟩) l.length cap) ∧ w'.cell? ⟨b1, o1 + k * 2, none⟩ = some (.int .u64 un) ∧ w'.cell? ⟨b1, o1 + k * 2 + 1, none⟩ = some (.string us) := fun w' h =>
            have hb' := hb.trans (h.mono hb.size)
            ⟨(hx1.kept hb').cell 2 (by simp), (hb'.cell (p := ⟨b1, o1 + k * 2, none⟩) hl1).trans c1, (hb'.cell (p := ⟨b1, o1 + k * 2 + 1, none⟩) hl1).trans c1'⟩
          obtain ⟨y0, y1, y2⟩ := keep wr (Below.refl _ _)
          have hbs := hb.size
          clear c1 c1' hx1 x2
          go_wp2
          go_region_held3 (fun w' => w'.cell? ⟨w.heap.size, 2, none⟩ = some (.slice (some ⟨b1, o1, none⟩) l.length cap) ∧ w'.cell? ⟨b1, o1 + k * 2, none⟩ = some (.int .u64 un) ∧ w'.cell? ⟨b1, o1 + k * 2 + 1, none⟩ = some (.string us)) (first | go_keep | (exact keep _ ⟨hq.os, hq.tape, hq.output, hq.size, hq.block⟩)) (first | (go_at_call 43; refine (hR _).mono ?_; rintro e w3 ⟨rfl, hq⟩))
          have hf : Below wr.heap.size wr w3 := ⟨hq.os, hq.tape, hq.output, hq.size, hq.block⟩
          have hb3 := hb.trans (hf.mono hb.size)
          clear keep y0 y1 y2 hR hq hf hidx
          by_cases hv : ve = 0
          · subst hv
            have HF : Hid (q = layEr (L.data.toList.drop (k + 1)) (l.drop (k + 1))) := Lib.hid (by rw [HK.out, HS.out]; simp)
            clear HK HS
            go_wp2
            go_roundw
            case rel => exact ⟨k + 1, hlt, rfl, hb3, HF⟩
            case measure => simp only [intOf]; omega
          · have HF : Hid (q = ve) := Lib.hid (by rw [HK.out, HS.out, if_neg hv])
            have t : (ve != 0) = true := by simpa using hv
            clear HK HS hv
            go_wp2
            go_ret
            exact ⟨by rw [HF.out]; rfl, hB1.trans (hb3.mono hB1.size)⟩
        · obtain rfl : k = n := by omega
          have HF : Hid (q = 0) := Lib.hid (by rw [HK.out, List.drop_of_length_le (by rw [ba_len, HN.out]; exact Nat.le_refl _)]; cases l.drop k <;> rfl)
          have tN : ((k : Int) < (L.size : Int)) = False := by rw [HN.out]; simp
          clear HK
          go_wp2
          go_ret
          exact ⟨by rw [HF.out]; rfl, hB1.trans (hb.mono hB1.size)⟩
    · have HQ : Hid (q = 7) := Lib.hid (by rw [HE2.out, if_neg hlen])
      have t3 : ((L.size : Int) != (l.length : Int)) = true := by simp; omega
      clear HE2 hlen
      go_wp2
      go_ret
      exact ⟨by rw [HQ.out]; rfl, hB1⟩
end Go.Proofs.YtkdiccedkjbpeaaGreatDoorR

/-
  The document's own Rights of what is said: none, or one method: nothing that was there is changed. Condition: the method's values are numbers and texts of fewer than 2^47 bytes.
-/
namespace Go.Proofs.YtkdiccedkjbpeaaGreatDoorR
open Go.RowKit

theorem SaidAt.upto {n : Nat} {w : World} {A : Option Addr} {k : Nat} {s : Option Me} (h : SaidAt n w A k s) : k ≤ 1 := by
  cases s with
  | none => rw [(said_none h).2]; decide
  | some m => rw [(said_parts h).1]; decide
set_option maxRecDepth 100000 in
set_option maxHeartbeats 2000000 in
theorem rights_none (c : Nat) (w : World) : Calls Tryz.prog 12 #[.slice none 0 c] w fun e w' => e = .returned (.bool true) ∧ Below w.heap.size w w' := by
  go_enter Tryz.func12, Tryz.ntmps12
  go_wp2_with fail
  go_loopw [3] (fun v wr => v = .int .i64 0 ∧ Below w.heap.size w wr) (fun v _ => 0)
  case atStart => exact ⟨rfl, Below.refl _ _⟩
  case round =>
    obtain ⟨rfl, hbr⟩ := hrel
    go_wp2
    go_ret
    exact ⟨rfl, hbr⟩
set_option maxRecDepth 100000 in
set_option maxHeartbeats 2000000 in
theorem rights_some (m : Me) (b : Nat) (A : Option Addr) (c cap : Nat) (w : World) (hm : wfM m) (hb : Bx w b 39 [.int .i64 m.c, .int .i64 m.i, .slice A m.l.length cap]) (hA : ValsAt w A (rowV m.l)) : Calls Tryz.prog 12 #[.slice (some ⟨b, 0, none⟩) 1 c] w fun e w' => e = .returned (.bool (mE m == 0)) ∧ Below w.heap.size w w' := by
  have hR := fun W (h : Below w.heap.size w W) => rright6_any m A cap W hm (hA.below h)
  generalize mE m = x at hR ⊢
  obtain ⟨mc, mi, ml⟩ := m
  unfold encM at hR
  dsimp only at hR hb
  clear hm hA
  go_enter Tryz.func12, Tryz.ntmps12
  go_wp2_with fail
  go_loopw [3] (fun v wr => ∃ k : Nat, k ≤ 1 ∧ v = .int .i64 k ∧ Below w.heap.size w wr ∧ Hid (k = 1 → x = 0)) (fun v _ => 1 - (intOf v).toNat)
  case atStart => exact ⟨0, Nat.zero_le _, rfl, Below.refl _ _, Lib.hid (fun h => absurd h (by decide))⟩
  case round =>
    obtain ⟨k, hk, rfl, hbr, HK⟩ := hrel
    by_cases hk0 : k = 0
    · subst hk0
      have hRr := hR wr hbr
      obtain ⟨x0, x1, x2⟩ := (hb.kept hbr).three
      clear hR hk HK
      go_wp2_with fail
      with_reducible refine hRr.mono ?_
      rintro e w1 ⟨rfl, hb1⟩
      have hB1 := hbr.trans (hb1.mono hbr.size)
      clear hRr hbr hb1 x0 x1 x2 hb
      by_cases hx : x = 0
      · have HX := Lib.hid hx
        subst hx
        go_wp2
        go_roundw
        case rel => exact ⟨1, Nat.le_refl _, rfl, hB1, Lib.hid (by first | exact fun _ => rfl | exact fun _ => trivial | trivial)⟩
        case measure => simp only [intOf]; omega
      · have e1 : (x != 0) = true := bne_iff_ne.2 hx
        have e2 : Hid ((x == 0) = false) := Lib.hid (beq_eq_false_iff_ne.2 hx)
        go_wp2
        go_ret
        exact ⟨by rw [e2.out]; rfl, hB1⟩
    · obtain rfl : k = 1 := by omega
      have hx := HK.out rfl
      have e2 : Hid ((x == 0) = true) := Lib.hid (beq_iff_eq.2 hx)
      clear hR hb HK hx
      go_wp2
      go_ret
      exact ⟨by rw [e2.out]; rfl, hbr⟩
theorem rights_said (s : Option Me) (n : Nat) (A : Option Addr) (k c : Nat) (w : World) (hw : saidWf s) (hS : SaidAt n w A k s) : Calls Tryz.prog 12 #[.slice A k c] w fun e w' => e = .returned (.bool (saidOk s)) ∧ Below w.heap.size w w' := by
  cases s with
  | none =>
    obtain ⟨rfl, rfl⟩ := said_none hS
    exact rights_none c w
  | some m =>
    obtain ⟨rfl, b, A', c', rfl, -, hb, hr⟩ := said_parts hS
    exact rights_some m b A' c c' w hw hb hr.vals
end Go.Proofs.YtkdiccedkjbpeaaGreatDoorR

/-
  The document's own Rights of what a broker's connection says: none, or one method, or two, all right: it answers true; nothing that was there is changed. Condition: the methods' values are numbers and texts of fewer than 2^47 bytes.
-/
namespace Go.Proofs.YtkdiccedkjbpeaaGreatDoorR
open Go.RowKit

set_option maxRecDepth 100000 in
set_option maxHeartbeats 2000000 in
theorem rights_two (m m' : Me) (b : Nat) (A A' : Option Addr) (c c1 c2 : Nat) (w : World) (h1 : mE m = 0) (h2 : mE m' = 0) (hm : wfM m) (hm' : wfM m') (hb : Bx w b 39 [.int .i64 m.c, .int .i64 m.i, .slice A m.l.length c1, .int .i64 m'.c, .int .i64 m'.i, .slice A' m'.l.length c2]) (hA : ValsAt w A (rowV m.l)) (hA' : ValsAt w A' (rowV m'.l)) : Calls Tryz.prog 12 #[.slice (some ⟨b, 0, none⟩) 2 c] w fun e w' => e = .returned (.bool true) ∧ Below w.heap.size w w' := by
  have hR1 := fun W (h : Below w.heap.size w W) => rright6_any m A c1 W hm (hA.below h)
  have hR2 := fun W (h : Below w.heap.size w W) => rright6_any m' A' c2 W hm' (hA'.below h)
  rw [h1] at hR1
  rw [h2] at hR2
  obtain ⟨mc, mi, ml⟩ := m
  obtain ⟨mc', mi', ml'⟩ := m'
  unfold encM at hR1 hR2
  dsimp only at hR1 hR2 hb
  clear hm hA hm' hA' h1 h2
  go_enter Tryz.func12, Tryz.ntmps12
  go_wp2_with fail
  go_loopw [3] (fun v wr => ∃ k : Nat, k ≤ 2 ∧ v = .int .i64 k ∧ Below w.heap.size w wr) (fun v _ => 2 - (intOf v).toNat)
  case atStart => exact ⟨0, Nat.zero_le _, rfl, Below.refl _ _⟩
  case round =>
    obtain ⟨k, hk, rfl, hbr⟩ := hrel
    by_cases hk0 : k = 0
    · subst hk0
      have hRr := hR1 wr hbr
      have x0 := (hb.kept hbr).cell 0 (by simp)
      have x1 := (hb.kept hbr).cell 1 (by simp)
      have x2 := (hb.kept hbr).cell 2 (by simp)
      dsimp only [List.getElem_cons_zero, List.getElem_cons_succ] at x0 x1 x2
      clear hR1 hR2 hk
      go_wp2_with fail
      with_reducible refine hRr.mono ?_
      rintro e w1 ⟨rfl, hb1⟩
      have hB1 := hbr.trans (hb1.mono hbr.size)
      clear hRr hbr hb1 x0 x1 x2 hb
      go_wp2
      go_roundw
      case rel => exact ⟨1, by decide, rfl, hB1⟩
      case measure => simp only [intOf]; omega
    · by_cases hk1 : k = 1
      · subst hk1
        have hRr := hR2 wr hbr
        have x0 := (hb.kept hbr).cell 3 (by simp)
        have x1 := (hb.kept hbr).cell 4 (by simp)
        have x2 := (hb.kept hbr).cell 5 (by simp)
        dsimp only [List.getElem_cons_zero, List.getElem_cons_succ] at x0 x1 x2
        clear hR1 hR2 hk hk0
        go_wp2_with fail
        with_reducible refine hRr.mono ?_
        rintro e w1 ⟨rfl, hb1⟩
        have hB1 := hbr.trans (hb1.mono hbr.size)
        clear hRr hbr hb1 x0 x1 x2 hb
        go_wp2
        go_roundw
        case rel => exact ⟨2, by decide, rfl, hB1⟩
        case measure => simp only [intOf]; omega
      · obtain rfl : k = 2 := by omega
        clear hR1 hR2 hb hk hk0 hk1
        go_wp2
        go_ret
        exact ⟨rfl, hbr⟩
theorem rights_dsaid (l : List Me) (n : Nat) (A : Option Addr) (k c : Nat) (w : World) (hl : DSOk l) (hS : DSaid n w A k l) : Calls Tryz.prog 12 #[.slice A k c] w fun e w' => e = .returned (.bool true) ∧ Below w.heap.size w w' := by
  match l, hl, hS with
  | [], _, hS =>
    obtain ⟨rfl, rfl⟩ := (show A = none ∧ k = 0 from hS)
    exact rights_none c w
  | [m], hl, hS =>
    have h := hl m (List.mem_singleton.2 rfl)
    have hR := rights_said (some m) n A k c w h.2 hS
    rw [show saidOk (some m) = true by show (mE m == 0) = true; rw [h.1]; rfl] at hR
    exact hR
  | [m, m'], hl, hS =>
    obtain ⟨rfl, b, A1, c1, A2, c2, rfl, -, hb, hr1, hr2⟩ := (show k = 2 ∧ ∃ b A1 c1 A2 c2, A = some ⟨b, 0, none⟩ ∧ n ≤ b ∧ Bx w b 39 [.int .i64 m.c, .int .i64 m.i, .slice A1 m.l.length c1, .int .i64 m'.c, .int .i64 m'.i, .slice A2 m'.l.length c2] ∧ RowAt n w A1 m.l ∧ RowAt n w A2 m'.l from hS)
    have g1 := hl m (by simp)
    have g2 := hl m' (by simp)
    exact rights_two m m' b A1 A2 c c1 c2 w g1.1 g2.1 g1.2 g2.2 hb hr1.vals hr2.vals
  | _ :: _ :: _ :: _, _, hS => exact hS.elim
end Go.Proofs.YtkdiccedkjbpeaaGreatDoorR
