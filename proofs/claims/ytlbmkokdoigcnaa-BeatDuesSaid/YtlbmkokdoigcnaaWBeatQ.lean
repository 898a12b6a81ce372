/-
  beat.heaped and comeOff: a heap of what is not dropped; what comes off it, in order. Nothing that was there is changed, but for the heap. Conditions: less than a million places; the functions that tell answer as plain ones do.
-/
import Derived.Deep.AppendLies
import Derived.Test.YtlbmkokdoigcnaaWHeapT
import Derived.Test.YtlbmkokdoigcnaaWBDelF
namespace Go.Proofs.Ytlbmkokdoigcnaa
open Go.RowKit

set_option maxRecDepth 100000 in
set_option maxHeartbeats 1000000 in
theorem index_nil (fv : Value) (w : World) : Calls Try.prog 46 #[.slice none 0 0, fv] w fun e w' => e = .returned (.int .i64 (-1)) ∧ w' = w := by
  go_enter Try.func46, Try.ntmps46
  go_wp2
  go_rounds 1
  all_goals (go_ret; exact ⟨rfl, rfl⟩)
set_option maxRecDepth 100000 in
set_option maxHeartbeats 1000000 in
theorem dele_nil (fv : Value) (w : World) : Calls Try.prog 37 #[.slice none 0 0, fv] w fun e w' => e = .returned (.slice none 0 0) ∧ w' = w := by
  go_enter Try.func37, Try.ntmps37
  go_wp2_with fail
  refine (index_nil fv w).mono ?_
  rintro e w1 ⟨rfl, rfl⟩
  go_wp2
  go_ret
  exact ⟨rfl, rfl⟩
theorem kept_nil (p : DP → Bool) : kept p [] = [] := rfl
theorem kept_len (p : DP → Bool) (l : List DP) : (kept p l).length ≤ l.length := List.length_filter_le _ _
/-- DeleteFunc of a row of one's own, nil or not -/
theorem dele_own (base : Nat) (v : Value) (l : List DP) (f : Nat) (lb : Array Value) (p : DP → Bool) (B : Option Nat) (w : World) (hf : Tells f lb p B w) (he : ∀ args w, (callFunc f args).run Try.prog w = .ok (.enter f args) w)
    (ho : w.ownsRow base 24 2 v l.length (rowD l)) (hn : l.length < 1000000) (hB : ∀ k, B = some k → k < base) :
    Calls Try.prog 37 #[v, .func (.func f) #[] lb] w fun e w' =>
      ∃ v', e = .returned v' ∧ w'.ownsRow base 24 2 v' (kept p l).length (rowD (kept p l)) ∧ (∀ N, N ≤ w.heap.size → N ≤ base → Below N w w') := by
  rcases RowD.of ho with ⟨rfl, rfl⟩ | ⟨g, cap, rfl, hg, hR⟩
  · refine (dele_nil _ w).mono ?_
    rintro e w' ⟨rfl, rfl⟩
    exact ⟨_, rfl, World.ownsRow_nil _ _ _ _, fun N _ _ => Below.refl _ _⟩
  · refine (dele_any g cap l.length l f lb p B w hf he hR rfl hn (fun e => by have := hB g e; omega)).mono ?_
    rintro e w' ⟨rfl, hR', hF⟩
    exact ⟨_, rfl, hR'.own hg, fun N h1 h2 => hF.below h1 (by omega)⟩

theorem vals_of_own {w : World} {base : Nat} {v : Value} {l : List Value} {n : Nat} (h : w.ownsRow base 24 2 v n l) : ∃ A c, v = .slice A n c ∧ ValsAt w A l ∧ (A = none → n = 0 ∧ c = 0) := by
  obtain ⟨hlen, ⟨rfl, h0⟩ | ⟨g, cap, cur, rfl, hg, hb, hn, hc, hs, ht⟩⟩ := h
  · exact ⟨none, 0, by rw [h0], (fun h => by omega), fun _ => ⟨h0, rfl⟩⟩
  · refine ⟨_, cap, rfl, fun _ => ⟨g, 0, rfl, (Array.getElem?_eq_some_iff.1 hb).1, fun i hi => ?_⟩, (fun h => by cases h)⟩
    have e1 : w.cell? ⟨g, 0 + i, none⟩ = cur[i]? := by simp [World.cell?, hb]
    rw [e1]
    have h2 : (List.take (n * 2) cur.toList)[i]? = some l[i] := by rw [ht]; exact List.getElem?_eq_getElem hi
    rw [List.getElem?_take] at h2
    split at h2
    · rw [← h2, Array.getElem?_toList]
    · cases h2
set_option maxRecDepth 100000 in
set_option maxHeartbeats 2000000 in
theorem heaped_any (A : Option Addr) (cap : Nat) (l : List DP) (f : Nat) (lb : Array Value) (p : DP → Bool) (B : Option Nat) (w : World) (hf : Tells f lb p B w) (he : ∀ args w, (callFunc f args).run Try.prog w = .ok (.enter f args) w)
    (hA : ValsAt w A (rowD l)) (h0 : A = none → l.length = 0 ∧ cap = 0) (hl : l.length < 1000000) :
    Calls Try.prog 25 #[.slice A l.length cap, .func (.func f) #[] lb] w fun e w' =>
      ∃ b v m, e = .returned (.pointer (some ⟨b, 0, none⟩)) ∧ QAt w' w.heap.size b v m ∧ Heap m ∧ m.Perm (kept p l) ∧ Below w.heap.size w w' := by
  have hC := clone_any A cap l w hA h0 hl
  have hkl := kept_len p l
  clear hA h0
  go_enter Try.func25, Try.ntmps25
  go_wp2_with fail
  refine hC.mono ?_
  rintro e w1 ⟨v1, rfl, ho1, hb1⟩
  have hD := dele_own w.heap.size v1 l f lb p B w1 (hf.below hb1) he ho1 hl hf.1
  clear hC ho1
  go_wp2_with fail
  refine hD.mono ?_
  rintro e w2 ⟨v2, rfl, ho2, hb2⟩
  have hb2 := hb1.trans (hb2 _ hb1.size (Nat.le_refl _))
  have hQ : QAt (w2.alloc (.cells #[v2] 57)) w.heap.size w2.heap.size v2 (kept p l) := ⟨hb2.size, Bx.new w2 _ [v2], ho2.alloc _⟩
  have hI := init_any _ _ v2 (kept p l) _ hQ (by omega)
  have hb3 := hb2.alloc hb2.size (.cells #[v2] 57)
  obtain ⟨A2, c2, rfl, -, -⟩ := vals_of_own ho2
  clear hD ho2 hb1 hb2 hQ he hf
  go_wp2_with fail
  refine hI.mono ?_
  rintro e w3 ⟨rfl, hq3, hF3⟩
  have hb4 : Below w.heap.size w w3 := hb3.trans (hF3.below hb3.size hq3.hb (fun g hg => (hq3.own.lt g hg).1))
  have HH := Lib.hid (init_heap_all (kept p l))
  have HP := Lib.hid (initF_perm ((kept p l).length / 2) (kept p l) (kept p l).length (Nat.le_refl _))
  clear hI hF3 hb3
  go_wp2
  go_ret
  exact ⟨_, _, _, rfl, hq3, HH.out, HP.out, hb4⟩

def lenV : Value → Nat | .slice _ n _ => n | _ => 0
theorem QAt.far {w w' : World} {base b : Nat} {v : Value} {l : List DP} (h : QAt w base b v l) (hb : w'.heap[b]? = w.heap[b]?) (hg : ∀ g, v.ownBlock = some g → w'.heap[g]? = w.heap[g]?) : QAt w' base b v l := by
  refine ⟨h.hb, hb.trans h.box, ?_⟩
  obtain ⟨h1, h2⟩ := h.own
  refine ⟨h1, ?_⟩
  rcases h2 with h2 | ⟨g, cap, cur, hv, hgb, hh, r⟩
  · exact .inl h2
  · exact .inr ⟨g, cap, cur, hv, hgb, (hg g (by rw [hv]; rfl)).trans hh, r⟩
theorem own_far {w w' : World} {base size n : Nat} {e : TypeId} {v : Value} {xs : List Value} (h : w.ownsRow base e size v n xs) (hg : ∀ g, v.ownBlock = some g → w'.heap[g]? = w.heap[g]?) : w'.ownsRow base e size v n xs := by
  obtain ⟨h1, h2⟩ := h
  refine ⟨h1, ?_⟩
  rcases h2 with h2 | ⟨g, cap, cur, hv, hgb, hh, r⟩
  · exact .inl h2
  · exact .inr ⟨g, cap, cur, hv, hgb, (hg g (by rw [hv]; rfl)).trans hh, r⟩
theorem Fr2.growFar {w w' w'' : World} {b : Nat} {o r : Option Nat} (h : Fr2 b o w w') (k : w'.grownBy w'' r) (hr : ∀ j, r = some j → w.heap.size ≤ j) : Fr2 b o w w'' :=
  ⟨k.os.trans h.os, k.tape.trans h.tape, k.output.trans h.output, Nat.le_trans h.size k.size, fun i hi hb hg => (k.block i (Nat.lt_of_lt_of_le hi h.size) (fun e => by have := hr i e.symm; omega)).trans (h.block i hi hb hg)⟩
/-- what comes off ahead of the first one that stays; the others -/
def offF (p : DP → Bool) (l : List DP) : List DP := l.takeWhile fun d => !p d
def restF (p : DP → Bool) (l : List DP) : List DP := l.dropWhile fun d => !p d

set_option maxRecDepth 100000 in
set_option maxHeartbeats 4000000 in
theorem come_any (base b : Nat) (v : Value) (l : List DP) (f : Nat) (lb : Array Value) (p : DP → Bool) (B : Option Nat) (w : World) (hf : Tells f lb p B w) (he : ∀ args w, (callFunc f args).run Try.prog w = .ok (.enter f args) w)
    (hq : QAt w base b v l) (hh : Heap l) (hl : l.length < 1000000) (hBb : B ≠ some b) (hBv : ∀ k, B = some k → v.ownBlock ≠ some k) :
    Calls Try.prog 28 #[.pointer (some ⟨b, 0, none⟩), .func (.func f) #[] lb] w fun e w' =>
      ∃ u, e = .returned u ∧ w'.ownsRow w.heap.size 24 2 u (offF p (srt l)).length (rowD (offF p (srt l))) ∧
        ∃ v' m, QAt w' base b v' m ∧ Heap m ∧ srt m = restF p (srt l) ∧ m.length ≤ l.length ∧ v'.ownBlock = v.ownBlock ∧ Fr2 b v.ownBlock w w' := by
  obtain ⟨i0, hi, hz0, hz1, hz2⟩ := info_partsD infoDue
  obtain ⟨R, hR⟩ : ∃ R, R = offF p (srt l) := ⟨_, rfl⟩
  rw [← hR]
  have HR := Lib.hid hR
  have HH := Lib.hid hh
  clear hR hh
  go_enter Try.func28, Try.ntmps28
  go_wp2_with fail
  go_step3
  go_wp2_with fail
  go_step3
  go_wp2_with fail
  go_loopw [5] (fun x wr => ∃ (ks m : List DP) (v' : Value), wr.ownsRow w.heap.size 24 2 x ks.length (rowD ks) ∧ QAt wr base b v' m ∧ v'.ownBlock = v.ownBlock ∧ Fr2 b v.ownBlock w wr ∧ ks.length + m.length = l.length ∧ Hid (Heap m ∧ R = ks ++ offF p (srt m) ∧ restF p (srt l) = restF p (srt m))) (fun x _ => l.length - lenV x)
  case atStart => exact ⟨[], l, v, World.ownsRow_nil _ _ _ _, hq, rfl, Fr2.refl _ _ _, by simp, Lib.hid ⟨HH.out, HR.out, rfl⟩⟩
  case round =>
    obtain ⟨ks, m, v', hown, hqm, hvv, hF, hlen, HM⟩ := hrel
    have hB : ∀ k, B = some k → wr.heap[k]? = w.heap[k]? := fun k hk => hF.block k (hf.1 k hk) (fun e => hBb (by rw [hk, e])) (hBv k hk)
    have hft := hf.kept hF.size hB
    have hbw := hq.box.lt
    have hvw : ∀ g, v.ownBlock = some g → g < w.heap.size := fun g hg => (hq.own.lt g hg).2
    have HQ := Lib.hid hq
    obtain ⟨A5, c5, rfl, -, -⟩ := vals_of_own hown
    rcases hqm.cases with ⟨rfl, rfl⟩ | ⟨g, cap, rfl, hg, hRm⟩
    · have c0 := hqm.box.c
      have HE : Hid (R = ks ∧ srt [] = restF p (srt l)) := Lib.hid (by
        obtain ⟨h1, h2, h3⟩ := HM.out
        exact ⟨by rw [h2]; exact List.append_nil ks, h3.symm⟩)
      have HO := Lib.hid hown
      have HM2 := Lib.hid hqm
      clear hq HM hf hft hB hown hqm he hi hz0 hz1 hz2 HQ hbw hvw
      go_wp2_with fail
      refine (qlen_any none 0 0 wr).mono ?_
      rintro e w1 ⟨rfl, rfl⟩
      go_wp2
      rw [Exit.noGoto_ret]
      go_ret
      exact ⟨_, rfl, by rw [HE.out.1]; exact HO.out, _, [], HM2.out, heap_nil, HE.out.2, Nat.zero_le _, hvv, hF⟩
    · rcases Nat.eq_zero_or_pos m.length with h0 | h0
      · obtain rfl : m = [] := List.eq_nil_of_length_eq_zero h0
        have c0 := hqm.box.c
        have HE : Hid (R = ks ∧ srt [] = restF p (srt l)) := Lib.hid (by
          obtain ⟨h1, h2, h3⟩ := HM.out
          exact ⟨by rw [h2]; exact List.append_nil ks, h3.symm⟩)
        have HO := Lib.hid hown
        have HM2 := Lib.hid hqm
        clear hq HM hf hft hB hown hqm he hi hz0 hz1 hz2 HQ hbw hvw hRm
        dsimp only [List.length_nil] at c0
        go_wp2_with fail
        refine (qlen_any (some ⟨g, 0, none⟩) 0 cap wr).mono ?_
        rintro e w1 ⟨rfl, rfl⟩
        go_wp2
        rw [Exit.noGoto_ret]
        go_ret
        exact ⟨_, rfl, by rw [HE.out.1]; exact HO.out, _, [], HM2.out, heap_nil, HE.out.2, Nat.zero_le _, hvv, hF⟩
      · have c0 := hqm.box.c
        obtain ⟨x1, x2, -⟩ := hRm.at 0 h0
        have HS := Lib.hid (pop_srt h0 HM.out.1)
        have hC := hft.2 wr (atD m 0) (fun _ _ => rfl)
        have t1 : (((m.length : Nat) : Int) == 0) = false := by rw [beq_eq_false_iff_ne]; omega
        have t2 : ¬ (((m.length : Nat) : Int) = 0) := by omega
        have t3 : (0 : Int) < ((m.length : Nat) : Int) := by omega
        obtain ⟨d, hd⟩ : ∃ d, d = atD m 0 := ⟨_, rfl⟩
        rw [← hd] at x1 x2 HS hC
        have HD := Lib.hid hd
        clear hd
        obtain ⟨q, hpq⟩ : ∃ q, q = p d := ⟨_, rfl⟩
        rw [← hpq] at hC
        have HPQ := Lib.hid hpq
        clear hpq
        have hC' : Calls Try.prog f (#[.agg #[.int .i64 d.a, .int .i64 d.i]] ++ lb) wr fun e W' => e = .returned (.bool q) ∧ Below wr.heap.size wr W' := hC
        obtain ⟨n, hn⟩ : ∃ n, n = m.length := ⟨_, rfl⟩
        have HQm := Lib.hid hqm
        rw [← hn] at c0 t1 t2 t3
        have HNm := Lib.hid hn
        have HLn := Lib.hid hlen
        have x1' : wr.cell? ⟨g, 0, none⟩ = some (.int .i64 d.a) := by rw [Nat.zero_mul] at x1; exact x1
        have x2' : wr.cell? ⟨g, 1, none⟩ = some (.int .i64 d.i) := by rw [Nat.zero_mul] at x2; exact x2
        have HO := Lib.hid hown
        clear hC hq hqm hft hf hB hn hlen x1 x2 hown hRm
        go_wp2_with fail
        refine (qlen_any (some ⟨g, 0, none⟩) n cap wr).mono ?_
        rintro e w1 ⟨rfl, rfl⟩
        go_wp2_with fail
        refine hC'.mono ?_
        rintro e w2 ⟨rfl, hb2⟩
        have hq2 := HQm.out.kept hb2
        have hF2 : Fr2 b v.ownBlock w w2 := hF.trans (Fr2.of (o := v.ownBlock) hb2) (fun g h => .inl h)
        have hO2 := own_far HO.out (w' := w2) (fun k hk => hb2.block k (HO.out.lt k hk).2)
        clear hC' hF c0 x1' x2' t1 t2 t3
        cases q
        · have hpop := hpop_any base b _ m w2 hq2 h0 (by have := HLn.out; omega)
          rw [← HD.out] at hpop
          have hpop' : Calls Try.prog 41 #[ifQ b] w2 fun e w' => e = .returned (.iface 24 (.agg #[.int .i64 d.a, .int .i64 d.i])) ∧ ∃ v', QAt w' base b v' (popF m) ∧ Fr2 b (Value.slice (some ⟨g, 0, none⟩) m.length cap).ownBlock w2 w' ∧ v'.ownBlock = (Value.slice (some ⟨g, 0, none⟩) m.length cap).ownBlock := hpop
          have HM3 : Hid (Heap (popF m) ∧ R = (ks ++ [d]) ++ offF p (srt (popF m)) ∧ restF p (srt l) = restF p (srt (popF m))) := Lib.hid (by
            obtain ⟨h1, h2, h3⟩ := HM.out
            have hp := HPQ.out.symm
            refine ⟨popF_heap h0 h1, ?_, ?_⟩
            · rw [h2, HS.out]; simp [offF, hp]
            · rw [h3, HS.out]; simp [restF, hp])
          have HL3 : Hid ((ks ++ [d]).length = ks.length + 1 ∧ (ks ++ [d]).length + (popF m).length = l.length) := Lib.hid (by
            have h1 := HLn.out
            have h2 := popF_len (l := m)
            simp
            omega)
          have hTA : ∀ (t : TypeId) w, (Instr.typeAssert (.iface 24 (.agg #[.int .i64 d.a, .int .i64 d.i])) t 24 false).run Try.prog w = .ok (.agg #[.int .i64 d.a, .int .i64 d.i]) w := fun _ _ => by kernel_rfl
          clear HM HS HPQ HD hpop hb2 hq2 HO HQm he
          obtain ⟨da, di⟩ := d
          dsimp only at *
          go_wp2_with fail
          refine hpop'.mono ?_
          rintro e w3 ⟨rfl, v3, hq3, hF3, hvv3⟩
          have hO3 := own_far hO2 (w' := w3) (fun k hk => by
            obtain ⟨k1, k2⟩ := hO2.lt k hk
            refine hF3.block k k2 (by omega) (fun e => ?_)
            have := hvw k (hvv.symm.trans e)
            omega)
          have hF4 : Fr2 b v.ownBlock w w3 := hF2.trans hF3 (fun g h => .inl (hvv.symm.trans h))
          have hs3 := hF4.size
          have hO3a : (w3.alloc (.cells #[.int .i64 da, .int .i64 di] 24)).ownsRow w.heap.size 24 2 (.slice A5 ks.length c5) ks.length (rowD ks) := hO3.alloc _
          have hb3 : Below w3.heap.size w3 (w3.alloc (.cells #[.int .i64 da, .int .i64 di] 24)) := (Below.refl _ w3).alloc (Nat.le_refl _) _
          have hq4 := hq3.kept hb3
          have hF5 : Fr2 b v.ownBlock w (w3.alloc (.cells #[.int .i64 da, .int .i64 di] 24)) := hF4.trans (Fr2.of (o := v.ownBlock) hb3) (fun g h => .inl h)
          have HC := Lib.hid (cell_two w3 (.int .i64 da) (.int .i64 di) 24)
          have HS3 := Lib.hid (rowD_snoc ks ⟨da, di⟩)
          have ml : ks.length + 1 ≤ maxLen := by have := HLn.out; unfold maxLen; omega
          have h2 : (ks.length + 1) * 16 ≤ 140737488355328 := by have := HLn.out; omega
          have hsz : w.heap.size ≤ (w3.alloc (.cells #[.int .i64 da, .int .i64 di] 24)).heap.size := by simp; omega
          have HQ4 := Lib.hid hq4
          have HF5 := Lib.hid hF5
          have HO3 := Lib.hid hO3
          clear hpop' hO2 hF2 hq3 hF3 hF4 hb3 hq4 hF5 hO3
          generalize rowD ks = row at *
          clear HLn
          go_wp2_with (at_builtin; refine wpList_append_lies _ rfl _ _ 22 rfl w.heap.size 24 i0 (.agg #[.int .i64 0, .int .i64 0]) 2 16 Try.underlying22 hi hz0 hz1 hz2 rfl (by decide) (.slice A5 ks.length c5) ks.length row rfl hO3a ⟨w3.heap.size, 0, none⟩ 1 1 [.int .i64 da, .int .i64 di] rfl rfl HC.out ?s1 (by decide) ml h2 hsz (w3.heap.size + 1) ?s2 ?s3)
          case s1 => simp [Value.oneCell']
          case s2 => simp
          case s3 =>
            intro g5 cap5 w5 hown5 hgrow5 hat5 hlt5
            have hbig : ∀ k, (Value.slice A5 ks.length c5).ownBlock = some k → w.heap.size ≤ k := fun k hk => (HO3.out.lt k hk).1
            have hq5 : QAt w5 base b v3 (popF m) := HQ4.out.far (hgrow5.block b (by simp; omega) (fun e => by have := hbig b e.symm; omega)) (fun k hk => hgrow5.block k ((HQ4.out.own.lt k hk).2) (fun e => by
              have h1 := hbig k e.symm
              have h2 := hvw k (hvv.symm.trans (hvv3.symm.trans hk))
              omega))
            have hF5 := HF5.out.growFar hgrow5 hbig
            have HR5 : Hid (w5.ownsRow w.heap.size 24 2 (.slice (some ⟨g5, 0, none⟩) (ks ++ [(⟨da, di⟩ : DP)]).length cap5) (ks ++ [(⟨da, di⟩ : DP)]).length (rowD (ks ++ [⟨da, di⟩]))) := Lib.hid (by rw [HL3.out.1, HS3.out]; exact hown5)
            have HL5 := Lib.hid HL3.out.1
            have HQ5 := Lib.hid hq5
            have HF6 := Lib.hid hF5
            clear hown5 hgrow5 hat5 hlt5 hq5 hF5 HC HS3 HQ4 HF5 HO3 hbig hO3a ml h2 hsz hTA
            go_wp2
            go_roundw
            case rel => exact ⟨ks ++ [⟨da, di⟩], popF m, v3, by rw [← HL5.out]; exact HR5.out, HQ5.out, hvv3.trans hvv, HF6.out, HL3.out.2, HM3⟩
            case measure => have h1 := HL3.out; simp only [lenV]; omega
        · have HE : Hid (R = ks ∧ srt m = restF p (srt l)) := Lib.hid (by
            obtain ⟨h1, h2, h3⟩ := HM.out
            have hp := HPQ.out.symm
            exact ⟨by rw [h2, HS.out]; simp [offF, hp], by rw [h3, HS.out]; simp [restF, hp]⟩)
          have HM2 := Lib.hid hq2
          have HO2 := Lib.hid hO2
          clear hq2 hO2 hi hz0 hz1 hz2 he hb2 HO
          go_wp2
          rw [Exit.noGoto_ret]
          go_ret
          exact ⟨_, rfl, by rw [HE.out.1]; exact HO2.out, _, m, HM2.out, HM.out.1, HE.out.2, by have := HLn.out; omega, hvv, hF2⟩
end Go.Proofs.Ytlbmkokdoigcnaa
