/-
  interchangeref12.Drop and Next: as the program's are. Nothing that was there is changed. Conditions: less than a million places; the row lies in old memory.
-/
import Derived.Laws.ResultCell
import Derived.Test.YtlbmkokdoigcnaaJMem
import Derived.Test.YtlbmkokdoigcnaaRBOrd
import Derived.Test.YtlbmkokdoigcnaaWBeatN
namespace Go.Proofs.Ytlbmkokdoigcnaa
open Go.RowKit Go.Shelf

theorem kept_take_in {p : DP → Bool} {l : List DP} {k : Nat} (h : k < l.length) (hp : p (atD l k) = false) : kept p (l.take (k + 1)) = kept p (l.take k) ++ [atD l k] := by rw [take_snoc h, kept_snoc_in hp]
theorem kept_take_out {p : DP → Bool} {l : List DP} {k : Nat} (h : k < l.length) (hp : p (atD l k) = true) : kept p (l.take (k + 1)) = kept p (l.take k) := by rw [take_snoc h, kept_snoc_out hp]
theorem kept_take_len {p : DP → Bool} {l : List DP} (k : Nat) : (kept p (l.take k)).length ≤ l.length := by
  refine Nat.le_trans (kept_len _ _) ?_
  rw [List.length_take]
  omega

set_option maxRecDepth 100000 in
set_option maxHeartbeats 4000000 in
theorem rdrop_any (A : Option Addr) (cap : Nat) (l : List DP) (id : Int) (w : World) (hA : InD w A cap l) (hl : l.length < 999999) :
    Calls Try.prog 19 #[.slice A l.length cap, .int .i64 id] w fun e w' => ∃ u, e = .returned u ∧ w'.ownsRow w.heap.size 24 2 u (srt (dropF id l)).length (rowD (srt (dropF id l))) ∧ Below w.heap.size w w' := by
  obtain ⟨i0, hi, hz0, hz1, hz2⟩ := info_partsD infoDue
  obtain ⟨n, hn⟩ : ∃ n, n = l.length := ⟨_, rfl⟩
  rw [← hn] at hl
  rw [← hn]
  have HN := Lib.hid hn
  have HA := Lib.hid hA
  clear hn hA
  go_enter Try.func19, Try.ntmps19
  go_wp2_with fail
  go_loopw [5, 6] (fun x y wr => ∃ k : Nat, y = .int .i64 k ∧ k ≤ n ∧ wr.ownsRow w.heap.size 24 2 x (kept (fun d => d.i == id) (l.take k)).length (rowD (kept (fun d => d.i == id) (l.take k))) ∧ Below w.heap.size w wr) (fun _ y _ => n - (intOf y).toNat)
  case atStart => exact ⟨0, rfl, Nat.zero_le _, by simp only [List.take_zero, kept_nil]; exact World.ownsRow_nil _ _ _ _, Below.refl _ _⟩
  case round =>
    obtain ⟨k, rfl, hk, hown, hb⟩ := hrel
    by_cases hlt : k < n
    · have hnl := HN.out
      obtain ⟨g0, o0, rfl, hg0, hcs⟩ := vals_d (HA.out.below hb).1 (by omega)
      obtain ⟨c1, c2⟩ := hcs k (by omega)
      have HIn := Lib.hid (kept_take_in (p := fun d => d.i == id) (l := l) (k := k) (by omega))
      have HOut := Lib.hid (kept_take_out (p := fun d => d.i == id) (l := l) (k := k) (by omega))
      have hml := kept_take_len (p := fun d => d.i == id) (l := l) k
      generalize kept (fun d => d.i == id) (l.take k) = m at *
      have e1 : IntKind.i64.wrap ((k : Int) + 1) = ((k + 1 : Nat) : Int) := by simp only [IntKind.wrap_i64]; omega
      have k0 : (0 : Int) ≤ (k : Int) := by omega
      have k1 : (k : Int) < (n : Int) := by omega
      obtain ⟨d, hd⟩ : ∃ d, d = atD l k := ⟨_, rfl⟩
      rw [← hd] at c1 c2 HIn HOut
      clear hd hcs
      obtain ⟨da, di⟩ := d
      dsimp only at c1 c2 HIn HOut
      have hm200 : m.length < 999999 := by omega
      have hs := hb.size
      clear hml hnl
      rcases Bool.eq_false_or_eq_true (di == id) with t1 | t1
      · have HE := Lib.hid (HOut.out t1)
        have t2 : (di != id) = false := by simp [bne, t1]
        clear HIn HOut
        go_wp2
        go_roundw
        case rel => exact ⟨k + 1, rfl, hlt, by rw [HE.out]; exact hown, hb⟩
        case measure => simp only [intOf]; omega
      · have HE := Lib.hid (HIn.out t1)
        have t2 : (di != id) = true := by simp [bne, t1]
        have HL : Hid (∀ x : DP, (m ++ [x]).length = m.length + 1) := Lib.hid (fun x => by simp)
        have HSn := Lib.hid (rowD_snoc m ⟨da, di⟩)
        have hown2 : (wr.alloc (.cells #[.int .i64 da, .int .i64 di] 24)).ownsRow w.heap.size 24 2 _ m.length (rowD m) := hown.alloc _
        have HC := Lib.hid (cell_two wr (.int .i64 da) (.int .i64 di) 24)
        have HB2 := Lib.hid (hb.alloc hs (.cells #[.int .i64 da, .int .i64 di] 24))
        have HLt := Lib.hid hown.lt
        have ml : m.length + 1 ≤ maxLen := by unfold maxLen; omega
        have h2 : (m.length + 1) * 16 ≤ 140737488355328 := by omega
        have hsz : w.heap.size ≤ (wr.alloc (.cells #[.int .i64 da, .int .i64 di] 24)).heap.size := by simp; omega
        obtain ⟨Ax, cx, rfl, -, -⟩ := vals_of_own hown
        clear hown HIn HOut hb
        generalize rowD m = row at *
        go_wp2_with (at_builtin; refine wpList_append_lies _ rfl _ _ 22 rfl w.heap.size 24 i0 (.agg #[.int .i64 0, .int .i64 0]) 2 16 Try.underlying22 hi hz0 hz1 hz2 rfl (by decide) (.slice Ax m.length cx) m.length row rfl hown2 ⟨wr.heap.size, 0, none⟩ 1 1 [.int .i64 da, .int .i64 di] rfl rfl HC.out ?s1 (by decide) ml h2 hsz (wr.heap.size + 1) ?s2 ?s3)
        case s1 => simp [Value.oneCell']
        case s3 =>
          intro g5 cap5 w5 hown5 hgrow5 hat5 hlt5
          have hb5 : Below w.heap.size w w5 := HB2.out.grown hgrow5 hsz (fun j hj => (HLt.out j hj).1)
          have HO5 : Hid (w5.ownsRow w.heap.size 24 2 (.slice (some ⟨g5, 0, none⟩) (m ++ [(⟨da, di⟩ : DP)]).length cap5) (m ++ [(⟨da, di⟩ : DP)]).length (rowD (m ++ [⟨da, di⟩]))) := Lib.hid (by rw [HL.out, HSn.out]; exact hown5)
          have HL2 := Lib.hid (HL.out ⟨da, di⟩)
          clear hown5 hgrow5 hat5 hlt5 hown2 HC HSn HB2 HLt HL ml h2 hsz c1 c2
          go_wp2
          go_roundw
          case rel => exact ⟨k + 1, rfl, hlt, by rw [HE.out, ← HL2.out]; exact HO5.out, hb5⟩
          case measure => simp only [intOf]; omega
    · obtain rfl : k = n := by omega
      have hnl := HN.out
      have hdr : kept (fun d => d.i == id) (l.take k) = dropF id l := by rw [List.take_of_length_le (by omega)]; rfl
      rw [hdr] at hown
      have hdl := kept_len (fun d => d.i == id) l
      have hdl2 : (dropF id l).length ≤ l.length := hdl
      obtain ⟨Ax, cx, rfl, hin⟩ := InD.of_own hown
      have hO := ordered_any Ax cx (dropF id l) wr hin (by omega)
      have hlen := srt_length (dropF id l)
      have HLn := Lib.hid hlen
      have hs := hb.size
      clear hown hdr hdl hdl2 hnl hlen hin hk
      go_wp2_with fail
      with_reducible refine hO.mono ?_
      rintro e w5 ⟨u, rfl, hu, hb5⟩
      have HU : Hid (w5.ownsRow w.heap.size 24 2 u (srt (dropF id l)).length (rowD (srt (dropF id l)))) := Lib.hid (by rw [HLn.out]; exact own_down hu hs)
      have hB5 := hb.trans (hb5.mono hs)
      clear hO hu hb5 hb
      go_wp2
      go_ret
      exact ⟨_, rfl, HU.out, hB5⟩

set_option maxRecDepth 100000 in
set_option maxHeartbeats 4000000 in
theorem rnext_any (A : Option Addr) (cap : Nat) (l : List DP) (w : World) (hA : InD w A cap l) (hl : l.length < 999999) :
    Calls Try.prog 14 #[.slice A l.length cap] w fun e w' => e = .returned (.tuple #[encD (firstF l), .bool (decide (0 < l.length))]) ∧ Below w.heap.size w w' := by
  rcases Nat.eq_zero_or_pos l.length with h0 | h0
  · obtain rfl : l = [] := List.eq_nil_of_length_eq_zero h0
    go_enter Try.func14, Try.ntmps14
    go_wp2
    refine bodyPost_ret (v := .tuple #[.agg #[.int .i64 0, .int .i64 0], .bool false]) ?_ rfl ⟨rfl, (Below.refl _ w).alloc (Nat.le_refl _) _⟩
    rw [results_cell_tmp rfl]
    simp [asAddr, Result.andThen, go_sem]
  · obtain ⟨n, hn⟩ : ∃ n, n = l.length := ⟨_, rfl⟩
    have t9 : ((n : Int) == 0) = false := by rw [beq_eq_false_iff_ne]; omega
    have t8 : ¬ ((n : Int) = 0) := by omega
    have HD : Hid (decide (0 < l.length) = true) := Lib.hid (by simpa using h0)
    rw [HD.out]
    obtain ⟨t, ht⟩ := first_srt h0
    obtain ⟨W0, hW0⟩ : ∃ W0, W0 = w.alloc (.cells #[.int .i64 0, .int .i64 0] 24) := ⟨_, rfl⟩
    have hb0 : Below w.heap.size w W0 := by rw [hW0]; exact (Below.refl _ w).alloc (Nat.le_refl _) _
    have hx0 : Bx W0 w.heap.size 24 [.int .i64 0, .int .i64 0] := by rw [hW0]; exact Bx.new w _ _
    have hO := ordered_any A cap l W0 (hA.below hb0) (by omega)
    rw [ht] at hO
    generalize firstF l = d at *
    obtain ⟨da, di⟩ := d
    unfold encD
    dsimp only
    rw [← hn] at hO
    rw [← hn]
    have hnp : 0 < n := by omega
    clear hn ht hA hl h0
    go_enter Try.func14, Try.ntmps14
    go_wp2_with fail
    rw [← hW0]
    clear hW0
    go_wp2_with fail
    refine hO.mono ?_
    rintro e w2 ⟨u, rfl, hu, hb2⟩
    have hx2 := hx0.kept hb2
    have hb3 := hb0.trans (hb2.mono hb0.size)
    obtain ⟨A2, c2, rfl, hv, -⟩ := vals_of_own hu
    obtain ⟨g, o, rfl, hgl, hc⟩ := hv (by rw [rowD_cons]; simp)
    have z0 := hc 0 (by rw [rowD_cons]; simp)
    have z1 := hc 1 (by rw [rowD_cons]; simp)
    simp only [rowD_cons, List.getElem_cons_zero, List.getElem_cons_succ, Nat.add_zero] at z0 z1
    have tn : (0 : Int) < (n : Int) := by omega
    obtain ⟨x0, f0, x1, f1, hX⟩ := store2_of hx2 (.int .i64 da) (.int .i64 di)
    have hB : Below w.heap.size w ((w2.setCell ⟨w.heap.size, 0, none⟩ (.int .i64 da)).setCell ⟨w.heap.size, 1, none⟩ (.int .i64 di)) := (hb3.setCell (p := ⟨w.heap.size, 0, none⟩) (Nat.le_refl _) _).setCell (p := ⟨w.heap.size, 1, none⟩) (Nat.le_refl _) _
    have y0 := hX.cell 0 (by simp)
    have y1 := hX.cell 1 (by simp)
    dsimp only [List.getElem_cons_zero, List.getElem_cons_succ] at y0 y1
    clear hO hu hb2 hb3 hb0 hv hc hx0 hx2 hX
    go_wp2
    refine bodyPost_ret (v := .tuple #[.agg #[.int .i64 da, .int .i64 di], .bool true]) ?_ rfl ⟨rfl, hB⟩
    rw [results_cell_tmp rfl]
    simp [asAddr, Result.andThen, go_sem, y0, y1]
end Go.Proofs.Ytlbmkokdoigcnaa
