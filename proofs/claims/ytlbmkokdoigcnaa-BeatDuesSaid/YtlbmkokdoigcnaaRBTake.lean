/-
  interchangeref12.Take: as the program's is. Nothing that was there is changed. Conditions: less than a million places; the row lies in old memory.
-/
import Derived.Test.YtlbmkokdoigcnaaRBOrd
import Derived.Test.YtlbmkokdoigcnaaRBSame
import Derived.Test.YtlbmkokdoigcnaaPBeatL
namespace Go.Proofs.Ytlbmkokdoigcnaa
open Go.RowKit Go.Shelf

/-- of the first k: what is taken, what is left -/
def gone (now : Int) (m : List DP) (k : Nat) : List DP := (m.take k).filter fun d => !laterF now d
def left (now : Int) (m : List DP) (k : Nat) : List DP := (m.take k).filter fun d => laterF now d
theorem gone_succ (now : Int) {m : List DP} {k : Nat} (h : k < m.length) : gone now m (k + 1) = if laterF now (atD m k) = true then gone now m k else gone now m k ++ [atD m k] := by
  rw [gone, take_snoc h, List.filter_append, gone]
  cases h2 : laterF now (atD m k) <;> simp [h2]
theorem left_succ (now : Int) {m : List DP} {k : Nat} (h : k < m.length) : left now m (k + 1) = if laterF now (atD m k) = true then left now m k ++ [atD m k] else left now m k := by
  rw [left, take_snoc h, List.filter_append, left]
  cases h2 : laterF now (atD m k) <;> simp [h2]
theorem gone_len (now : Int) (m : List DP) (k : Nat) : (gone now m k).length ≤ m.length := by
  refine Nat.le_trans (List.length_filter_le _ _) ?_
  rw [List.length_take]
  omega
theorem left_len (now : Int) (m : List DP) (k : Nat) : (left now m k).length ≤ m.length := by
  refine Nat.le_trans (List.length_filter_le _ _) ?_
  rw [List.length_take]
  omega
theorem gone_all (now : Int) (l : List DP) : gone now (srt l) (srt l).length = offF (laterF now) (srt l) ∧ left now (srt l) (srt l).length = restF (laterF now) (srt l) := by
  rw [gone, left, List.take_length]
  have h1 : ∀ x ∈ offF (laterF now) (srt l), laterF now x = false := off_all _
  have h2 : ∀ x ∈ restF (laterF now) (srt l), laterF now x = true := fun x hx => by
    have := rest_all now (srt_sorted l) x hx
    simp [laterF, this]
  have e := off_rest (laterF now) (srt l)
  generalize offF (laterF now) (srt l) = a at *
  generalize restF (laterF now) (srt l) = b at *
  rw [← e, List.filter_append, List.filter_append]
  have a1 : a.filter (fun d => !laterF now d) = a := List.filter_eq_self.2 (fun x hx => by simp [h1 x hx])
  have a2 : b.filter (fun d => !laterF now d) = [] := List.filter_eq_nil_iff.2 (fun x hx => by simp [h2 x hx])
  have b1 : a.filter (fun d => laterF now d) = [] := List.filter_eq_nil_iff.2 (fun x hx => by simp [h1 x hx])
  have b2 : b.filter (fun d => laterF now d) = b := List.filter_eq_self.2 (fun x hx => h2 x hx)
  rw [a1, a2, b1, b2]
  simp
/-- rows of two types share no block -/
theorem rows_apart {w : World} {b1 b2 : Nat} {s1 s2 n1 n2 : Nat} {t1 t2 : TypeId} {v1 v2 : Value} {l1 l2 : List Value} (h1 : w.ownsRow b1 t1 s1 v1 n1 l1) (h2 : w.ownsRow b2 t2 s2 v2 n2 l2) (hne : t1 ≠ t2) : ∀ g, v1.ownBlock = some g → v2.ownBlock ≠ some g := by
  intro g e1 e2
  obtain ⟨-, ⟨rfl, -⟩ | ⟨g1, c1, cur1, rfl, -, hb1, -⟩⟩ := h1
  · cases e1
  obtain ⟨-, ⟨rfl, -⟩ | ⟨g2, c2, cur2, rfl, -, hb2, -⟩⟩ := h2
  · cases e2
  cases e1
  cases e2
  rw [hb1] at hb2
  simp only [Option.some.injEq, Obj.cells.injEq] at hb2
  exact hne hb2.2.1

set_option maxRecDepth 100000 in
set_option maxHeartbeats 8000000 in
theorem rtake_any (A : Option Addr) (cap : Nat) (l : List DP) (now : Int) (w : World) (hA : InD w A cap l) (hl : l.length < 999999) :
    Calls Try.prog 12 #[.slice A l.length cap, .int .i64 now] w fun e w' => ∃ u v, e = .returned (.tuple #[u, v]) ∧
      w'.ownsRow w.heap.size 24 2 u (restF (laterF now) (srt l)).length (rowD (restF (laterF now) (srt l))) ∧
      w'.ownsRow w.heap.size 3 1 v (offF (laterF now) (srt l)).length (intVals (idsOf (offF (laterF now) (srt l)))) ∧ Below w.heap.size w w' := by
  obtain ⟨i0, hi, hz0, hz1, hz2⟩ := info_partsD infoDue
  obtain ⟨j0, ji, jz0, jz1, jz2⟩ := info_partsD infoIntD
  have hO := ordered_any A cap l w hA (by omega)
  obtain ⟨ga, la⟩ := gone_all now l
  rw [← ga, ← la]
  have hml := srt_length l
  generalize srt l = m at *
  obtain ⟨n, hn⟩ : ∃ n, n = m.length := ⟨_, rfl⟩
  obtain ⟨nl, hnl⟩ : ∃ nl, nl = l.length := ⟨_, rfl⟩
  obtain rfl : nl = n := by omega
  rw [← hnl] at hO
  rw [← hnl, ← hn]
  have HN := Lib.hid hn
  have hn2 : nl < 999999 := by omega
  clear hA hl hml ga la hn hnl
  go_enter Try.func12, Try.ntmps12
  go_wp2_with fail
  refine hO.mono ?_
  rintro e w1 ⟨u, rfl, hu, hb1⟩
  have hin : ∃ A1 c1, u = .slice A1 nl c1 ∧ InD w1 A1 c1 m := by
    rw [HN.out] at hu ⊢
    exact InD.of_own hu
  obtain ⟨A1, c1, rfl, hin⟩ := hin
  have HIn := Lib.hid hin
  have HB1 := Lib.hid hb1
  clear hO hu hb1 hin
  go_wp2_with fail
  go_loopw [7, 8, 9] (fun x y z wr => ∃ k : Nat, z = .int .i64 k ∧ k ≤ nl ∧ wr.ownsRow w1.heap.size 3 1 x (gone now m k).length (intVals (idsOf (gone now m k))) ∧ wr.ownsRow w1.heap.size 24 2 y (left now m k).length (rowD (left now m k)) ∧ Below w1.heap.size w1 wr) (fun _ _ z _ => nl - (intOf z).toNat)
  case atStart => exact ⟨0, rfl, Nat.zero_le _, World.ownsRow_nil _ _ _ _, World.ownsRow_nil _ _ _ _, Below.refl _ _⟩
  case round =>
    obtain ⟨k, rfl, hk, hox, hoy, hb⟩ := hrel
    by_cases hlt : k < nl
    · have hnl := HN.out
      obtain ⟨g0, o0, rfl, hg0, hcs⟩ := vals_d (HIn.out.below hb).1 (by omega)
      obtain ⟨c1, c2⟩ := hcs k (by omega)
      have hG := gone_succ now (m := m) (k := k) (by omega)
      have hL := left_succ now (m := m) (k := k) (by omega)
      have hgl := gone_len now m k
      have hll := left_len now m k
      generalize gone now m k = gn at *
      generalize left now m k = lf at *
      have e1 : IntKind.i64.wrap ((k : Int) + 1) = ((k + 1 : Nat) : Int) := by simp only [IntKind.wrap_i64]; omega
      have k0 : (0 : Int) ≤ (k : Int) := by omega
      have k1 : (k : Int) < (nl : Int) := by omega
      generalize atD m k = d at *
      obtain ⟨da, di⟩ := d
      dsimp only at c1 c2
      have hs := hb.size
      have hgl2 : gn.length < 999999 := by omega
      have hll2 : lf.length < 999999 := by omega
      clear hcs hnl hgl hll
      rcases Bool.eq_false_or_eq_true (decide (da ≤ now)) with t1 | t1
      · have hF : laterF now ⟨da, di⟩ = false := by simp [laterF] at t1 ⊢; omega
        have HG : Hid (gone now m (k + 1) = gn ++ [⟨da, di⟩]) := Lib.hid (by rw [hG, hF]; rfl)
        have HL : Hid (left now m (k + 1) = lf) := Lib.hid (by rw [hL, hF]; rfl)
        have hown2 : (wr.alloc (.cells #[.int .i64 di] 3)).ownsRow w1.heap.size 3 1 _ gn.length (intVals (idsOf gn)) := hox.alloc _
        have HC := Lib.hid (cell_one wr (.int .i64 di) 3)
        have HB2 := Lib.hid (hb.alloc hs (.cells #[.int .i64 di] 3))
        have HLt := Lib.hid hox.lt
        have HAp := Lib.hid (rows_apart hox hoy (by decide))
        have HY := Lib.hid (hoy.alloc (.cells #[.int .i64 di] 3))
        have HSn : Hid (intVals (idsOf (gn ++ [(⟨da, di⟩ : DP)])) = intVals (idsOf gn) ++ [.int .i64 di]) := Lib.hid (by rw [idsOf_snoc, intVals_snoc])
        have HSl : Hid ((gn ++ [(⟨da, di⟩ : DP)]).length = gn.length + 1) := Lib.hid (by simp)
        have ml : gn.length + 1 ≤ maxLen := by unfold maxLen; omega
        have h2 : (gn.length + 1) * 8 ≤ 140737488355328 := by omega
        have hsz : w1.heap.size ≤ (wr.alloc (.cells #[.int .i64 di] 3)).heap.size := by simp; omega
        obtain ⟨Ax, cx, rfl, -⟩ := vals_of_row hox
        obtain ⟨Ay, cy, rfl, -, -⟩ := vals_of_own hoy
        clear hox hoy hG hL hb hF
        generalize intVals (idsOf gn) = row at *
        go_wp2_with (at_builtin; refine wpList_append_lies _ rfl _ _ 28 rfl w1.heap.size 3 j0 (.int .i64 0) 1 8 Try.underlying28 ji jz0 jz1 jz2 rfl (by decide) (.slice Ax gn.length cx) gn.length row rfl hown2 ⟨wr.heap.size, 0, none⟩ 1 1 [.int .i64 di] rfl rfl HC.out ?s1 (by decide) ml h2 hsz (wr.heap.size + 1) ?s2 ?s3)
        case s1 => simp [Value.oneCell']
        case s2 => simp
        case s3 =>
          intro g5 cap5 w5 hown5 hgrow5 hat5 hlt5
          have hb5 : Below w1.heap.size w1 w5 := HB2.out.grown hgrow5 hsz (fun j hj => (HLt.out j hj).1)
          have hy5 := own_far HY.out (w' := w5) (fun j hj => hgrow5.block j ((HY.out.lt j hj).2) (fun e => HAp.out j e.symm hj))
          have HO5 : Hid (w5.ownsRow w1.heap.size 3 1 (.slice (some ⟨g5, 0, none⟩) (gn ++ [(⟨da, di⟩ : DP)]).length cap5) (gn ++ [(⟨da, di⟩ : DP)]).length (intVals (idsOf (gn ++ [⟨da, di⟩])))) := Lib.hid (by rw [HSl.out, HSn.out]; exact hown5)
          have HY5 := Lib.hid hy5
          have HSl2 := Lib.hid HSl.out
          clear hown5 hgrow5 hat5 hlt5 hown2 HC HSn HB2 HLt HSl ml h2 hsz c1 c2 hy5 HY HAp
          go_wp2
          go_roundw
          case rel => exact ⟨k + 1, rfl, hlt, by rw [HG.out, ← HSl2.out]; exact HO5.out, by rw [HL.out]; exact HY5.out, hb5⟩
          case measure => simp only [intOf]; omega
      · have hF : laterF now ⟨da, di⟩ = true := by simp [laterF] at t1 ⊢; omega
        have HG : Hid (gone now m (k + 1) = gn) := Lib.hid (by rw [hG, hF]; rfl)
        have HL : Hid (left now m (k + 1) = lf ++ [⟨da, di⟩]) := Lib.hid (by rw [hL, hF]; rfl)
        have hown2 : (wr.alloc (.cells #[.int .i64 da, .int .i64 di] 24)).ownsRow w1.heap.size 24 2 _ lf.length (rowD lf) := hoy.alloc _
        have HC := Lib.hid (cell_two wr (.int .i64 da) (.int .i64 di) 24)
        have HB2 := Lib.hid (hb.alloc hs (.cells #[.int .i64 da, .int .i64 di] 24))
        have HLt := Lib.hid hoy.lt
        have HAp := Lib.hid (rows_apart hoy hox (by decide))
        have HX := Lib.hid (hox.alloc (.cells #[.int .i64 da, .int .i64 di] 24))
        have HSn := Lib.hid (rowD_snoc lf ⟨da, di⟩)
        have HSl : Hid ((lf ++ [(⟨da, di⟩ : DP)]).length = lf.length + 1) := Lib.hid (by simp)
        have ml : lf.length + 1 ≤ maxLen := by unfold maxLen; omega
        have h2 : (lf.length + 1) * 16 ≤ 140737488355328 := by omega
        have hsz : w1.heap.size ≤ (wr.alloc (.cells #[.int .i64 da, .int .i64 di] 24)).heap.size := by simp; omega
        obtain ⟨Ax, cx, rfl, -⟩ := vals_of_row hox
        obtain ⟨Ay, cy, rfl, -, -⟩ := vals_of_own hoy
        clear hox hoy hG hL hb hF
        generalize rowD lf = row at *
        go_wp2_with (at_builtin; refine wpList_append_lies _ rfl _ _ 22 rfl w1.heap.size 24 i0 (.agg #[.int .i64 0, .int .i64 0]) 2 16 Try.underlying22 hi hz0 hz1 hz2 rfl (by decide) (.slice Ay lf.length cy) lf.length row rfl hown2 ⟨wr.heap.size, 0, none⟩ 1 1 [.int .i64 da, .int .i64 di] rfl rfl HC.out ?s1 (by decide) ml h2 hsz (wr.heap.size + 1) ?s2 ?s3)
        case s1 => simp [Value.oneCell']
        case s3 =>
          intro g5 cap5 w5 hown5 hgrow5 hat5 hlt5
          have hb5 : Below w1.heap.size w1 w5 := HB2.out.grown hgrow5 hsz (fun j hj => (HLt.out j hj).1)
          have hy5 := own_far HX.out (w' := w5) (fun j hj => hgrow5.block j ((HX.out.lt j hj).2) (fun e => HAp.out j e.symm hj))
          have HO5 : Hid (w5.ownsRow w1.heap.size 24 2 (.slice (some ⟨g5, 0, none⟩) (lf ++ [(⟨da, di⟩ : DP)]).length cap5) (lf ++ [(⟨da, di⟩ : DP)]).length (rowD (lf ++ [⟨da, di⟩]))) := Lib.hid (by rw [HSl.out, HSn.out]; exact hown5)
          have HX5 := Lib.hid hy5
          have HSl2 := Lib.hid HSl.out
          clear hown5 hgrow5 hat5 hlt5 hown2 HC HSn HB2 HLt HSl ml h2 hsz c1 c2 hy5 HX HAp
          go_wp2
          go_roundw
          case rel => exact ⟨k + 1, rfl, hlt, by rw [HG.out]; exact HX5.out, by rw [HL.out, ← HSl2.out]; exact HO5.out, hb5⟩
          case measure => simp only [intOf]; omega
    · obtain rfl : k = nl := by omega
      have hs := HB1.out.size
      have HX := Lib.hid (own_down hox hs)
      have HY := Lib.hid (own_down hoy hs)
      have hb2 := HB1.out.trans (hb.mono hs)
      clear hox hoy hb HIn HB1
      go_wp2
      go_ret2
      exact ⟨_, _, rfl, HY.out, HX.out, hb2⟩
end Go.Proofs.Ytlbmkokdoigcnaa
