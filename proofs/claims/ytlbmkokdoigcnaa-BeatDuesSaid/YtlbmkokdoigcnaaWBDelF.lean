/-
  slices.DeleteFunc of a row of one's own: what is not dropped, in order; nothing but that row is changed. Conditions: as at IndexFunc.
-/
import Derived.Laws.CopyRow
import Derived.Laws.CopyOwn
import Derived.Test.YtlbmkokdoigcnaaWBDel
namespace Go.Proofs.Ytlbmkokdoigcnaa
open Go.RowKit

theorem Bx.cell?' {w : World} {g i : Nat} {t : TypeId} {cur : List Value} (h : Bx w g t cur) : w.cell? ⟨g, i, none⟩ = cur[i]? := by
  simp [World.cell?, show w.heap[g]? = _ from h]
theorem Bx.cell? {w : World} {g i k : Nat} {t : TypeId} {cur : List Value} {v : Value} (h : Bx w g t cur) : (w.setCell ⟨g, k, none⟩ v).cell? ⟨g, i, none⟩ = (cur.set k v)[i]? := Bx.cell?' (h.set k v)
theorem clear_due (w : World) (g o m c : Nat) (cur : List Value) (hg : Bx w g 24 cur) (hm : 0 < m) (hfit : o + m * 2 ≤ cur.length) :
    ∃ w', (∀ ty, (Builtin.clear_ #[22] ty #[.slice (some ⟨g, o, none⟩) m c]).run Try.prog w = .ok (.tuple #[]) w') ∧ (∃ cur', Bx w' g 24 cur' ∧ cur'.length = cur.length ∧ cur'.take o = cur.take o) ∧ Fr1 g w w' := by
  obtain ⟨k, rfl⟩ : ∃ k, m = k + 1 := ⟨m - 1, by omega⟩
  obtain ⟨zs, hzs⟩ : ∃ zs, zs = (Builtin.zeroCells #[Value.int .i64 0, .int .i64 0] (k + 1)).toList := ⟨_, rfl⟩
  have hlen : zs.length = (k + 1) * 2 := by rw [hzs, Array.length_toList, size_zeroCells]; rfl
  have h1 : ∀ v ∈ zs, v.oneCell' = true := by
    intro v hv
    rw [hzs] at hv
    simp only [Builtin.zeroCells, Array.toList_map, List.mem_map, Array.toList_range] at hv
    obtain ⟨i, -, rfl⟩ := hv
    have : i % (#[Value.int .i64 0, .int .i64 0] : Array Value).size < 2 := Nat.mod_lt _ (by decide)
    generalize i % (#[Value.int .i64 0, .int .i64 0] : Array Value).size = j at this
    match j, this with
    | 0, _ => rfl
    | 1, _ => rfl
  have hst := run_storeCells_at Try.prog g o 24 zs 0 cur.toArray w hg (by simp only [List.size_toArray]; omega) h1
  simp only [Nat.add_zero] at hst
  obtain ⟨c2, hc2⟩ : ∃ c2 : List Value, c2 = cur.take o ++ zs ++ cur.drop (o + zs.length) := ⟨_, rfl⟩
  rw [← hc2] at hst
  refine ⟨w.setRow g c2.toArray, fun ty => ?_, ⟨c2, setRow_heap w g _ _ _ _ hg, ?_, ?_⟩, ⟨rfl, rfl, rfl, by simp [World.setRow], fun q _ hq => setRow_other w g q _ hq⟩⟩
  · rw [hzs] at hst
    simp [Builtin.clear_, run_underlying Try.underlying22, Try.zeroValue24, Value.cells, hst, Result.andThen]
  · rw [hc2]; simp [hlen]; omega
  · rw [hc2, List.append_assoc, List.take_append_of_le_length (by simp; omega), List.take_take]
    congr 1
    omega

/-- what is not dropped -/
def kept (p : DP → Bool) (l : List DP) : List DP := l.filter fun d => !p d
theorem kept_all {p : DP → Bool} : ∀ {l : List DP}, aheadOf p l = l.length → kept p l = l
  | [], _ => rfl
  | x :: l, h => by
    unfold aheadOf at h
    cases hx : p x
    · rw [List.takeWhile_cons, hx] at h
      simp only [Bool.not_false, if_true, List.length_cons, Nat.add_right_cancel_iff] at h
      have ih := kept_all (p := p) (l := l) h
      unfold kept at ih ⊢
      rw [List.filter_cons, hx, ih]
      rfl
    · rw [List.takeWhile_cons, hx] at h
      simp at h
theorem ahead_le (p : DP → Bool) (l : List DP) : aheadOf p l ≤ l.length := (List.takeWhile_prefix _).length_le
theorem ahead_take (p : DP → Bool) : ∀ l : List DP, aheadOf p l < l.length → kept p (l.take (aheadOf p l + 1)) = l.take (aheadOf p l)
  | [], h => by simp at h
  | x :: l, h => by
    unfold aheadOf kept at *
    cases hx : p x
    · rw [List.takeWhile_cons, hx] at h ⊢
      simp only [Bool.not_false, if_true, List.length_cons, List.take_succ_cons, List.filter_cons, hx] at h ⊢
      have ih := ahead_take p l (by unfold aheadOf; omega)
      unfold aheadOf kept at ih
      rw [ih]
    · rw [List.takeWhile_cons, hx]
      simp [hx]
theorem take_snoc {l : List DP} {j : Nat} (h : j < l.length) : l.take (j + 1) = l.take j ++ [atD l j] := by
  rw [List.take_add_one, List.getElem?_eq_getElem h, atD_lt h]; rfl
theorem kept_snoc_in {p : DP → Bool} {l : List DP} {x : DP} (h : p x = false) : kept p (l ++ [x]) = kept p l ++ [x] := by simp [kept, List.filter_append, h]
theorem kept_snoc_out {p : DP → Bool} {l : List DP} {x : DP} (h : p x = true) : kept p (l ++ [x]) = kept p l := by simp [kept, List.filter_append, h]
/-- so far: i of the first j are kept, and stand in front -/
def DelI (p : DP → Bool) (l m : List DP) (i j : Nat) : Prop := m.length = l.length ∧ i < j ∧ j ≤ l.length ∧ m.take i = kept p (l.take j) ∧ ∀ k, j ≤ k → atD m k = atD l k
theorem DelI.out {p : DP → Bool} {l m : List DP} {i j : Nat} (h : DelI p l m i j) (hj : j < l.length) (hp : p (atD l j) = true) : DelI p l m i (j + 1) :=
  ⟨h.1, by have := h.2.1; omega, hj, by rw [take_snoc hj, kept_snoc_out hp]; exact h.2.2.2.1, fun k hk => h.2.2.2.2 k (by omega)⟩
theorem DelI.in {p : DP → Bool} {l m : List DP} {i j : Nat} (h : DelI p l m i j) (hj : j < l.length) (hp : p (atD l j) = false) : DelI p l (m.set i (atD l j)) (i + 1) (j + 1) := by
  obtain ⟨h1, h2, h3, h4, h5⟩ := h
  refine ⟨by rw [List.length_set]; exact h1, by omega, hj, ?_, fun k hk => ?_⟩
  · have e := take_snoc (l := m.set i (atD l j)) (j := i) (by rw [List.length_set]; omega)
    rw [e, List.take_set_of_le (Nat.le_refl _), atD_set _ _ _ _ (by omega), if_pos rfl, h4, take_snoc hj, kept_snoc_in hp]
  · rw [atD_set _ _ _ _ (by omega), if_neg (by omega)]
    exact h5 k (by omega)

set_option maxRecDepth 100000 in
set_option maxHeartbeats 4000000 in
theorem dele_any (g cap n : Nat) (l : List DP) (f : Nat) (lb : Array Value) (p : DP → Bool) (B : Option Nat) (w : World) (hf : Tells f lb p B w) (he : ∀ args w, (callFunc f args).run Try.prog w = .ok (.enter f args) w)
    (hR : RowD w g cap l) (hl : l.length = n) (hn : n < 1000000) (hBg : B ≠ some g) :
    Calls Try.prog 37 #[.slice (some ⟨g, 0, none⟩) n cap, .func (.func f) #[] lb] w fun e w' =>
      e = .returned (.slice (some ⟨g, 0, none⟩) (kept p l).length cap) ∧ RowD w' g cap (kept p l) ∧ Fr1 g w w' := by
  have hI := index_any g cap n l f lb p B w hf he hR hl hn
  have hcap : n ≤ cap := by obtain ⟨cur, -, h, -⟩ := hR; omega
  obtain ⟨a, ha⟩ : ∃ a, a = aheadOf p l := ⟨_, rfl⟩
  rw [← ha] at hI
  obtain ⟨r, hr⟩ : ∃ r, r = kept p l := ⟨_, rfl⟩
  rw [← hr]
  have HR := Lib.hid hr
  clear hr
  go_enter Try.func37, Try.ntmps37
  rcases Nat.lt_or_ge a n with hlt | hge
  · rw [if_pos hlt] at hI
    have HD0 : Hid (DelI p l l a (a + 1)) := Lib.hid (by
      refine ⟨rfl, by omega, by omega, ?_, fun _ _ => rfl⟩
      rw [ha]
      exact (ahead_take p l (by omega)).symm)
    have e1 : IntKind.i64.wrap ((a : Int) + 1) = ((a + 1 : Nat) : Int) := by simp only [IntKind.wrap_i64]; omega
    have t0 : ((a : Int) == -1) = false := by simp
    have t0' : ¬ ((a : Int) = -1) := by omega
    clear ha
    go_wp2_with fail
    refine hI.mono ?_
    rintro e w1 ⟨rfl, hb1⟩
    have hF1 := Fr1.of (g := g) hb1
    have hR1 := hR.kept (hb1.block g hR.lt)
    clear hI hb1
    go_wp2_with fail
    go_loopw [5, 6] (fun v5 v6 wr => ∃ (i j : Nat) (m : List DP), v5 = .int .i64 i ∧ v6 = .int .i64 j ∧ RowD wr g cap m ∧ Fr1 g w wr ∧ Hid (DelI p l m i j)) (fun _ v6 _ => n - (intOf v6).toNat)
    case atStart => exact ⟨a, a + 1, l, rfl, rfl, hR1, hF1, HD0⟩
    case round =>
      obtain ⟨i, j, m, rfl, rfl, hRm, hF, HD⟩ := hrel
      have hml : m.length = n := by have := HD.out.1; omega
      have hij : i < j := HD.out.2.1
      have hjn : j ≤ n := by have := HD.out.2.2.1; omega
      clear hR hR1 hF1 HD0
      by_cases hjl : j < n
      · have hat : atD m j = atD l j := HD.out.2.2.2.2 j (Nat.le_refl _)
        obtain ⟨c1, c2, -⟩ := hRm.at j (by omega)
        rw [hat] at c1 c2
        have HO := Lib.hid (fun h => HD.out.out (by omega) h)
        have HN := Lib.hid (fun h => HD.out.in (by omega) h)
        have hg := hRm.lt
        have t0 : (0 : Int) ≤ (j : Int) := by omega
        have t1 : (j : Int) < (n : Int) := by omega
        have i0 : (0 : Int) ≤ (i : Int) := by omega
        have i1 : (i : Int) < (n : Int) := by omega
        have e2 : IntKind.i64.wrap ((j : Int) + 1) = ((j + 1 : Nat) : Int) := by simp only [IntKind.wrap_i64]; omega
        have e3 : IntKind.i64.wrap ((i : Int) + 1) = ((i + 1 : Nat) : Int) := by simp only [IntKind.wrap_i64]; omega
        clear hat HD e1
        generalize atD l j = d at *
        have hb1 : Below wr.heap.size wr (wr.alloc (.cells #[.int .i64 d.a, .int .i64 d.i] 24)) := (Below.refl _ _).alloc (Nat.le_refl _) _
        have hC := (hf.kept (w' := wr.alloc (.cells #[.int .i64 d.a, .int .i64 d.i] 24)) (Nat.le_trans hF.size hb1.size) (fun k hk => (hb1.block k (Nat.lt_of_lt_of_le (hf.1 k hk) hF.size)).trans (hF.block k (hf.1 k hk) (fun e => hBg (by rw [hk, e]))))).2 _ d (fun _ _ => rfl)
        have hx1 := Bx.new wr 24 [.int .i64 d.a, .int .i64 d.i]
        have hR1 := hRm.kept (hb1.block g hg)
        generalize hq : p d = q at *
        clear hq hRm
        obtain ⟨da, di⟩ := d
        unfold encD at hC
        dsimp only at *
        have HF1 := Lib.hid (hF.trans (Fr1.of (g := g) hb1))
        have HR1 := Lib.hid hR1
        have HX1 := Lib.hid hx1
        clear hx1 hR1 hb1 hF
        go_wp2_with fail
        refine hC.mono ?_
        rintro e w2 ⟨rfl, hb2⟩
        have hx2 := HX1.out.kept hb2
        have hR2 := HR1.out.kept (hb2.block g HR1.out.lt)
        have hF2 := HF1.out.trans (Fr1.of (g := g) hb2)
        clear hC HX1 HR1 HF1 hb2 c1 c2
        cases q
        · have HM := Lib.hid (HN.out rfl)
          have hR3 := hR2.set i (by omega) ⟨da, di⟩
          have hF3 := (hF2.set (i * 2) (.int .i64 da)).set (i * 2 + 1) (.int .i64 di)
          obtain ⟨a1, a2, af⟩ := hR2.at i (by omega)
          have f1 := af (i * 2)
          have e4 : (w2.setCell ⟨g, i * 2, none⟩ (.int .i64 da)).cell? ⟨g, i * 2 + 1, none⟩ = some (.int .i64 (atD m i).i) := by
            obtain ⟨cur, hb, -⟩ := hR2
            rw [Bx.cell? hb, List.getElem?_set_ne (by omega)]
            rw [Bx.cell?' hb] at a2
            exact a2
          have f2 : (w2.setCell ⟨g, i * 2, none⟩ (.int .i64 da)).frozen? ⟨g, i * 2 + 1, none⟩ = false := by
            obtain ⟨cur, hb, -⟩ := hR2
            exact (hb.set _ _).frozen _
          have d0 := hx2.cell 0 (by simp)
          have d1 := hx2.cell 1 (by simp)
          dsimp only [List.getElem_cons_zero, List.getElem_cons_succ] at d0 d1
          clear HN HO af hx2 hR2 hF2
          go_wp2
          go_roundw
          case rel => exact ⟨i + 1, j + 1, _, rfl, rfl, hR3, hF3, HM⟩
          case measure => simp only [intOf]; omega
        · have HM := Lib.hid (HO.out rfl)
          clear HN HO hx2
          go_wp2
          go_roundw
          case rel => exact ⟨i, j + 1, _, rfl, rfl, hR2, hF2, HM⟩
          case measure => simp only [intOf]; omega
      · obtain rfl : j = n := by omega
        obtain ⟨cur, hb, q1, q2, q3, q4⟩ := hRm
        have him : i ≤ j := by omega
        obtain ⟨w2, hcl, ⟨cur2, hb2, q5, q6⟩, hF2⟩ := clear_due wr g (i * 2) (j - i) (cap - i) cur hb (by omega) (by omega)
        have hE : m.take i = r := by
          rw [HR.out, HD.out.2.2.2.1, List.take_of_length_le (by omega)]
        have hil : r.length = i := by rw [← hE, List.length_take]; omega
        have HRr : Hid (RowD w2 g cap r) := Lib.hid (by
          refine ⟨cur2, hb2, by omega, q2, by omega, ?_⟩
          rw [hil, q6, ← hE, ← rowD_take, ← q4, List.take_take]
          congr 1
          omega)
        have HL := Lib.hid hil
        have hF3 := hF.trans hF2
        have i0 : (0 : Int) ≤ (i : Int) := by omega
        have i1 : (i : Int) ≤ (j : Int) := by omega
        have i2 : i ≤ cap := by omega
        have i3 : ¬ (cap = i) := by omega
        clear hb q1 q2 q3 q4 hb2 q5 q6 hE hil HR HD hF2 hF hij hjn hjl
        go_wp2
        go_ret
        exact ⟨by rw [HL.out]; rfl, HRr.out, hF3⟩
  · have HE : Hid (r = l) := Lib.hid (by rw [HR.out]; exact kept_all (by have := ahead_le p l; omega))
    rw [if_neg (by omega)] at hI
    clear ha hge HR
    go_wp2_with fail
    refine hI.mono ?_
    rintro e w1 ⟨rfl, hb1⟩
    have hF1 := Fr1.of (g := g) hb1
    have hR1 := hR.kept (hb1.block g hR.lt)
    have HR1 := Lib.hid hR1
    have HLl := Lib.hid hl
    clear hI hb1 hR hR1 hl
    go_wp2
    go_ret
    exact ⟨by rw [HE.out, HLl.out]; rfl, by rw [HE.out]; exact HR1.out, hF1⟩
end Go.Proofs.Ytlbmkokdoigcnaa
