/-
  interchangelaw03.TableSwaps answers true; nothing that was there is changed. Conditions: the package num's table of widths holds 1, 2, 4, 8; keys of at most 1048576 bytes in all, a text of at most 1048576 bytes.
-/
import Derived.Laws.AppendOwnNone
import Derived.Maps.AppendAt
import Derived.Deep.MidRow
import Derived.Test.YtdgpemkoicoheaaDoorLTableBack
import Derived.Test.YtdgpemkoicoheaaDoorRTabE
namespace Go.Proofs.YtdgpemkoicoheaaDoor
open Go.RowKit

/-- so many times the same text -/
def rep (n : Nat) (v : ByteArray) : List ByteArray := List.replicate n v
theorem rep_length (n : Nat) (v : ByteArray) : (rep n v).length = n := List.length_replicate ..
theorem rep_succ (n : Nat) (v : ByteArray) : rep (n + 1) v = rep n v ++ [v] := List.replicate_succ' ..
theorem rep_bulk (n : Nat) (v : ByteArray) : strBulk (rep n v) = n * (v.size + 1) := by
  induction n with
  | zero => simp [rep, strBulk]
  | succ n ih =>
    have : rep (n + 1) v = v :: rep n v := List.replicate_succ ..
    rw [this, strBulk, ih, Nat.succ_mul]
    omega
theorem strBulk_append (a b : List ByteArray) : strBulk (a ++ b) = strBulk a + strBulk b := by
  induction a with
  | nil => simp [strBulk]
  | cons x l ih => simp only [List.cons_append, strBulk, ih]; omega
theorem zip_rep_append (a b : List ByteArray) (v : ByteArray) : (a ++ b).zip (rep a.length v ++ rep b.length v) = a.zip (rep a.length v) ++ b.zip (rep b.length v) := by
  rw [List.zip_append (by rw [rep_length])]

/-- the two tables' fields, one's behind the other's -/
theorem make_swaps (a b : List ByteArray) (v : ByteArray) (hs : strBulk a + strBulk b ≤ 2097152 * 2) (hv : (a.length + b.length) * (v.size + 1) ≤ 1048577 * 40) :
    (makeE a (rep a.length v) = 0 ∧ makeE b (rep b.length v) = 0 → makeE (a ++ b) (rep a.length v ++ rep b.length v) = 0 ∧ makeR (a ++ b) (rep a.length v ++ rep b.length v) = layR 4 (pairsBody (a.zip (rep a.length v)) ++ pairsBody (b.zip (rep b.length v))) ∧ layOk 4 (pairsBody (a.zip (rep a.length v)) ++ pairsBody (b.zip (rep b.length v))) = true) ∧
    (¬ (makeE a (rep a.length v) = 0 ∧ makeE b (rep b.length v) = 0) → makeE (a ++ b) (rep a.length v ++ rep b.length v) ≠ 0) := by
  have ez := zip_rep_append a b v
  have la : a.length = (rep a.length v).length := (rep_length _ _).symm
  have lb : b.length = (rep b.length v).length := (rep_length _ _).symm
  have lab : (a ++ b).length = (rep a.length v ++ rep b.length v).length := by rw [List.length_append, List.length_append, ← la, ← lb]
  have h1 := pairsBody_size (a.zip (rep a.length v))
  have h2 := pairsBody_size (b.zip (rep b.length v))
  have h3 := totSz_bulk a (rep a.length v)
  have h4 := totSz_bulk b (rep b.length v)
  rw [rep_bulk] at h3 h4
  rw [Nat.add_mul] at hv
  have ka : layOk 4 (pairsBody (a.zip (rep a.length v))) = true := by rw [layOk_four]; simp; omega
  have kb : layOk 4 (pairsBody (b.zip (rep b.length v))) = true := by rw [layOk_four]; simp; omega
  have kab : layOk 4 (pairsBody (a.zip (rep a.length v)) ++ pairsBody (b.zip (rep b.length v))) = true := by rw [layOk_four, ByteArray.size_append]; simp; omega
  have eA : makeE a (rep a.length v) = if pairsErr (a.zip (rep a.length v)) = 0 then (if 32 < pairsDeep (a.zip (rep a.length v)) + 1 then 5 else 0) else pairsErr (a.zip (rep a.length v)) := by
    rw [makeE, if_pos la, if_pos ka]
  have eB : makeE b (rep b.length v) = if pairsErr (b.zip (rep b.length v)) = 0 then (if 32 < pairsDeep (b.zip (rep b.length v)) + 1 then 5 else 0) else pairsErr (b.zip (rep b.length v)) := by
    rw [makeE, if_pos lb, if_pos kb]
  have eAB : makeE (a ++ b) (rep a.length v ++ rep b.length v) = if (if pairsErr (a.zip (rep a.length v)) = 0 then pairsErr (b.zip (rep b.length v)) else pairsErr (a.zip (rep a.length v))) = 0 then (if 32 < max (pairsDeep (a.zip (rep a.length v))) (pairsDeep (b.zip (rep b.length v))) + 1 then 5 else 0) else (if pairsErr (a.zip (rep a.length v)) = 0 then pairsErr (b.zip (rep b.length v)) else pairsErr (a.zip (rep a.length v))) := by
    rw [makeE, if_pos lab, ez, pairsErr_append, pairsBody_append, pairsDeep_append, if_pos kab]
  generalize pairsErr (a.zip (rep a.length v)) = pa at eA eAB
  generalize pairsErr (b.zip (rep b.length v)) = pb at eB eAB
  generalize pairsDeep (a.zip (rep a.length v)) = da at eA eAB
  generalize pairsDeep (b.zip (rep b.length v)) = db at eB eAB
  constructor
  · rintro ⟨ha, hb⟩
    rw [eA] at ha
    rw [eB] at hb
    have q1 : pa = 0 := by
      by_cases h : pa = 0
      · exact h
      · rw [if_neg h] at ha; exact absurd ha h
    have q2 : pb = 0 := by
      by_cases h : pb = 0
      · exact h
      · rw [if_neg h] at hb; exact absurd hb h
    subst q1 q2
    rw [if_pos rfl] at ha hb
    have q3 : ¬ 32 < da + 1 := by intro h; rw [if_pos h] at ha; cases ha
    have q4 : ¬ 32 < db + 1 := by intro h; rw [if_pos h] at hb; cases hb
    have e0 : makeE (a ++ b) (rep a.length v ++ rep b.length v) = 0 := by
      rw [eAB, if_pos rfl, if_pos rfl, if_neg (by omega)]
    refine ⟨e0, ?_, kab⟩
    rw [makeR, if_pos e0, ez, pairsBody_append]
  · intro hn h0
    rw [eAB] at h0
    apply hn
    rw [eA, eB]
    by_cases q1 : pa = 0
    · subst q1
      rw [if_pos rfl] at h0
      by_cases q2 : pb = 0
      · subst q2
        rw [if_pos rfl] at h0
        have q3 : ¬ 32 < max da db + 1 := by intro h; rw [if_pos h] at h0; cases h0
        rw [if_pos rfl, if_pos rfl, if_neg (by omega), if_neg (by omega)]
        exact ⟨rfl, rfl⟩
      · rw [if_neg q2] at h0; exact absurd h0 q2
    · rw [if_neg q1, if_neg q1] at h0; exact absurd h0 q1
/-- what stands behind the length -/
theorem layR_tail {b : ByteArray} (h : layOk 4 b = true) : (layR 4 b).extract 4 (layR 4 b).size = b ∧ (layR 4 b).size = b.size + 4 := by
  have hs := layR_size h
  refine ⟨?_, by omega⟩
  have e := tt_lay h ⟨#[]⟩
  rw [ba_append_empty] at e
  have hk : ttOk 4 (layR 4 b) = true := by rw [← ttE_zero, e.1]; rfl
  have h8 := ttA_ttR hk
  rw [e.2.1, e.2.2, ba_append_empty, takeR, if_pos (ttOk_parts hk).1] at h8
  exact h8.symm

/-- append of a row that came in, nil or not -/
theorem wpList_append_vals {P : Program} {w : World} {ops : Array Oper} {rest : List Oper} {o : Oper} {a : Act} {Q : Exit → Act → World → Prop} (hgd : o.guard = none) (s x : Operand) (t : TypeId)
    (ho : o.op = .call { callee := .builtin .append, args := #[s, x], argTypes := #[t, t] })
    (base : Nat) (e : TypeId) (i : TypeInfo) (z : Value) (bytes : Nat) (ht : P.underlying t = some (.slice e)) (hi : P.info? e = some i) (hz : i.zero = some z)
    (hsize : i.size = 1) (hby : i.bytes = bytes) (hzs : z.cells.size = 1)
    (v : Value) (n : Nat) (xs : List Value) (hs : a.eval s = v) (hown : w.ownsRow base e 1 v n xs)
    (A : Option Addr) (m c : Nat) (news : List Value) (hx : a.eval x = .slice A m c) (hl : news.length = m) (hA : ValsAt w A news) (hnone : A = none → m = 0 ∧ c = 0) (h1 : ∀ u ∈ news, u.oneCell' = true)
    (h63 : n + m ≤ maxLen) (hbytes : (n + m) * bytes ≤ 140737488355328) (hbase : base ≤ w.heap.size)
    (h : ∀ v' w', w'.ownsRow base e 1 v' (n + m) (xs ++ news) → w.grownBy w' v.ownBlock → (v'.ownBlock = v.ownBlock ∨ v'.ownBlock = some w.heap.size) → wpList P ops Q rest (a.put o.dst v') w') :
    wpList P ops Q (o :: rest) a w := by
  cases A with
  | none =>
    obtain ⟨rfl, rfl⟩ := hnone rfl
    have hn : news = [] := List.eq_nil_of_length_eq_zero hl
    subst hn
    refine wpList_append_own_none hgd s x t ho base e i 1 ht hi v n xs hs hown hx ?_
    exact h v w (by simpa using hown) ⟨rfl, rfl, rfl, Nat.le_refl _, fun _ _ _ => rfl⟩ (.inl rfl)
  | some ad =>
    refine wpList_append_own_at w hgd s x t ho base e i z 1 bytes ht hi hz hsize hby hzs (by decide) v n xs hs hown ad m c news hx (by omega) ?_ h1 h63 hbytes hbase (fun v' w' q1 q2 _ q3 => h v' w' q1 q2 q3)
    intro j u hj
    have hjl : j < news.length := (List.getElem?_eq_some_iff.1 hj).1
    obtain ⟨b, off, hab, -, hc⟩ := hA (by omega)
    cases hab
    rw [Addr.add_mid, hc j hjl]
    rw [List.getElem?_eq_getElem hjl] at hj
    exact hj
theorem vals_none {w : World} {A : Option Addr} {l : List Value} {n c : Nat} (h : ValsAt w A l) (hl : l.length = n) (hc : A = none → c = 0) : A = none → n = 0 ∧ c = 0 := by
  rintro rfl
  refine ⟨?_, hc rfl⟩
  rcases Nat.eq_zero_or_pos l.length with h0 | h0
  · omega
  · obtain ⟨b, o, he, -⟩ := h h0
    cases he
theorem own_empty (w : World) (e : TypeId) : (w.alloc (.cells #[] e)).ownsRow w.heap.size e 1 (.slice (some ⟨w.heap.size, 0, none⟩) 0 0) 0 [] :=
  ⟨rfl, .inr ⟨w.heap.size, 0, #[], rfl, Nat.le_refl _, World.alloc_heap_new w _, Nat.le_refl _, Nat.zero_le _, rfl, rfl⟩⟩
theorem strs_one (l : List ByteArray) : ∀ u ∈ l.map Value.string, u.oneCell' = true := by
  intro u hu
  obtain ⟨s, -, rfl⟩ := List.mem_map.1 hu
  rfl

theorem len_tests (a b u : ByteArray) (h : a.size + b.size ≤ 4294967296) (hu : u.size + 4 = a.size + b.size) : ((u.size : Int) == IntKind.i64.wrap (IntKind.i64.wrap ((a.size : Int) + b.size) - 4)) = true := by
  rw [IntKind.wrap_i64, IntKind.wrap_i64]
  simp
  omega
set_option maxRecDepth 100000 in
set_option maxHeartbeats 2000000 in
theorem tableSwaps_walk (A1 A2 : Option Addr) (c1 c2 n m : Nat) (a b : List ByteArray) (v : ByteArray) (w : World) (hw : Wid w) (hal : a.length = n) (hbl : b.length = m) (h1 : ValsAt w A1 (a.map Value.string)) (h2 : ValsAt w A2 (b.map Value.string))
    (o1 : A1 = none → c1 = 0) (o2 : A2 = none → c2 = 0) (hk : strBulk a ≤ 1048576) (hv : strBulk b ≤ 1048576) (hm : v.size ≤ 1048576) :
    Calls Tryd.prog 9 #[.slice A1 n c1, .slice A2 m c2, .string v] w fun e w' => e = .returned (.bool true) ∧ Below w.heap.size w w' := by
  have hkl := strBulk_length a
  have hvl := strBulk_length b
  obtain ⟨i0, hi, hz0, hz1, hz2⟩ := info_parts infoText
  go_enter Tryd.func9, Tryd.ntmps9
  go_wp2_with fail
  refine (tabShown_any w hw).mono ?_
  rintro e w1 ⟨rfl, hb⟩
  replace h1 := h1.below hb
  replace h2 := h2.below hb
  by_cases h40 : 40 < n + m
  · have t1 : 40 < (n : Int) + (m : Int) := by omega
    go_wp2
    go_ret
    exact ⟨rfl, hb⟩
  · have t1 : ¬ 40 < (n : Int) + (m : Int) := by omega
    go_wp2
    go_loopw [8, 10] (fun o i wr => ∃ k : Nat, k ≤ n ∧ i = .int .i64 k ∧ wr.ownsRow w1.heap.size 9 1 o k ((rep k v).map Value.string) ∧ Below w1.heap.size w1 wr) (fun _ i _ => n - (intOf i).toNat)
    case atStart => exact ⟨0, Nat.zero_le _, rfl, World.ownsRow_nil _ _ _ _, Below.refl _ _⟩
    case round =>
      obtain ⟨k, hk1, rfl, hrow, hbr⟩ := hrel
      by_cases hlt : k < n
      · have hbs := hbr.size
        go_wp2_with (at_builtin; refine wpList_append_own _ rfl _ _ 28 rfl w1.heap.size 9 i0 (.string ⟨#[]⟩) 1 16 Tryd.underlying28 hi hz0 hz1 hz2 rfl (by decide) _ _ _ rfl (hrow.alloc _) ⟨wr.heap.size, 0, none⟩ 1 1 [.string v] rfl rfl (cell_one_new _ _ _) (by simp [Value.oneCell']) (by unfold maxLen; omega) (by omega) (by simp; omega) ?_; intro o' w3 hrow3 hg3 _)
        go_roundw
        case rel =>
          refine ⟨k + 1, by omega, by go_num, ?_, ?_⟩
          · rw [rep_succ, List.map_append]; exact hrow3
          · exact (hbr.alloc hbs (.cells #[.string v] 9)).grown hg3 (by simp; omega) (fun q hq => ((hrow.alloc (.cells #[.string v] 9)).lt q hq).1)
        case measure => simp [intOf]; omega
      · obtain rfl : k = n := by omega
        obtain ⟨A3, c3, rfl, kx⟩ := vals_of_row hrow
        have hb2 := hb.trans (hbr.mono hb.size)
        replace h1 := h1.below hbr
        replace h2 := h2.below hbr
        have hbs0 := hbr.size
        have o3 : A3 = none → c3 = 0 := by
          rintro rfl
          rcases hrow.2 with ⟨he, -⟩ | ⟨g, cap, cur, he, -⟩
          · cases he; rfl
          · cases he
        clear hrow hbr hb
        obtain ⟨w2, rfl⟩ : ∃ w2, w2 = wr := ⟨_, rfl⟩
        go_wp2
        go_loopw [9, 11] (fun o i w3 => ∃ j : Nat, j ≤ m ∧ i = .int .i64 j ∧ w3.ownsRow w2.heap.size 9 1 o j ((rep j v).map Value.string) ∧ Below w2.heap.size w2 w3) (fun _ i _ => m - (intOf i).toNat)
        case atStart => exact ⟨0, Nat.zero_le _, rfl, World.ownsRow_nil _ _ _ _, Below.refl _ _⟩
        case round =>
          obtain ⟨j, hj1, rfl, hrow, hbr⟩ := hrel
          by_cases hlt2 : j < m
          · have hbs := hbr.size
            go_wp2_with (at_builtin; refine wpList_append_own _ rfl _ _ 28 rfl w2.heap.size 9 i0 (.string ⟨#[]⟩) 1 16 Tryd.underlying28 hi hz0 hz1 hz2 rfl (by decide) _ _ _ rfl (hrow.alloc _) ⟨wr.heap.size, 0, none⟩ 1 1 [.string v] rfl rfl (cell_one_new _ _ _) (by simp [Value.oneCell']) (by unfold maxLen; omega) (by omega) (by simp; omega) ?_; intro o' w4 hrow3 hg3 _)
            go_roundw
            case rel =>
              refine ⟨j + 1, by omega, by go_num, ?_, ?_⟩
              · rw [rep_succ, List.map_append]; exact hrow3
              · exact (hbr.alloc hbs (.cells #[.string v] 9)).grown hg3 (by simp; omega) (fun q hq => ((hrow.alloc (.cells #[.string v] 9)).lt q hq).1)
            case measure => simp [intOf]; omega
          · obtain rfl : j = m := by omega
            obtain ⟨A4, c4, rfl, ky⟩ := vals_of_row hrow
            have o4 : A4 = none → c4 = 0 := by
              rintro rfl
              rcases hrow.2 with ⟨he, -⟩ | ⟨g, cap, cur, he, -⟩
              · cases he; rfl
              · cases he
            have hb3 := hb2.trans (hbr.mono hb2.size)
            replace h1 := h1.below hbr
            replace h2 := h2.below hbr
            replace kx := kx.below hbr
            clear hrow hbr hb2
            have tb1 := totSz_bulk a (rep k v)
            have tb2 := totSz_bulk b (rep j v)
            have mu : k * (v.size + 1) ≤ 40 * 1048577 := Nat.mul_le_mul (by omega) (by omega)
            have mu2 : j * (v.size + 1) ≤ 40 * 1048577 := Nat.mul_le_mul (by omega) (by omega)
            have mu3 : (k + j) * (v.size + 1) ≤ 1048577 * 40 := by rw [Nat.mul_comm 1048577 40]; exact Nat.mul_le_mul (by omega) (by omega)
            rw [rep_bulk] at tb1 tb2
            have rb1 := makeR_bulk a (rep k v)
            have rb2 := makeR_bulk b (rep j v)
            rw [rep_bulk] at rb1 rb2
            have hsw := make_swaps a b v (by omega) (by rw [hal, hbl]; exact mu3)
            rw [hal, hbl] at hsw
            have tb3 := totSz_bulk (a ++ b) (rep k v ++ rep j v)
            rw [strBulk_append, strBulk_append, rep_bulk, rep_bulk] at tb3
            have rb3 := makeR_bulk (a ++ b) (rep k v ++ rep j v)
            rw [strBulk_append, strBulk_append, rep_bulk, rep_bulk] at rb3
            have HSW := Lib.hid hsw
            clear hsw
            generalize k * (v.size + 1) = q1 at tb1 rb1 mu tb3 rb3
            generalize j * (v.size + 1) = q2 at tb2 rb2 mu2 tb3 rb3
            clear mu3
            go_wp2_with fail
            refine (make_any A1 A3 c1 c3 k k a (rep k v) wr (hw.below hb3) hal (rep_length _ _) (by omega) h1 kx (by omega)).mono ?_
            rintro e w5 ⟨rfl, hb'⟩
            replace h1 := h1.below hb'
            replace h2 := h2.below hb'
            replace kx := kx.below hb'
            replace ky := ky.below hb'
            replace hb3 := hb3.trans (hb'.mono hb3.size)
            clear hb'
            go_wp2_with fail
            refine (make_any A2 A4 c2 c4 j j b (rep j v) w5 (hw.below hb3) hbl (rep_length _ _) (by omega) h2 ky (by omega)).mono ?_
            rintro e w6 ⟨rfl, hb'⟩
            replace h1 := h1.below hb'
            replace h2 := h2.below hb'
            replace kx := kx.below hb'
            replace ky := ky.below hb'
            replace hb3 := hb3.trans (hb'.mono hb3.size)
            clear hb'
            generalize hma : makeE a (rep k v) = ea at HSW ⊢
            generalize hmb : makeE b (rep j v) = eb at HSW ⊢
            generalize hra : makeR a (rep k v) = ra at rb1 ⊢
            generalize hrb : makeR b (rep j v) = rb at rb2 ⊢
            have HMA := Lib.hid (And.intro hma (And.intro hmb (And.intro hra hrb)))
            clear hma hmb hra hrb
            have tok1 : True := trivial
            have tok2 : True := trivial
            have tok3 : True := trivial
            have tok4 : True := trivial
            go_wp2_with (at_builtin; have _t := tok1; refine wpList_append_vals rfl _ _ 28 rfl w6.heap.size 9 i0 (.string ⟨#[]⟩) 16 Tryd.underlying28 hi hz0 hz1 hz2 rfl (.slice (some ⟨w6.heap.size, 0, none⟩) 0 0) 0 [] rfl (own_empty w6 9) A1 k c1 (a.map Value.string) rfl ?s1 ?s2 ?s3 (strs_one _) ?s4 ?s5 ?s6 ?s7)
            case s1 => simp [hal]
            case s2 => exact h1.below ((Below.refl _ w6).alloc (Nat.le_refl _) _)
            case s3 => exact vals_none h1 (by simp [hal]) o1
            case s4 => unfold maxLen; omega
            case s5 => omega
            case s6 => first | omega | simp
            case s7 =>
              intro p1 w7 hp1 hg1 hl1
              clear tok1
              have hB7 := ((Below.refl w6.heap.size w6).alloc (Nat.le_refl _) (.cells #[] 9)).grown hg1 (by simp) (fun q hq => ((own_empty w6 9).lt q hq).1)
              have hs7 := hB7.size
              go_wp2_with (at_builtin; have _t := tok2; refine wpList_append_vals rfl _ _ 28 rfl w6.heap.size 9 i0 (.string ⟨#[]⟩) 16 Tryd.underlying28 hi hz0 hz1 hz2 rfl p1 _ _ rfl hp1 A2 j c2 (b.map Value.string) rfl ?s1 ?s2 ?s3 (strs_one _) ?s4 ?s5 ?s6 ?s7)
              case s1 => simp [hbl]
              case s2 => exact h2.below hB7
              case s3 => exact vals_none h2 (by simp [hbl]) o2
              case s4 => unfold maxLen; omega
              case s5 => omega
              case s6 => first | omega | simp
              case s7 =>
                intro p2 w8 hp2 hg2 hl2
                clear tok2
                have hB8 := hB7.grown hg2 hs7 (fun q hq => (hp1.lt q hq).1)
                have hs8 := hB8.size
                go_wp2_with (at_builtin; have _t := tok3; refine wpList_append_vals rfl _ _ 28 rfl w8.heap.size 9 i0 (.string ⟨#[]⟩) 16 Tryd.underlying28 hi hz0 hz1 hz2 rfl (.slice (some ⟨w8.heap.size, 0, none⟩) 0 0) 0 [] rfl (own_empty w8 9) A3 k c3 ((rep k v).map Value.string) rfl ?s1 ?s2 ?s3 (strs_one _) ?s4 ?s5 ?s6 ?s7)
                case s1 => simp [rep_length]
                case s2 => exact (kx.below hB8).below ((Below.refl _ w8).alloc (Nat.le_refl _) _)
                case s3 => exact vals_none kx (by simp [rep_length]) o3
                case s4 => unfold maxLen; omega
                case s5 => omega
                case s6 => first | omega | simp
                case s7 =>
                  intro p3 w9 hp3 hg3 hl3
                  clear tok3
                  have hB9 := ((Below.refl w8.heap.size w8).alloc (Nat.le_refl _) (.cells #[] 9)).grown hg3 (by simp) (fun q hq => ((own_empty w8 9).lt q hq).1)
                  have hs9 := hB9.size
                  go_wp2_with (at_builtin; have _t := tok4; refine wpList_append_vals rfl _ _ 28 rfl w8.heap.size 9 i0 (.string ⟨#[]⟩) 16 Tryd.underlying28 hi hz0 hz1 hz2 rfl p3 _ _ rfl hp3 A4 j c4 ((rep j v).map Value.string) rfl ?s1 ?s2 ?s3 (strs_one _) ?s4 ?s5 ?s6 ?s7)
                  case s1 => simp [rep_length]
                  case s2 => exact (ky.below hB8).below hB9
                  case s3 => exact vals_none ky (by simp [rep_length]) o4
                  case s4 => unfold maxLen; omega
                  case s5 => omega
                  case s6 => first | omega | simp
                  case s7 =>
                    intro p4 w10 hp4 hg4 hl4
                    clear tok4
                    have hB10 := hB9.grown hg4 hs9 (fun q hq => (hp3.lt q hq).1)
                    obtain ⟨A5, c5, rfl, kp⟩ := vals_of_row hp2
                    obtain ⟨A6, c6, rfl, kq⟩ := vals_of_row hp4
                    replace kp := kp.below hB10
                    have hb10 := hb3.trans ((hB8.trans (hB10.mono hs8)).mono hb3.size)
                    clear hp1 hp2 hp3 hp4 hg1 hg2 hg3 hg4 hB7 hB8 hB9 hB10 h1 h2 kx ky
                    rw [← List.map_append] at kp kq
                    go_wp2_with fail
                    refine (make_any A5 A6 c5 c6 (k + j) (k + j) (a ++ b) (rep k v ++ rep j v) w10 (hw.below hb10) (by simp [hal, hbl]) (by simp [rep_length]) (by omega) kp kq (by omega)).mono ?_
                    rintro e w11 ⟨rfl, hb'⟩
                    replace hb10 := hb10.trans (hb'.mono hb10.size)
                    clear hb' kp kq
                    have hab : (makeR (a ++ b) (rep k v ++ rep j v)).size ≤ 2000000000 := by omega
                    by_cases hee : ea = 0 ∧ eb = 0
                    · obtain ⟨rfl, rfl⟩ := hee
                      obtain ⟨n1, n2, n3⟩ := HSW.out.1 ⟨rfl, rfl⟩
                      obtain ⟨-, -, ka, -, ra'⟩ := makeE_zero HMA.out.1
                      obtain ⟨-, -, kb, -, rb'⟩ := makeE_zero HMA.out.2.1
                      have x1 := layR_tail ka
                      have x2 := layR_tail kb
                      have x3 := layR_tail n3
                      rw [← ra', HMA.out.2.2.1] at x1
                      rw [← rb', HMA.out.2.2.2] at x2
                      rw [← n2] at x3
                      have hmt := make_taken n1 ⟨#[]⟩
                      rw [ba_append_empty] at hmt
                      have hal0 : aloneE (nest true (makeR (a ++ b) (rep k v ++ rep j v)) 32) = 0 := by rw [hmt]; rfl
                      rw [n1]
                      clear HSW HMA n1 n2 ka ra' kb rb' hmt n3
                      generalize makeR (a ++ b) (rep k v ++ rep j v) = ru at hab x3 hal0 ⊢
                      generalize pairsBody (a.zip (rep k v)) = ba at x1 x3
                      generalize pairsBody (b.zip (rep j v)) = bb at x2 x3
                      obtain ⟨y1, z1⟩ := x1
                      obtain ⟨y2, z2⟩ := x2
                      obtain ⟨y3, z3⟩ := x3
                      rw [ByteArray.size_append] at z3
                      go_wp2_with fail
                      refine (rtabDeep_any ru w11 (by omega)).mono ?_
                      rintro e w12 ⟨rfl, hb'⟩
                      replace hb10 := hb10.trans (hb'.mono hb10.size)
                      rw [hal0]
                      clear hb' hal0
                      generalize aloneD (nest true ru 32) = dd
                      have w1 : ba.size + bb.size ≤ 9223372036854775807 := by omega
                      have g4 : (4 : Int) ≤ ru.size := by omega
                      have g5 : (4 : Int) ≤ ra.size := by omega
                      have g6 : (4 : Int) ≤ rb.size := by omega
                      have g9 := len_tests ra rb ru (by omega) (by omega)
                      have g10 : ¬ ((9223372036854775807 : Int) < (ba.size : Int) + (bb.size : Int)) := by omega
                      have g11 : ∀ w', (Op.stringOp .add ba bb).run Tryd.prog w' = .ok (.string (ba ++ bb)) w' := fun w' => run_string_add_sum w' ba bb w1
                      have hsz1 : ra.size ≤ 2000000000 := by omega
                      have hsz2 : rb.size ≤ 2000000000 := by omega
                      clear z1 z2 z3 rb1 rb2 tb1 tb2 tb3 rb3
                      go_wp2
                      go_quiet (fail)
                      go_wp2
                      go_ret
                      exact ⟨rfl, below_drewN hb10 _⟩
                    · have hne := HSW.out.2 hee
                      have t9 : (makeE (a ++ b) (rep k v ++ rep j v) != 0) = true := by simpa using hne
                      clear HSW HMA hne hab
                      generalize makeE (a ++ b) (rep k v ++ rep j v) = eu at t9 ⊢
                      generalize makeR (a ++ b) (rep k v ++ rep j v) = ru
                      by_cases h0 : ea = 0
                      · subst h0
                        have t8 : (eb != 0) = true := by simp; intro h; exact hee ⟨rfl, h⟩
                        clear hee
                        go_wp2
                        go_ret
                        exact ⟨rfl, hb10⟩
                      · have t8 : (ea != 0) = true := by simpa using h0
                        clear hee h0
                        go_wp2
                        go_ret
                        exact ⟨rfl, hb10⟩
end Go.Proofs.YtdgpemkoicoheaaDoor
