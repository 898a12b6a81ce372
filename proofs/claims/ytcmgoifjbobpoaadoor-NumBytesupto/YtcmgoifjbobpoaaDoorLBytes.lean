/-
  NumBytes: bits have as many bytes as are needed, and no more; of whole bytes they are their own: the walk of the law. Conditions: the package's table of widths holds 1, 2, 4, 8; at most 2^21 bits in each of the two rows.
-/
import Derived.Test.YtcmgoifjbobpoaaDoorWShown
import Derived.Test.YtcmgoifjbobpoaaDoorRBits
import Derived.Laws.AppendOwnNone
import Derived.WideShapes
namespace Go.Proofs.YtcmgoifjbobpoaaDoor
open Go.RowKit

theorem bitsS_size (l : List Bool) : (bitsS l).size = (l.length + 7) / 8 := by
  simp [bitsS, bitsL, ByteArray.size]
theorem getD_left (l m : List Bool) (i : Nat) (h : i < l.length) : (l ++ m).getD i false = l.getD i false := by
  simp [List.getD, List.getElem?_append_left h]
theorem getD_right (l m : List Bool) (i : Nat) : (l ++ m).getD (l.length + i) false = m.getD i false := by
  simp [List.getD, List.getElem?_append_right]
theorem bitK_left (l m : List Bool) (n j : Nat) (h : 8 * j + 8 ≤ l.length) (hn : l.length ≤ n) : bitK (l ++ m) n j = bitK l l.length j := by
  have e : ∀ i, i < 8 → (decide (8 * j + i < n) && (l ++ m).getD (8 * j + i) false) = (decide (8 * j + i < l.length) && l.getD (8 * j + i) false) := fun i hi => by
    rw [getD_left l m _ (by omega), decide_eq_true (show 8 * j + i < n by omega), decide_eq_true (show 8 * j + i < l.length by omega)]
  unfold bitK oct
  simp only [e 0 (by omega), e 1 (by omega), e 2 (by omega), e 3 (by omega), e 4 (by omega), e 5 (by omega), e 6 (by omega), e 7 (by omega)]
theorem bitK_right (l m : List Bool) (j : Nat) (h : l.length % 8 = 0) : bitK (l ++ m) (l.length + m.length) (l.length / 8 + j) = bitK m m.length j := by
  have e : ∀ i, (decide (8 * (l.length / 8 + j) + i < l.length + m.length) && (l ++ m).getD (8 * (l.length / 8 + j) + i) false) = (decide (8 * j + i < m.length) && m.getD (8 * j + i) false) := fun i => by
    rw [show 8 * (l.length / 8 + j) + i = l.length + (8 * j + i) by omega, getD_right]
    congr 1
    simp
  unfold bitK
  simp only [e]
/-- of whole bytes they are their own -/
theorem bitsS_append (l m : List Bool) (h : l.length % 8 = 0) : bitsS (l ++ m) = bitsS l ++ bitsS m := by
  apply ByteArray.ext
  rw [ByteArray.data_append]
  show (bitsL (l ++ m)).toArray = (bitsL l).toArray ++ (bitsL m).toArray
  rw [List.append_toArray]
  congr 1
  unfold bitsL
  rw [List.length_append, show (l.length + m.length + 7) / 8 = (l.length + 7) / 8 + (m.length + 7) / 8 by omega, List.range_add, List.map_append, List.map_map]
  congr 1
  · apply List.map_congr_left
    intro j hj
    have := List.mem_range.1 hj
    rw [bitK_left l m _ j (by omega) (by omega)]
  · apply List.map_congr_left
    intro j hj
    show UInt8.ofNat (bitK (l ++ m) (l.length + m.length) ((l.length + 7) / 8 + j)) = _
    rw [show (l.length + 7) / 8 = l.length / 8 by omega, bitK_right l m j h]

theorem bool_cells (l : List Bool) : ∀ u ∈ l.map Value.bool, u.oneCell' = true := by
  intro u hu
  obtain ⟨b, _, rfl⟩ := List.mem_map.1 hu
  rfl
/-- an append of a row of bools, nil or not, onto a row of the call's own -/
theorem append_bools (W : World) (base n : Nat) (v : Value) (xs : List Value) (A : Option Addr) (ca : Nat) (l : List Bool) (ty : TypeId)
    (hown : W.ownsRow base 4 1 v n xs) (hA : BoolsAt W A l) (h0 : A = none → ca = 0) (hlen : n + l.length ≤ 4194304) (hbase : base ≤ W.heap.size) :
    ∃ v' w', (Builtin.append_ #[34, 34] ty #[v, .slice A l.length ca]).run Tryd.prog W = .ok v' w' ∧ w'.ownsRow base 4 1 v' (n + l.length) (xs ++ l.map Value.bool) ∧ W.grownBy w' v.ownBlock := by
  obtain ⟨i0, hi, hz0, hz1, hz2⟩ := info_parts (show (Tryd.prog.info? 4).map (fun i => (i.zero, i.size, i.bytes)) = some (some (.bool false), 1, 1) by kernel_rfl)
  cases A with
  | none =>
    have hl : l = [] := by
      rcases Nat.eq_zero_or_pos l.length with h | h
      · exact List.eq_nil_of_length_eq_zero h
      · obtain ⟨b, off, h1, _⟩ := hA h
        cases h1
    obtain rfl := h0 rfl
    subst hl
    have hr := run_append_owned_none (P := Tryd.prog) (w := W) base 34 ty 4 i0 1 Tryd.underlying34 hi v n xs hown
    refine ⟨v, W, hr, by simpa using hown, ⟨rfl, rfl, rfl, Nat.le_refl _, fun _ _ _ => rfl⟩⟩
  | some a =>
    obtain ⟨v', w', hr, h1, h2, _⟩ := run_append_own (P := Tryd.prog) W base 34 ty 4 i0 (.bool false) 1 1 Tryd.underlying34 hi hz0 hz1 hz2 rfl (by decide) v n xs hown a l.length ca (l.map Value.bool) (by simp) (fun j u hj => by
      have hj' : j < l.length := by
        rcases Nat.lt_or_ge j l.length with h | h
        · exact h
        · rw [List.getElem?_eq_none (by simpa using h)] at hj; cases hj
      obtain ⟨b, off, e, _, hc⟩ := hA (by omega)
      obtain rfl : a = ⟨b, off, none⟩ := Option.some.inj e
      rw [Go.WideShapes.add_plain, hc j hj', ← hj]
      simp [hj']) (bool_cells l) (by unfold maxLen; omega) (by omega) hbase
    exact ⟨v', w', hr, h1, h2⟩
theorem wanted_some {o : Oper} {ops : Array Oper} {tmps : Array Value} {j : Nat} {t : Tmp} (hg : o.guard = some (j, true)) (hd : (ops[j]?).bind (·.dst) = some t) (hv : tmps[t]? = some (.bool true)) :
    Region.wanted o (yielded ops tmps) = true := by
  simp [Region.wanted, hg, yielded, hd, hv]
/-- the same for the walk, where the append is asked for by a guard that says yes -/
theorem wpList_append_bools {W : World} {ops : Array Oper} {rest : List Oper} {o : Oper} {a : Act} {Q : Exit → Act → World → Prop} (j : Nat) (t : Tmp) (hg : o.guard = some (j, true)) (hd : (ops[j]?).bind (·.dst) = some t) (hvt : a.tmps[t]? = some (.bool true)) (s x : Operand)
    (ho : o.op = .call { callee := .builtin .append, args := #[s, x], argTypes := #[34, 34] })
    (base n : Nat) (v : Value) (xs : List Value) (A : Option Addr) (ca : Nat) (l : List Bool) (hs : a.eval s = v) (hx : a.eval x = .slice A l.length ca)
    (hown : W.ownsRow base 4 1 v n xs) (hA : BoolsAt W A l) (h0 : A = none → ca = 0) (hlen : n + l.length ≤ 4194304) (hbase : base ≤ W.heap.size)
    (h : ∀ v' w', w'.ownsRow base 4 1 v' (n + l.length) (xs ++ l.map Value.bool) → W.grownBy w' v.ownBlock → wpList Tryd.prog ops Q rest (a.put o.dst v') w') : wpList Tryd.prog ops Q (o :: rest) a W := by
  obtain ⟨v', w', hr, h1, h2⟩ := append_bools W base n v xs A ca l o.type hown hA h0 hlen hbase
  refine wpList_step fun K hK => ?_
  rw [if_pos (wanted_some hg hd hvt)]
  unfold Oper.wp execOp
  simp only [ho, resolve, invoke, builtin, Sem.run_bind, Sem.run_pure, Result.andThen_ok, List.map_toArray, List.map_cons, List.map_nil, hs, hx, hr]
  exact hK _ _ (h v' w' h1 h2)

set_option maxHeartbeats 1000000 in
theorem byteslaw_any (A B : Option Addr) (ca cb : Nat) (l m : List Bool) (w : World) (hw : Wid w) (hl : l.length ≤ 2097152) (hm : m.length ≤ 2097152) (hA : BoolsAt w A l) (hB : BoolsAt w B m) (a0 : A = none → ca = 0) (b0 : B = none → cb = 0) :
    Calls Tryd.prog 10 #[.slice A l.length ca, .slice B m.length cb] w fun e w' => e = .returned (.bool true) ∧ Below w.heap.size w w' := by
  have hsz := bitsS_size l
  have hsz2 : (((bitsS l).size : Int) != ((l.length : Int) + 7) / 8) = false := by rw [hsz]; simp
  have hsz3 : (bitsS l).size ≤ 2097152 := by omega
  have hsz4 : (bitsS m).size ≤ 2097152 := by rw [bitsS_size]; omega
  clear hsz
  by_cases h8 : l.length % 8 = 0
  · have d8 : (((l.length : Int) % 8) != 0) = false := by simp; omega
    have HJ := Lib.hid (bitsS_append l m h8)
    clear h8
    go_enter Tryd.func10, Tryd.ntmps10
    go_wp2_with fail
    refine (shown_any w hw).mono ?_
    rintro e w1 ⟨rfl, hb1⟩
    go_wp2_with fail
    refine (bits_any A ca l w1 (by omega) (hA.below hb1)).mono ?_
    rintro e w2 ⟨rfl, hb2⟩
    have hb2 := hb1.trans (hb2.mono hb1.size)
    clear hb1
    have A0 := Lib.hid a0
    have B0 := Lib.hid b0
    clear a0 b0
    go_wp2_with (at_builtin; refine wpList_append_bools 1 23 rfl rfl rfl _ _ rfl w.heap.size 0 _ [] A ca l rfl rfl ?o1 ?b1 ?n1 ?l1 ?s1 ?_)
    case o1 => exact ⟨rfl, Or.inr ⟨w2.heap.size, 0, #[], rfl, hb2.size, Box.new w2 _ _, Nat.le_refl _, Nat.zero_le _, rfl, rfl⟩⟩
    case b1 => exact (hA.below hb2).below ((Below.refl _ _).alloc (Nat.le_refl _) _)
    case n1 => exact A0.out
    case l1 => omega
    case s1 => have := hb2.size; simp; omega
    intro v1 w3 hown1 hgr1
    have hb3 : Below w.heap.size w w3 := (hb2.alloc hb2.size _).grown hgr1 (by have := hb2.size; simp; omega) (fun k hk => by
      simp [Value.ownBlock] at hk; have := hb2.size; omega)
    clear hgr1 hb2
    have Hown1 := Lib.hid hown1
    clear hown1
    go_wp2_with (at_builtin; refine wpList_append_bools 1 23 rfl rfl rfl _ _ rfl w.heap.size l.length _ (l.map Value.bool) B cb m rfl rfl ?o1 ?b1 ?n1 ?l1 ?s1 ?_)
    case o1 => exact Hown1.out
    case b1 => exact hB.below hb3
    case n1 => exact B0.out
    case l1 => omega
    case s1 => exact hb3.size
    intro v2 w4 hown2 hgr2
    have hb4 : Below w.heap.size w w4 := hb3.grown hgr2 hb3.size (fun k hk => by
      rcases Hown1.out.2 with ⟨rfl, _⟩ | ⟨g, cap, cur, rfl, hg, _⟩
      · simp [Value.ownBlock] at hk
      · simp [Value.ownBlock] at hk; omega)
    rw [← List.map_append] at hown2
    have Hv2 : Hid (∃ A' c', v2 = .slice A' (l ++ m).length c' ∧ BoolsAt w4 A' (l ++ m)) := by
      rcases hown2 with ⟨_, ⟨rfl, h0⟩ | ⟨g, cap, cur, rfl, hg, hh, hle, _, hsz, htake⟩⟩
      · refine ⟨none, 0, by rw [List.length_append, h0], fun h => ?_⟩
        rw [List.length_append] at h; omega
      · refine ⟨some ⟨g, 0, none⟩, cap, by rw [List.length_append], fun _ => ⟨g, 0, rfl, Box.lt (t := 4) (cs := cur) hh, fun j hj => ?_⟩⟩
        rw [Nat.zero_add, Box.cell (t := 4) (cs := cur) hh j]
        have e1 : cur.toList[j]? = ((l ++ m).map Value.bool)[j]? := by
          rw [← htake, List.getElem?_take_of_lt (by rw [List.length_append] at hj; omega)]
        rw [← Array.getElem?_toList, e1]
        simp only [List.getElem?_map, List.getElem?_eq_getElem hj, Option.map_some]
    clear hown2 hgr2 Hown1 hb3
    obtain ⟨A', c', hv, hB'⟩ := Hv2.out
    rw [hv]
    clear hv Hv2
    go_wp2_with fail
    have hbits := bits_any A' c' (l ++ m) w4 (by rw [List.length_append]; omega) hB'
    rw [List.length_append] at hbits
    refine hbits.mono ?_
    clear hbits
    rintro e w5 ⟨rfl, hb5⟩
    have hb5 := hb4.trans (hb5.mono hb4.size)
    clear hb4 hB'
    rw [HJ.out]
    go_wp2_with fail
    refine (bits_any B cb m w5 (by omega) (hB.below hb5)).mono ?_
    rintro e w6 ⟨rfl, hb6⟩
    have hb6 := hb5.trans (hb6.mono hb5.size)
    clear hb5
    go_wp2_with fail
    refine (rbits_any A ca l w6 (by omega) (hA.below hb6)).mono ?_
    rintro e w7 ⟨rfl, hb7⟩
    have hb7 := hb6.trans (hb7.mono hb6.size)
    clear hb6
    go_wp2
    go_ret
    exact ⟨by simp, hb7⟩
  · have d8 : (((l.length : Int) % 8) != 0) = true := by simp; omega
    go_enter Tryd.func10, Tryd.ntmps10
    go_wp2_with fail
    refine (shown_any w hw).mono ?_
    rintro e w1 ⟨rfl, hb1⟩
    go_wp2_with fail
    refine (bits_any A ca l w1 (by omega) (hA.below hb1)).mono ?_
    rintro e w2 ⟨rfl, hb2⟩
    have hb2 := hb1.trans (hb2.mono hb1.size)
    go_wp2
    go_ret
    exact ⟨rfl, hb2⟩
end Go.Proofs.YtcmgoifjbobpoaaDoor
