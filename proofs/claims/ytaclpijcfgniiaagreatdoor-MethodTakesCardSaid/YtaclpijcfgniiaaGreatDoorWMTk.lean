/-
  method.take answers the values that bytes begin with, by their letters, in a row of its own, or that there are none; nothing that was there is changed. Conditions: the package num's table of widths holds 1, 2, 4, 8; texts of fewer than 2^62 bytes; at most 16 letters, each a letter of values.
-/
import Derived.Test.YtaclpijcfgniiaaGreatDoorJTakeBits
namespace Go.Proofs.YtaclpijcfgniiaaGreatDoor
open Go.RowKit

def strLen : Value → Nat
  | .string s => s.size
  | _ => 0
structure TkI (w : World) (L s T S : ByteArray) (acc : List MV) (v : Value) (wr : World) : Prop where
  row : wr.ownsRow w.heap.size 48 2 v acc.length (rowV acc)
  bel : Below w.heap.size w wr
  tl : acc.length + T.size = L.size
  sl : S.size ≤ s.size
  lets : ∀ c ∈ T.data.toList, isLet c = true
  eq : tk L.data.toList s = (tk T.data.toList S).map fun x => (acc ++ x.1, x.2)
theorem tbR_le (s : ByteArray) (n : Int) : (tbR s n).size ≤ s.size := by
  unfold tbR
  split
  · rw [ByteArray.size_extract]; omega
  · exact Nat.zero_le _
theorem oR_le {c : UInt8} {s : ByteArray} (hc : ¬ c = 98) (h : oE c s = 0) : (oR c s).size ≤ s.size := by
  obtain ⟨-, e, -⟩ := one_forth hc h
  have := congrArg ByteArray.size e
  rw [ByteArray.size_append] at this
  omega
theorem map_acc {x : Option (List MV × ByteArray)} (acc m : List MV) : (x.map fun y => (m ++ y.1, y.2)).map (fun y => (acc ++ y.1, y.2)) = x.map fun y => ((acc ++ m) ++ y.1, y.2) := by
  cases x with
  | none => rfl
  | some y => simp
theorem cell_pair_new (w : World) (x y : Value) (t : TypeId) : ∀ j u, [x, y][j]? = some u → (w.alloc (.cells #[x, y] t)).cell? ((⟨w.heap.size, 0, none⟩ : Addr).add j) = some u := by
  intro j u hj
  match j, hj with
  | 0, hj => simp at hj; subst hj; simp [Addr.add]
  | 1, hj => simp at hj; subst hj; simp [Addr.add]

theorem rowBelow0 {w wr w1 : World} {base : Nat} {e : TypeId} {size : Nat} {v : Value} {n : Nat} {xs : List Value} (hn : base ≤ w.heap.size) (hrow : wr.ownsRow base e size v n xs) (hb : Below base w wr) (hg : wr.grownBy w1 v.ownBlock) : Below base w w1 :=
  hb.grown hg (Nat.le_trans hn hb.size) (fun j ej => by
    rcases hrow.2 with ⟨rfl, _⟩ | ⟨g, cap, cur, rfl, hbg, _, _⟩
    · simp [Value.ownBlock] at ej
    · obtain rfl : g = j := by simpa [Value.ownBlock] using ej
      exact hbg)
theorem rowBelow1 {w wr w1 : World} {base : Nat} {e : TypeId} {size : Nat} {v : Value} {n : Nat} {xs : List Value} (hn : base ≤ w.heap.size) (hrow : wr.ownsRow base e size v n xs) (hb : Below base w wr) (hg : wr.drew.grownBy w1 v.ownBlock) : Below base w w1 :=
  rowBelow0 (wr := wr.drew) hn hrow hb.drew hg

def TkPost (L s : ByteArray) (w : World) (e : Ending) (w' : World) : Prop :=
  (∃ l r v, tk L.data.toList s = some (l, r) ∧ e = .returned (.tuple #[v, .string r, .int .i64 0]) ∧ w'.ownsRow w.heap.size 48 2 v l.length (rowV l) ∧ l.length = L.size ∧ Below w.heap.size w w') ∨
  (∃ x, tk L.data.toList s = none ∧ e = .returned (.tuple #[.slice none 0 0, .string ⟨#[]⟩, .int .i64 x]) ∧ x ≠ 0 ∧ Below w.heap.size w w')

set_option maxRecDepth 100000 in
set_option maxHeartbeats 4000000 in
theorem mtake_any (L s : ByteArray) (w : World) (hw : Wid w) (h16 : L.size ≤ 16) (hls : ∀ c ∈ L.data.toList, isLet c = true) (hs : s.size < 4611686018427387904) :
    Calls Tryz.prog 24 #[.string L, .string s] w (TkPost L s w) := by
  obtain ⟨i0, hi, hz0, hz1, hz2⟩ := info_partsV infoVal
  have hI : TkI w L s L s [] (.slice none 0 0) w := ⟨World.ownsRow_nil _ _ _ _, Below.refl _ _, by simp, Nat.le_refl _, hls, by cases tk L.data.toList s <;> simp⟩
  clear hls
  go_enter Tryz.func24, Tryz.ntmps24
  go_wp2_with fail
  go_step3
  go_wp2
  go_step3
  go_wp2
  go_loopw [0, 1, 7] (fun a b v wr => ∃ T S acc, a = .string T ∧ b = .string S ∧ TkI w L s T S acc v wr) (fun a _ _ _ => strLen a)
  case atStart => exact ⟨L, s, [], rfl, rfl, hI⟩
  case round =>
    obtain ⟨T, S, acc, rfl, rfl, HI⟩ := hrel
    clear hI
    rcases str_cases T with ⟨rfl, -⟩ | ⟨tT, hT⟩
    · have HF : Hid (tk L.data.toList s = some (acc, S)) := Lib.hid (by rw [HI.eq, show (⟨#[]⟩ : ByteArray).data.toList = [] from rfl, tk_nil]; simp)
      have hrow := HI.row
      have hbel := HI.bel
      have Htl := Lib.hid HI.tl
      clear HI
      go_wp2
      rw [Exit.noGoto_ret]
      go_ret3
      exact .inl ⟨acc, S, _, HF.out, rfl, hrow, Htl.out, hbel⟩
    · have hTL := HI.tl
      have hSl := HI.sl
      have hBA := bitsAhead_any T wr (by omega)
      have hNb : nb T.data.toList ≤ T.size := by rw [← ba_len]; exact nb_le _
      obtain ⟨N, hN⟩ : ∃ N, nb T.data.toList = N := ⟨_, rfl⟩
      rw [hN] at hBA hNb
      have HN := Lib.hid hN
      clear hN
      have hxd := Lib.hid (extract_drop T)
      go_wp2_with fail
      refine hBA.mono ?_
      rintro e w1 ⟨rfl, hb1⟩
      have hrow1 := rowKept HI.row hb1
      have hbel1 := HI.bel.trans (hb1.mono HI.bel.size)
      have Heq := Lib.hid HI.eq
      have Hlet := Lib.hid HI.lets
      clear hBA hb1 HI
      by_cases hpos : 0 < N
      · have HT : Hid (∃ t, T.data.toList = 98 :: t ∧ nb t + 1 = N) := Lib.hid (by
          obtain ⟨M, rfl⟩ : ∃ M, N = M + 1 := ⟨N - 1, by omega⟩
          obtain ⟨t, ht, hM⟩ := nb_succ HN.out
          exact ⟨t, ht, by omega⟩)
        have tN : decide ((0 : Int) < (N : Int)) = true := by simpa using hpos
        by_cases hE : tbE S (N : Int) = 0
        · have hTB := mtakeBits_ok S N w1 (by omega) hE
          have HQ : Hid (tk L.data.toList s = (tk (T.extract N T.size).data.toList (tbR S (N : Int))).map fun x => ((acc ++ (bitsOf S N).map bitV) ++ x.1, x.2)) := Lib.hid (by
            obtain ⟨t, ht, hM⟩ := HT.out
            subst hM
            rw [Heq.out, ht, tk_bits, if_pos hE, map_acc, hxd.out, ht, List.drop_succ_cons])
          have HLt : Hid (∀ c ∈ (T.extract N T.size).data.toList, isLet c = true) := Lib.hid (fun c hc => by
            rw [hxd.out] at hc
            exact Hlet.out c (List.mem_of_mem_drop hc))
          have hRl := tbR_le S (N : Int)
          have hbl := bitsOf_length S N
          have HX : Hid ((T.extract N T.size).size = T.size - N) := Lib.hid (by rw [ByteArray.size_extract]; omega)
          generalize tbR S (N : Int) = R at hTB HQ hRl
          have hnl : (rowV ((bitsOf S N).map bitV)).length = N * 2 := by rw [rowV_length, List.length_map, hbl]
          have h1c := Lib.hid (rowV_one ((bitsOf S N).map bitV))
          have Hml : Hid (((bitsOf S N).map bitV).length = N) := Lib.hid (by rw [List.length_map, hbl])
          generalize (bitsOf S N).map bitV = ms at hTB HQ hnl h1c Hml
          have Hnl := Lib.hid hnl
          clear hE hbl HT HN Heq Hlet hxd hnl
          go_wp2_with fail
          refine hTB.mono ?_
          rintro e w2 ⟨g, rfl, hV2, hb2⟩
          have hrow2 := rowKept hrow1 hb2
          have hbel2 := hbel1.trans (hb2.mono hbel1.size)
          have hs2 := hbel2.size
          obtain ⟨b9, off9, e9, -, hc9⟩ := hV2 (by rw [Hnl.out]; omega)
          have hcells : Hid (∀ j u, (rowV ms)[j]? = some u → w2.cell? ((⟨g, 0, none⟩ : Addr).add j) = some u) := Lib.hid (fun j u hj => by
            obtain ⟨hlt, he⟩ := List.getElem?_eq_some_iff.1 hj
            cases e9
            have := hc9 j hlt
            rw [he] at this
            rw [Addr.add_mid]
            exact this)
          clear hTB hrow1 hb2 hbel1 hV2 hc9 e9
          go_wp2
          have hs2' : w.heap.size ≤ w2.drew.heap.size := hs2
          go_region_law (refine step_append_lies _ rfl (.tmp 31) (.tmp 32) 22 rfl w.heap.size 48 i0 (.agg #[.int .u64 0, .string ⟨#[]⟩]) 2 24 Tryz.underlying22 hi hz0 hz1 hz2 rfl (by decide) _ _ _ rfl hrow2 ⟨g, 0, none⟩ N N (rowV ms) rfl Hnl.out hcells.out h1c.out hpos (by unfold maxLen; omega) (by omega) hs2' _ rfl ?_; intro g3 cap3 w3 hown3 hgrow3 hat3 hlt3)
          have hB3 := rowBelow1 (Nat.le_refl _) hrow2 hbel2 hgrow3
          have HI4 : TkI w L s (T.extract N T.size) R (acc ++ ms) (.slice (some ⟨g3, 0, none⟩) (acc.length + N) cap3) w3 := ⟨by rw [List.length_append, Hml.out, rowV_append]; exact hown3, hB3, by rw [List.length_append, Hml.out, HX.out]; omega, Nat.le_trans hRl hSl, HLt.out, HQ.out⟩
          have HM : Hid ((T.extract N T.size).size < T.size) := Lib.hid (by rw [HX.out]; omega)
          clear hown3 hgrow3 hat3 hlt3 hB3 hrow2 hbel2 hcells hs2' HQ HLt HX Hml Hnl h1c hs2 hRl
          generalize T.extract N T.size = X at HI4 HM
          simp only [Act.put, List.getElem_toArray, List.getElem_cons_succ, List.getElem_cons_zero, List.setIfInBounds_toArray, List.set_cons_zero, List.set_cons_succ]
          go_wp2
          go_roundw
          case rel => exact ⟨X, R, _, rfl, rfl, HI4⟩
          case measure => simp only [strLen]; exact HM.out
        · have hTB := mtakeBits_not S N w1 hE
          have tE : (tbE S (N : Int) != 0) = true := by simpa using hE
          have HQ : Hid (tk L.data.toList s = none) := Lib.hid (by
            obtain ⟨t, ht, hM⟩ := HT.out
            subst hM
            rw [Heq.out, ht, tk_bits, if_neg hE]
            rfl)
          have HE := Lib.hid hE
          generalize tbE S (N : Int) = E at hTB tE HE
          clear hE HT HN Heq Hlet hxd
          go_wp2_with fail
          refine hTB.mono ?_
          rintro e w2 ⟨rfl, hb2⟩
          have hbel2 := hbel1.trans (hb2.mono hbel1.size)
          clear hTB hrow1 hb2 hbel1
          go_wp2
          rw [Exit.noGoto_ret]
          go_ret3
          exact .inr ⟨E, HQ.out, rfl, HE.out, hbel2⟩
      · obtain rfl : N = 0 := by omega
        have h0 : 0 < T.size := by omega
        have h1T : (1 : Int) ≤ (T.size : Int) := by omega
        obtain ⟨c, t, ht, hc⟩ : ∃ c t, T.data.toList = c :: t ∧ ¬ c = 98 := by
          rcases nb_zero HN.out with h | h
          · have := ba_len T; rw [h] at this; simp at this; omega
          · exact h
        have hT0 : ((T[0]'h0).toNat : Int) = (c.toNat : Nat) := by
          have e : T[0]'h0 = T.data.toList[0]'(by rw [ba_len]; exact h0) := rfl
          rw [e]
          simp only [ht]
          rfl
        have hOne := takeOne_any c (Hlet.out c (by rw [ht]; exact List.mem_cons_self ..)) hc S w1 (hw.below hbel1) (by omega)
        have HT := Lib.hid ht
        generalize ((c.toNat : Nat) : Int) = cz at hT0 hOne
        have hd := hxd.out 1
        have HLt : Hid (∀ c ∈ (T.extract 1 T.size).data.toList, isLet c = true) := Lib.hid (fun c hc => by
          rw [hxd.out] at hc
          exact Hlet.out c (List.mem_of_mem_drop hc))
        have HX : Hid ((T.extract 1 T.size).size = T.size - 1) := Lib.hid (by rw [ByteArray.size_extract]; omega)
        have Hd := Lib.hid hd
        clear ht hd hxd HN Hlet
        by_cases hE : oE c S = 0
        · have HQ : Hid (tk L.data.toList s = (tk (T.extract 1 T.size).data.toList (oR c S)).map fun x => ((acc ++ [oV c S]) ++ x.1, x.2)) := Lib.hid (by
            rw [Heq.out, Hd.out, HT.out, tk_one hc, if_pos hE, List.drop_succ_cons, List.drop_zero]
            cases tk t (oR c S) with
            | none => rfl
            | some y => simp)
          have hRl := oR_le hc hE
          rw [hE] at hOne
          generalize oR c S = R at hOne HQ hRl
          generalize oV c S = ov at hOne HQ
          obtain ⟨nn, ss⟩ := ov
          unfold encV at hOne
          dsimp only at hOne
          clear hE HT Heq hc Hd
          go_wp2_with fail
          refine hOne.mono ?_
          rintro e w2 ⟨rfl, hb2⟩
          have hrow2 := rowKept hrow1 hb2
          have hbel2 := hbel1.trans (hb2.mono hbel1.size)
          have hrow3 := hrow2.alloc (.cells #[.int .u64 nn, .string ss] 48)
          have hbel3 := hbel2.alloc hbel2.size (.cells #[.int .u64 nn, .string ss] 48)
          have hbx := Bx.new w2 48 [.int .u64 nn, .string ss]
          clear hOne hrow1 hb2 hbel1 hrow2 hbel2
          go_wp2
          generalize w2.alloc (.cells #[.int .u64 nn, .string ss] 48) = w9 at hrow3 hbel3 hbx
          generalize w2.heap.size = q at hbx
          have y0 := hbx.cell 0 (by simp)
          have y1 := hbx.cell 1 (by simp)
          dsimp only [List.getElem_cons_zero, List.getElem_cons_succ] at y0 y1
          have hs9 := hbel3.size
          have hs9' : w.heap.size ≤ (w9.drew.alloc (.cells #[.int .u64 nn, .string ss] 48)).heap.size := by rw [World.size_alloc]; exact Nat.le_succ_of_le hs9
          go_region_law (refine step_append_lies _ rfl (.tmp 49) (.tmp 51) 22 rfl w.heap.size 48 i0 (.agg #[.int .u64 0, .string ⟨#[]⟩]) 2 24 Tryz.underlying22 hi hz0 hz1 hz2 rfl (by decide) _ _ _ rfl (hrow3.alloc _) ⟨w9.heap.size, 0, none⟩ 1 1 [.int .u64 nn, .string ss] rfl rfl (cell_pair_new w9.drew _ _ _) (by simp [Value.oneCell']) (by decide) (by unfold maxLen; omega) (by omega) hs9' _ rfl ?_; intro g3 cap3 w3 hown3 hgrow3 hat3 hlt3)
          have hB3 := rowBelow1 (Nat.le_refl _) (hrow3.alloc (.cells #[.int .u64 nn, .string ss] 48)) (hbel3.alloc hs9 (.cells #[.int .u64 nn, .string ss] 48)) hgrow3
          have HI4 : TkI w L s (T.extract 1 T.size) R (acc ++ [⟨nn, ss⟩]) (.slice (some ⟨g3, 0, none⟩) (acc.length + 1) cap3) w3 := ⟨by rw [List.length_append, rowV_append]; exact hown3, hB3, by rw [List.length_append, HX.out]; simp; omega, Nat.le_trans hRl hSl, HLt.out, HQ.out⟩
          have HM : Hid ((T.extract 1 T.size).size < T.size) := Lib.hid (by rw [HX.out]; omega)
          clear hown3 hgrow3 hat3 hlt3 hB3 hrow3 hbel3 hs9' HQ HLt HX hs9 hRl
          generalize T.extract 1 T.size = X at HI4 HM
          simp only [Act.put, List.getElem_toArray, List.getElem_cons_succ, List.getElem_cons_zero, List.setIfInBounds_toArray, List.set_cons_zero, List.set_cons_succ]
          go_wp2
          go_roundw
          case rel => exact ⟨X, R, _, rfl, rfl, HI4⟩
          case measure => simp only [strLen]; exact HM.out
        · have tE : (oE c S != 0) = true := by simpa using hE
          have HQ : Hid (tk L.data.toList s = none) := Lib.hid (by
            rw [Heq.out, HT.out, tk_one hc, if_neg hE]
            rfl)
          have HE := Lib.hid hE
          generalize oE c S = E at hOne tE HE
          generalize oR c S = R at hOne
          generalize oV c S = ov at hOne
          obtain ⟨nn, ss⟩ := ov
          unfold encV at hOne
          dsimp only at hOne
          clear hE HT Heq hc Hd HLt HX
          go_wp2_with fail
          refine hOne.mono ?_
          rintro e w2 ⟨rfl, hb2⟩
          have hbel2 := hbel1.trans (hb2.mono hbel1.size)
          clear hOne hrow1 hb2 hbel1
          go_wp2
          rw [Exit.noGoto_ret]
          go_ret3
          exact .inr ⟨E, HQ.out, rfl, HE.out, hbel2.alloc hbel2.size _⟩
end Go.Proofs.YtaclpijcfgniiaaGreatDoor
