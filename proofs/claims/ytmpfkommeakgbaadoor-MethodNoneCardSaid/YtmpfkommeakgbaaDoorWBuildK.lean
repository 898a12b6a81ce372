/-
  A strings.Builder of one's own: WriteString lays the bytes behind those that are there, and writes nothing but the builder and its bytes. Condition: at most 2^47 bytes.
-/
import Derived.Test.YtmpfkommeakgbaaDoorWBuild
import Derived.Test.YtmpfkommeakgbaaDoorJMem
import Derived.Test.YtmpfkommeakgbaaDoorWWays
namespace Go.Proofs.YtmpfkommeakgbaaDoor
open Go.RowKit

/-- other types than a builder's and its bytes' -/
def notBuild (t : TypeId) : Bool := t != 5 && t != 69
theorem copyCheck_keeps (B b : Nat) (bs : List Value) (w : World) (h : Lib.IsBuilder 69 5 B b bs w) :
    Calls Tryd.prog 50 #[.pointer (some ⟨b, 0, none⟩)] w fun e w' => e = .returned (.tuple #[]) ∧ Lib.BuilderAt 69 5 B b (.pointer (some ⟨b, 0, none⟩)) bs w' ∧ Below B w w' ∧ Keeps notBuild w w' := by
  rcases h with h | h
  · refine (copyCheck_fresh b w h.cell0 h.shape h.frozen0).mono ?_
    rintro e w' ⟨rfl, rfl⟩
    have hbk := h.2
    obtain ⟨v, hb, -⟩ := hbk
    exact ⟨rfl, h.used _, (Below.refl B w).setCell (p := ⟨b, 0, none⟩) h.1 _, Keeps.setCell hb (by decide) 0 _⟩
  · refine (copyCheck_used b w h.cell0).mono ?_
    rintro e w' ⟨rfl, rfl⟩
    exact ⟨rfl, h, Below.refl B _, Keeps.refl _ _⟩

set_option maxRecDepth 100000 in
set_option maxHeartbeats 2000000 in
theorem writeString_keeps (B b : Nat) (bs : List Value) (s : ByteArray) (w : World) (h : Lib.IsBuilder 69 5 B b bs w) (hlen : bs.length + s.size ≤ 140737488355328) (hBw : B ≤ w.heap.size) :
    Calls Tryd.prog 31 #[.pointer (some ⟨b, 0, none⟩), .string s] w fun e w' => e = .returned (.tuple #[.int .i64 s.size, .nilIface]) ∧ Lib.IsBuilder 69 5 B b (bs ++ Lib.strCells s) w' ∧ Below B w w' ∧ Keeps notBuild w w' := by
  obtain ⟨i0, hi, hz0, hz1, hz2⟩ := info_parts infoByte8
  go_enter Tryd.func31, Tryd.ntmps31
  go_wp2_with fail
  refine (copyCheck_keeps B b bs _ h).mono ?_
  rintro e w1 ⟨rfl, h1, hb1, hk1⟩
  obtain ⟨hB, v, hbk, hown, hne⟩ := h1
  have c0 : w1.cell? ⟨b, 0, none⟩ = some (.pointer (some ⟨b, 0, none⟩)) := by rw [Lib.cell_of_heap hbk]; rfl
  have c1 : w1.cell? ⟨b, 1, none⟩ = some v := by rw [Lib.cell_of_heap hbk]; rfl
  go_wp2_with (at_builtin; refine Lib.wpList_append_own_string _ rfl _ _ 67 9 rfl B 5 i0 Tryd.underlying67 Tryd.underlying9 hi hz0 hz1 hz2 _ _ _ rfl hown s rfl ?c3 ?c4 ?c5 ?_)
  case c3 => unfold maxLen; omega
  case c4 => omega
  case c5 => have := hb1.size; omega
  intro v' w2 hown' hgrow _
  have hlt : b < w1.heap.size := by
    rcases Nat.lt_or_ge b w1.heap.size with h' | h'
    · exact h'
    · simp [Array.getElem?_eq_none h'] at hbk
  have hb2 : w2.heap[b]? = some (.cells #[.pointer (some ⟨b, 0, none⟩), v] 69 (0, 0)) := by
    rw [hgrow.block b hlt (fun e => hne e.symm)]
    exact hbk
  have d0 : w2.cell? ⟨b, 0, none⟩ = some (.pointer (some ⟨b, 0, none⟩)) := by rw [Lib.cell_of_heap hb2]; rfl
  have d1 : w2.cell? ⟨b, 1, none⟩ = some v := by rw [Lib.cell_of_heap hb2]; rfl
  have f1 : w2.frozen? ⟨b, 1, none⟩ = false := Lib.frozen_of_heap hb2 1
  obtain ⟨ao, n', cap, rfl⟩ : ∃ ao n' cap, v' = .slice ao n' cap := by
    rcases hown'.2 with ⟨hv, _⟩ | ⟨g, cap, cur, hv, _⟩
    · exact ⟨_, _, _, hv⟩
    · exact ⟨_, _, _, hv⟩
  go_wp2
  go_ret2
  refine ⟨rfl, .inr ?_, ?_, ?_⟩
  · exact Lib.BuilderAt.put (T := 69) (e := 5) hB hb2 (bs' := bs ++ Lib.strCells s) (by simpa [Lib.strCells_length] using hown') (by decide)
  · exact (hb1.grown hgrow (by have := hb1.size; omega) (fun k hk => (hown.lt k hk).1)).setCell (p := ⟨b, 1, none⟩) hB _
  · exact (hk1.trans (Keeps.grown hown hgrow (by decide))).trans (Keeps.setCell hb2 (by decide) 1 _)
/-- a builder stays while only other types are written -/
theorem isBuilder_keeps {p : TypeId → Bool} {B b : Nat} {bs : List Value} {w w' : World} (h : Lib.IsBuilder 69 5 B b bs w) (hk : Keeps p w w') (h1 : p 5 = true) (h2 : p 69 = true) : Lib.IsBuilder 69 5 B b bs w' := by
  have key : ∀ q, Lib.BuilderAt 69 5 B b q bs w → Lib.BuilderAt 69 5 B b q bs w' := by
    intro q hq
    obtain ⟨hB, v, hbk, hown, hne⟩ := hq
    exact ⟨hB, v, hk b _ hbk (fun _ _ _ e => by cases e; exact h2), hk.row hown h1, hne⟩
  exact h.imp (key _) (key _)
theorem Ways.keeps {p : TypeId → Bool} {w w' : World} {M : Nat} (h : Ways w M) (hk : Keeps p w w') : Ways w' M := by
  obtain ⟨es, clock, h1, h2, h3, h4⟩ := h
  exact ⟨es, clock, hk M _ h1 (fun _ _ _ e => by cases e), h2, h3, h4⟩

/-- bools as a row's values -/
def boolVals (l : List Bool) : List Value := l.map Value.bool
def notBits (t : TypeId) : Bool := t != 4 && t != 70
theorem infoBool8 : (Tryd.prog.info? 4).map (fun i => (i.zero, i.size, i.bytes)) = some (some (.bool false), 1, 1) := by kernel_rfl
set_option maxRecDepth 100000 in
set_option maxHeartbeats 1000000 in
theorem gather_any (B bb : Nat) (x : Int) (vb : Value) (bs : List Bool) (w : World) (hB : B ≤ bb) (hBw : B ≤ w.heap.size) (hbx : Boxed w bb 70 vb) (hown : w.ownsRow B 4 1 vb bs.length (boolVals bs)) (hl : bs.length ≤ 1000) :
    Calls Tryd.prog 30 #[.int .u64 x, .pointer (some ⟨bb, 0, none⟩)] w fun e w' => e = .returned (.tuple #[]) ∧ (∃ vb', Boxed w' bb 70 vb' ∧ w'.ownsRow B 4 1 vb' (bs ++ [x == 1]).length (boolVals (bs ++ [x == 1]))) ∧ Below B w w' ∧ Keeps notBits w w' := by
  obtain ⟨i0, hi, hz0, hz1, hz2⟩ := info_parts infoBool8
  have c0 := hbx.cell
  have HL := Lib.hid (show boolVals (bs ++ [x == 1]) = boolVals bs ++ [.bool (x == 1)] ∧ (bs ++ [x == 1]).length = bs.length + 1 by simp [boolVals])
  generalize (bs ++ [x == 1]) = bs' at HL
  generalize hq : (x == 1) = q at HL
  go_enter Tryd.func30, Tryd.ntmps30
  go_wp2_with (first
    | (at_builtin; refine wpList_append_own _ rfl _ _ 70 rfl B 4 i0 (.bool false) 1 1 Tryd.underlying70 hi hz0 hz1 hz2 rfl (by decide) _ _ _ rfl (hown.alloc _) ⟨w.heap.size, 0, none⟩ 1 1 [.bool q] rfl rfl (cell_one_new _ _ _) (by simp [Value.oneCell']) (by unfold maxLen; omega) (by omega) (by simp; omega) ?_))
  intro o' w3 hown' hgrow _
  have hb3 := rowBelow hBw hown (Below.refl B w) hgrow
  have hka : Keeps notBits w (w.alloc (.cells #[.bool q] 4)) := Keeps.below ((Below.refl _ w).alloc (Nat.le_refl _) _)
  have hk3 : Keeps notBits w w3 := hka.trans (Keeps.grown (hown.alloc _) hgrow (by decide))
  have hnb : some bb ≠ vb.ownBlock := fun e => by
    rcases hown.2 with ⟨rfl, _⟩ | ⟨g, cap, cur, rfl, -, hb, -, -⟩
    · simp [Value.ownBlock] at e
    · obtain rfl : g = bb := by simpa [Value.ownBlock] using e.symm
      rw [show w.heap[g]? = _ from hbx] at hb
      cases hb
  have hbx3 : Boxed w3 bb 70 vb := (hbx.alloc _).kept hgrow hnb
  have hnb' : some bb ≠ o'.ownBlock := fun e => by
    rcases hown'.2 with ⟨rfl, _⟩ | ⟨g, cap, cur, rfl, -, hb, -, -⟩
    · simp [Value.ownBlock] at e
    · obtain rfl : g = bb := by simpa [Value.ownBlock] using e.symm
      rw [show w3.heap[g]? = _ from hbx3] at hb
      cases hb
  have c3 := hbx3.cell
  have f3 := hbx3.frozen
  have hset := hbx3.set o'
  have Hk := Keeps.setCell (p := notBits) (show w3.heap[bb]? = _ from hbx3) (by decide) 0 o'
  have Hown : Hid (w3.ownsRow B 4 1 o' (bs.length + 1) (boolVals bs ++ [.bool q])) := Lib.hid hown'
  have hown4 := Keeps.row (p := fun t => t != 70) (Keeps.setCell (show w3.heap[bb]? = _ from hbx3) (by decide) 0 o') Hown.out (by decide)
  obtain ⟨ao, n', cap, rfl⟩ : ∃ ao n' cap, o' = .slice ao n' cap := by
    rcases hown'.2 with ⟨hv, _⟩ | ⟨g, cap, cur, hv, _⟩
    · exact ⟨_, _, _, hv⟩
    · exact ⟨_, _, _, hv⟩
  have hb4 := hb3.setCell (p := ⟨bb, 0, none⟩) hB (.slice ao n' cap)
  clear hown' hown hgrow hbx hbx3 hnb hnb' hka c0
  go_wp2
  go_end0
  refine ⟨rfl, ⟨_, hset, ?_⟩, hb4, hk3.trans Hk⟩
  rw [HL.out.1, HL.out.2]
  exact hown4
end Go.Proofs.YtmpfkommeakgbaaDoor
