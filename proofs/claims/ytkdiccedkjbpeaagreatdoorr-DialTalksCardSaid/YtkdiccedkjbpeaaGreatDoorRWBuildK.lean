/-
  A strings.Builder of one's own: WriteString lays the bytes behind those that are there, and writes nothing but the builder and its bytes. Condition: at most 2^47 bytes.
-/
import Derived.Test.YtkdiccedkjbpeaaGreatDoorRJBuild
import Derived.Test.YtkdiccedkjbpeaaGreatDoorRWWays
namespace Go.Proofs.YtkdiccedkjbpeaaGreatDoorR
open Go.RowKit

theorem Ways.keeps {p : TypeId → Bool} {w w' : World} {M : Nat} (h : Ways w M) (hk : Keeps p w w') : Ways w' M := by
  obtain ⟨es, clock, h1, h2, h3, h4⟩ := h
  exact ⟨es, clock, hk M _ h1 (fun _ _ _ e => by cases e), h2, h3, h4⟩

/-- bools as a row's values -/
def boolVals (l : List Bool) : List Value := l.map Value.bool
def notBits (t : TypeId) : Bool := t != 4 && t != 114
theorem infoBool8 : (Tryz.prog.info? 4).map (fun i => (i.zero, i.size, i.bytes)) = some (some (.bool false), 1, 1) := by kernel_rfl
set_option maxRecDepth 100000 in
set_option maxHeartbeats 1000000 in
theorem gather_any (B bb : Nat) (x : Int) (vb : Value) (bs : List Bool) (w : World) (hB : B ≤ bb) (hBw : B ≤ w.heap.size) (hbx : Boxed w bb 114 vb) (hown : w.ownsRow B 4 1 vb bs.length (boolVals bs)) (hl : bs.length ≤ 1000) :
    Calls Tryz.prog 76 #[.int .u64 x, .pointer (some ⟨bb, 0, none⟩)] w fun e w' => e = .returned (.tuple #[]) ∧ (∃ vb', Boxed w' bb 114 vb' ∧ w'.ownsRow B 4 1 vb' (bs ++ [x == 1]).length (boolVals (bs ++ [x == 1]))) ∧ Below B w w' ∧ Keeps notBits w w' := by
  obtain ⟨i0, hi, hz0, hz1, hz2⟩ := info_parts infoBool8
  have c0 := hbx.cell
  have HL := Lib.hid (show boolVals (bs ++ [x == 1]) = boolVals bs ++ [.bool (x == 1)] ∧ (bs ++ [x == 1]).length = bs.length + 1 by simp [boolVals])
  generalize (bs ++ [x == 1]) = bs' at HL
  generalize hq : (x == 1) = q at HL
  go_enter Tryz.func76, Tryz.ntmps76
  go_wp2_with (first
    | (at_builtin; refine wpList_append_own _ rfl _ _ 114 rfl B 4 i0 (.bool false) 1 1 Tryz.underlying114 hi hz0 hz1 hz2 rfl (by decide) _ _ _ rfl (hown.alloc _) ⟨w.heap.size, 0, none⟩ 1 1 [.bool q] rfl rfl (cell_one_new _ _ _) (by simp [Value.oneCell']) (by unfold maxLen; omega) (by omega) (by simp; omega) ?_))
  intro o' w3 hown' hgrow _
  have hb3 := rowBelow hBw hown (Below.refl B w) hgrow
  have hka : Keeps notBits w (w.alloc (.cells #[.bool q] 4)) := Keeps.below ((Below.refl _ w).alloc (Nat.le_refl _) _)
  have hk3 : Keeps notBits w w3 := hka.trans (Keeps.grown (hown.alloc _) hgrow (by decide))
  have hnb : some bb ≠ vb.ownBlock := fun e => by
    rcases hown.2 with ⟨rfl, _⟩ | ⟨g, cap, cur, rfl, -, hb, -, -⟩
    · simp [Value.ownBlock] at e
    · obtain rfl : g = bb := by simpa [Value.ownBlock] using e.symm
      rw [show w.heap[g]? = _ from hbx] at hb
      cases hb
  have hbx3 : Boxed w3 bb 114 vb := (hbx.alloc _).kept hgrow hnb
  have hnb' : some bb ≠ o'.ownBlock := fun e => by
    rcases hown'.2 with ⟨rfl, _⟩ | ⟨g, cap, cur, rfl, -, hb, -, -⟩
    · simp [Value.ownBlock] at e
    · obtain rfl : g = bb := by simpa [Value.ownBlock] using e.symm
      rw [show w3.heap[g]? = _ from hbx3] at hb
      cases hb
  have c3 := hbx3.cell
  have f3 := hbx3.frozen
  have hset := hbx3.set o'
  have Hk := Keeps.setCell (p := notBits) (show w3.heap[bb]? = _ from hbx3) (by decide) 0 o'
  have Hown : Hid (w3.ownsRow B 4 1 o' (bs.length + 1) (boolVals bs ++ [.bool q])) := Lib.hid hown'
  have hown4 := Keeps.row (p := fun t => t != 114) (Keeps.setCell (show w3.heap[bb]? = _ from hbx3) (by decide) 0 o') Hown.out (by decide)
  obtain ⟨ao, n', cap, rfl⟩ : ∃ ao n' cap, o' = .slice ao n' cap := by
    rcases hown'.2 with ⟨hv, _⟩ | ⟨g, cap, cur, hv, _⟩
    · exact ⟨_, _, _, hv⟩
    · exact ⟨_, _, _, hv⟩
  have hb4 := hb3.setCell (p := ⟨bb, 0, none⟩) hB (.slice ao n' cap)
  clear hown' hown hgrow hbx hbx3 hnb hnb' hka c0
  go_wp2
  go_end0
  refine ⟨rfl, ⟨_, hset, ?_⟩, hb4, hk3.trans Hk⟩
  rw [HL.out.1, HL.out.2]
  exact hown4
end Go.Proofs.YtkdiccedkjbpeaaGreatDoorR
