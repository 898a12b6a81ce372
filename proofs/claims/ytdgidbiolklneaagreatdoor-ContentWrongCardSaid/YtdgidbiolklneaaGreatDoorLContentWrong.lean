/-
  ContentWrong's walk: a frame of a type that isn't waited for is refused, and nothing is left of the command. Conditions: the tables of widths and of contents are as their texts lay them.
-/
import Derived.Deep.DeepCutAuto
import Derived.Test.YtdgidbiolklneaaGreatDoorWFeedW
import Derived.Test.YtdgidbiolklneaaGreatDoorWCShown
import Derived.Test.YtdgidbiolklneaaGreatDoorZH
namespace Go.Proofs.YtdgidbiolklneaaGreatDoor
open Go.RowKit

set_option maxHeartbeats 1000000 in
theorem idle_any (a : As) (A B : Option Addr) (ca cb : Nat) (w : World) :
    Calls Tryz.prog 19 #[encAs a A B ca cb] w fun e w' => e = .returned (.bool (a.st == 0)) ∧ Below w.heap.size w w' := by
  have hb0 : Below w.heap.size w (w.alloc (.cells (cellsAs a A B ca cb).toArray 31)) := (Below.refl _ w).alloc (Nat.le_refl _) _
  unfold encAs
  unfold cellsAs at hb0
  go_enter Tryz.func19, Tryz.ntmps19
  go_wp2
  go_ret
  exact ⟨rfl, hb0⟩

set_option maxRecDepth 100000 in
set_option maxHeartbeats 4000000 in
theorem contentWrong_walk (a : As) (A B : Option Addr) (ca cb : Nat) (t ch : Int) (d : ByteArray) (w : World) (hw : Wid w) (hk : Con w) (hst : -9223372036854775808 ≤ a.st ∧ a.st ≤ 9223372036854775807) :
    Calls Tryz.prog 7 #[encAs a A B ca cb, encFr ⟨t, ch, d⟩] w fun e w' => e = .returned (.bool true) ∧ Below w.heap.size w w' := by
  obtain ⟨W0, hW0⟩ : ∃ W0, W0 = (w.alloc (.cells (cellsAs a A B ca cb).toArray 31)).alloc (.cells #[.int .i64 t, .int .i64 ch, .string d] 33) := ⟨_, rfl⟩
  have hb0 : Below w.heap.size w W0 := by rw [hW0]; exact ((Below.refl _ w).alloc (Nat.le_refl _) _).alloc (by simp) _
  have hx : Bx W0 w.heap.size 31 (cellsAs a A B ca cb) := by rw [hW0]; exact (Bx.new w 31 (cellsAs a A B ca cb)).alloc _
  have hf : Bx W0 (w.heap.size + 1) 33 [.int .i64 t, .int .i64 ch, .string d] := by
    have h := Bx.new (w.alloc (.cells (cellsAs a A B ca cb).toArray 31)) 33 [.int .i64 t, .int .i64 ch, .string d]
    rw [World.size_alloc] at h
    rw [hW0]; exact h
  have hSh := cshown_any W0 (hw.below hb0) (hk.below hb0)
  have hFd := fun W (h1 : 0 ≤ a.st ∧ a.st ≤ 2) (h2 : ¬ t = a.st + 1) => feed_wrong a A B ca cb t ch d W h1 h2
  have hI := fun A B ca cb W => idle_any as0 A B ca cb W
  have hS := fun A B ca cb W (h : CmAt W cm0 A B ca cb) => rcsame_any cm0 cm0 A B none none ca cb 0 0 W h (cmAt0 W) ⟨by decide, by decide⟩
  rw [(sameC_iff cm0 cm0).2 rfl] at hS
  have HI0 : (as0.st == 0) = true := rfl
  rw [HI0] at hI
  clear HI0 hw hk
  unfold FdPost fNo at hFd
  unfold encAs encFr at hFd ⊢
  unfold encAs at hI
  unfold encC at hFd hS
  unfold cellsAs at hx hW0
  obtain ⟨st, ⟨⟨mc, mi, ml⟩, ⟨hc', hz', hf', hl⟩, sb⟩⟩ := a
  dsimp only [as0, cm0, noH, List.length_nil] at *
  go_enter Tryz.func7, Tryz.ntmps7
  go_wp2_with fail
  rw [← hW0]
  clear hW0
  with_reducible refine hSh.mono ?_
  rintro e w1 ⟨rfl, hb1⟩
  have hB1 := hb0.trans (hb1.mono hb0.size)
  have hx1 := hx.kept hb1
  have hf1 := hf.kept hb1
  clear hSh hx hf hb1 hb0
  obtain ⟨x0, x1, x2, x3, x4, x5, x6, x7, x8⟩ := hx1.nine
  have y0 := hf1.cell 0 (by simp)
  have y1 := hf1.cell 1 (by simp)
  have y2 := hf1.cell 2 (by simp)
  dsimp only [List.getElem_cons_zero, List.getElem_cons_succ] at y0 y1 y2
  by_cases h0 : st < 0
  · clear hFd hI hS
    go_wp2
    go_ret
    exact ⟨rfl, hB1⟩
  by_cases h2 : 2 < st
  · clear hFd hI hS
    go_wp2
    go_ret
    exact ⟨rfl, hB1⟩
  have e1 : IntKind.i64.wrap (st + 1) = st + 1 := by simp only [IntKind.wrap_i64]; omega
  by_cases ht : t = st + 1
  · have t1 : (t == st + 1) = true := by simpa using ht
    clear hFd hI hS ht
    go_wp2
    go_ret
    exact ⟨rfl, hB1⟩
  have t1 : (t == st + 1) = false := by simpa using ht
  have hFd2 := hFd w1 ⟨by omega, by omega⟩ ht
  clear hFd ht
  go_wp2_with fail
  with_reducible refine hFd2.mono ?_
  rintro e w2 ⟨A1, B1, A2, B2, ca1, cb1, ca2, cb2, rfl, hc1, hc2, hb2⟩
  have hB2 := hB1.trans (hb2.mono hB1.size)
  clear hFd2 hx1 hf1 hb2 hB1 x0 x1 x2 x3 x4 x5 x6 x7 x8 y0 y1 y2
  obtain ⟨W2, hW2⟩ : ∃ W2, W2 = (w2.alloc (.cells #[.int .i64 0, .int .i64 0, .int .i64 0, .slice A1 0 ca1, .int .i64 0, .int .u64 0, .int .u64 0, .slice B1 0 cb1, .string ⟨#[]⟩] 31)).alloc (.cells #[.int .i64 0, .int .i64 0, .slice A2 0 ca2, .int .i64 0, .int .u64 0, .int .u64 0, .slice B2 0 cb2, .string ⟨#[]⟩] 29) := ⟨_, rfl⟩
  have hbn : Below w2.heap.size w2 W2 := by rw [hW2]; exact ((Below.refl _ w2).alloc (Nat.le_refl _) _).alloc (by simp) _
  have hp : Bx W2 w2.heap.size 31 [.int .i64 0, .int .i64 0, .int .i64 0, .slice A1 0 ca1, .int .i64 0, .int .u64 0, .int .u64 0, .slice B1 0 cb1, .string ⟨#[]⟩] := by rw [hW2]; exact (Bx.new w2 31 [.int .i64 0, .int .i64 0, .int .i64 0, .slice A1 0 ca1, .int .i64 0, .int .u64 0, .int .u64 0, .slice B1 0 cb1, .string ⟨#[]⟩]).alloc _
  have hq : Bx W2 (w2.heap.size + 1) 29 [.int .i64 0, .int .i64 0, .slice A2 0 ca2, .int .i64 0, .int .u64 0, .int .u64 0, .slice B2 0 cb2, .string ⟨#[]⟩] := by
    have h := Bx.new (w2.alloc (.cells #[.int .i64 0, .int .i64 0, .int .i64 0, .slice A1 0 ca1, .int .i64 0, .int .u64 0, .int .u64 0, .slice B1 0 cb1, .string ⟨#[]⟩] 31)) 29 [.int .i64 0, .int .i64 0, .slice A2 0 ca2, .int .i64 0, .int .u64 0, .int .u64 0, .slice B2 0 cb2, .string ⟨#[]⟩]
    rw [World.size_alloc] at h
    rw [hW2]; exact h
  have hB3 := hB2.trans (hbn.mono hB2.size)
  have hd1 := hc1.below hbn
  have hd2 := hc2.below hbn
  clear hc1 hc2 hbn hB2
  go_upto_region 5 with fail
  rw [← hW2]
  clear hW2
  obtain ⟨p0, p1, p2, p3, p4, p5, p6, p7, p8⟩ := hp.nine
  go_wp2_with fail
  with_reducible refine (hI A1 B1 ca1 cb1 W2).mono ?_
  rintro e w3 ⟨rfl, hb3⟩
  have hB4 := hB3.trans (hb3.mono hB3.size)
  have hp3 := hp.kept hb3
  have hq3 := hq.kept hb3
  have hd13 := hd1.below hb3
  have hd23 := hd2.below hb3
  clear hI hb3 hp hq hd1 hd2 hB3 p0 p1 p2 p3 p4 p5 p6 p7 p8
  obtain ⟨q0, q1, q2, q3, q4, q5, q6, q7⟩ := hq3.eight
  go_wp2_with fail
  with_reducible refine (hS A2 B2 ca2 cb2 w3 hd23).mono ?_
  rintro e w4 ⟨rfl, hb4⟩
  have hB5 := hB4.trans (hb4.mono hB4.size)
  have hp4 := hp3.kept hb4
  have hd14 := hd13.below hb4
  clear hb4 hp3 hq3 hd13 hd23 hB4 q0 q1 q2 q3 q4 q5 q6 q7
  obtain ⟨p0, p1, p2, p3, p4, p5, p6, p7, p8⟩ := hp4.nine
  go_wp2_with fail
  with_reducible refine (hS A1 B1 ca1 cb1 w4 hd14).mono ?_
  rintro e w5 ⟨rfl, hb5⟩
  have hB6 := hB5.trans (hb5.mono hB5.size)
  clear hS hb5 hp4 hd14 hB5 p0 p1 p2 p3 p4 p5 p6 p7 p8
  go_wp2
  go_ret
  exact ⟨rfl, hB6⟩
end Go.Proofs.YtdgidbiolklneaaGreatDoor
