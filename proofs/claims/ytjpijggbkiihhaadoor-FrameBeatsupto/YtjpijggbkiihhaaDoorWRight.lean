/-
  frame.Right answers whether a frame is right; nothing that was there is changed. Condition: the package's table of kinds is as its text lays it.
-/
import Derived.Test.YtjpijggbkiihhaaDoorWKind
namespace Go.Proofs.YtjpijggbkiihhaaDoor
open Go.RowKit

/-- a frame as it stands in memory -/
def encFr (f : Fr) : Value := .agg #[.int .i64 f.t, .int .i64 f.c, .string f.d]

set_option maxHeartbeats 2000000 in
theorem right_parts (t c : Int) (d : ByteArray) (w : World) (hk : Kin w) :
    Calls Tryd.prog 20 #[.agg #[.int .i64 t, .int .i64 c, .string d]] w fun e w' => e = .returned (.bool (kOk t && (!decide (c < 0) && !decide (kLast t < c)) && (!decide ((d.size : Int) < kLeast t) && !decide (kMost t < (d.size : Int))))) ∧ Below w.heap.size w w' := by
  have x0 := Bx.new w 23 [.int .i64 t, .int .i64 c, .string d]
  have hb0 : Below w.heap.size w (w.alloc (.cells [.int .i64 t, .int .i64 c, .string d].toArray 23)) := (Below.refl _ _).alloc (Nat.le_refl _) _
  have k0 := hk.below hb0
  go_enter Tryd.func20, Tryd.ntmps20
  go_wp2_with fail
  refine (kindOf_any t _ k0).mono ?_
  rintro e w1 ⟨rfl, hb⟩
  have x1 := (x0.kept hb).alloc (.cells #[.int .i64 (if kOk t = true then t else 0), .int .i64 (kLast t), .int .i64 (kLeast t), .int .i64 (kMost t)] 71)
  have hb1 := hb0.trans (hb.mono hb0.size)
  clear x0 hb0 k0 hb hk
  unfold encK
  have hb2 := hb1.alloc hb1.size (.cells #[.int .i64 (if kOk t = true then t else 0), .int .i64 (kLast t), .int .i64 (kLeast t), .int .i64 (kMost t)] 71)
  generalize (if kOk t = true then t else 0) = kc at x1 hb2 ⊢
  generalize hla : kLast t = la at x1 hb2 ⊢
  generalize hle : kLeast t = le at x1 hb2 ⊢
  generalize hmo : kMost t = mo at x1 hb2 ⊢
  have Hla := Lib.hid hla
  have Hle := Lib.hid hle
  have Hmo := Lib.hid hmo
  clear hla hle hmo
  have a1 := x1.cell 1 (by simp)
  have a2 := x1.cell 2 (by simp)
  dsimp only [List.getElem_cons_zero, List.getElem_cons_succ] at a1 a2
  clear x1
  cases hok : kOk t
  · have H := Lib.hid hok
    clear hok
    go_wp2
    go_ret
    exact ⟨by rw [H.out]; rfl, hb2⟩
  · have H := Lib.hid hok
    clear hok
    by_cases hc : c < 0
    · go_wp2
      go_ret
      exact ⟨by rw [H.out]; simp [hc], hb2⟩
    by_cases hl : la < c
    · go_wp2
      go_ret
      exact ⟨by rw [H.out, Hla.out]; simp [hl], hb2⟩
    by_cases hn : (d.size : Int) < le
    · go_wp2
      go_ret
      exact ⟨by rw [H.out, Hle.out]; simp [hn], hb2⟩
    by_cases hm : mo < (d.size : Int)
    · go_wp2
      go_ret
      exact ⟨by rw [H.out, Hmo.out]; simp [hm], hb2⟩
    · go_wp2
      go_ret
      exact ⟨by rw [H.out, Hla.out, Hle.out, Hmo.out]; simp [hc, hl, hn, hm], hb2⟩
theorem right_any (f : Fr) (w : World) (hk : Kin w) :
    Calls Tryd.prog 20 #[encFr f] w fun e w' => e = .returned (.bool (frRight f)) ∧ Below w.heap.size w w' := by
  refine (right_parts f.t f.c f.d w hk).mono ?_
  rintro e w' ⟨rfl, hb⟩
  refine ⟨?_, hb⟩
  congr 2
  rw [Bool.eq_iff_iff]
  simp [frRight, and_assoc]
end Go.Proofs.YtjpijggbkiihhaaDoor
