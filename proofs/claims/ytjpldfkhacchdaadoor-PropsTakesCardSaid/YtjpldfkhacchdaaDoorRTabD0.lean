/-
  The document's own table, Take and Deep of interchangeref03 answer as the program's do; nothing that was there is changed. Conditions: texts of fewer than 2^62 bytes.
-/
import Derived.Test.YtjpldfkhacchdaaDoorRTabC
import Derived.Test.YtjpldfkhacchdaaDoorWTabP0
namespace Go.Proofs.YtjpldfkhacchdaaDoor
open Go.RowKit

set_option maxRecDepth 100000 in
set_option maxHeartbeats 1000000 in
theorem rtable_any (s : ByteArray) (w : World) (hs : s.size < 4611686018427387904) :
    Calls Tryd.prog 70 #[.string s] w fun e w' => ∃ r d, e = .returned (.tuple #[.string r, .int .i64 d, .int .i64 (nest true s 32).err]) ∧ ((nest true s 32).err = 0 → r = (nest true s 32).rest ∧ d = (nest true s 32).deep) ∧ Below w.heap.size w w' := by
  have hil := ttA_le 4 s
  go_enter Tryd.func70, Tryd.ntmps70
  go_wp2_with fail
  refine (rinside_any s w hs).mono ?_
  rintro e w1 ⟨rfl, hb⟩
  rcases Bool.eq_false_or_eq_true (ttOk 4 s) with ho | ho
  rotate_left
  · have HE : Hid ((nest true s 32).err = 2) := Lib.hid (by rw [nest, nestOf, if_neg (by simp [ho]), ttE_four ho])
    rw [ttE_four ho]
    clear ho
    generalize ttA 4 s = a at hil ⊢
    generalize ttR 4 s = b
    go_wp2
    go_ret3
    exact ⟨⟨#[]⟩, 0, by rw [HE.out]; rfl, (fun h => by rw [HE.out] at h; cases h), hb⟩
  · rw [ttE_of ho]
    have HE : Hid ((nest true s 32).err = wErr (items true (ttA 4 s) 31).2 ∧ ((nest true s 32).err = 0 → (items true (ttA 4 s) 31).2 = 0 ∧ (nest true s 32).rest = ttR 4 s ∧ (nest true s 32).deep = deepest (items true (ttA 4 s) 31).1 + 1)) := Lib.hid
      ⟨nest_err_items ho (by omega), fun h => nest_zero ho (by omega) h⟩
    clear ho
    generalize ttA 4 s = a at hil HE ⊢
    generalize ttR 4 s = b at HE ⊢
    go_wp2_with fail
    refine (rrow_any a w1 (by omega)).mono ?_
    rintro e w2 ⟨d, rfl, hok, hb2⟩
    have HO := Lib.hid hok
    clear hok
    generalize hwe : wErr (items true a 31).2 = x at HE ⊢
    clear hwe
    go_wp2
    go_ret3
    refine ⟨b, d, by rw [HE.out.1]; rfl, fun h => ?_, hb.trans (hb2.mono hb.size)⟩
    obtain ⟨j1, j2, j3⟩ := HE.out.2 h
    refine ⟨j2.symm, ?_⟩
    rw [HO.out j1, j3]
    omega

theorem rtabTake_any (s : ByteArray) (w : World) (hs : s.size < 4611686018427387904) :
    Calls Tryd.prog 57 #[.string s] w fun e w' => e = .returned (.tuple #[.string (takenA s (nest true s 32)), .string (takenB (nest true s 32)), .int .i64 (nest true s 32).err]) ∧ Below w.heap.size w w' := by
  have hle := nest_rest_le true s 32
  go_enter Tryd.func57, Tryd.ntmps57
  go_wp2_with fail
  refine (rtable_any s w hs).mono ?_
  rintro e w1 ⟨r, d, rfl, hok, hb⟩
  by_cases hx : (nest true s 32).err = 0
  · obtain ⟨rfl, rfl⟩ := hok hx
    have H := Lib.hid (show takenA s (nest true s 32) = s.extract 0 (s.size - (nest true s 32).rest.size) ∧ takenB (nest true s 32) = (nest true s 32).rest ∧ (nest true s 32).err = 0 from ⟨by rw [takenA, if_pos hx]; rfl, by rw [takenB, if_pos hx], hx⟩)
    rw [hx]
    clear hok hx
    generalize (nest true s 32).rest = y at hle H ⊢
    generalize (nest true s 32).deep = d
    go_wp2
    go_ret3
    refine ⟨?_, hb⟩
    rw [H.out.1, H.out.2.1, H.out.2.2]
    rfl
  · have H := Lib.hid (show takenA s (nest true s 32) = ⟨#[]⟩ ∧ takenB (nest true s 32) = ⟨#[]⟩ from ⟨by rw [takenA, if_neg hx], by rw [takenB, if_neg hx]⟩)
    have t1 : ((nest true s 32).err != 0) = true := by simpa using hx
    clear hok hx hle
    generalize hxx : (nest true s 32).err = x at t1 ⊢
    have HX := Lib.hid hxx
    clear hxx
    go_wp2
    go_ret3
    refine ⟨?_, hb⟩
    rw [H.out.1, H.out.2, HX.out]
    rfl
theorem rtabDeep_any (s : ByteArray) (w : World) (hs : s.size < 4611686018427387904) :
    Calls Tryd.prog 62 #[.string s] w fun e w' => e = .returned (.tuple #[.int .i64 (aloneD (nest true s 32)), .int .i64 (aloneE (nest true s 32))]) ∧ Below w.heap.size w w' := by
  go_enter Tryd.func62, Tryd.ntmps62
  go_wp2_with fail
  refine (rtable_any s w hs).mono ?_
  rintro e w1 ⟨r, d, rfl, hok, hb⟩
  by_cases hx : (nest true s 32).err = 0
  · obtain ⟨rfl, rfl⟩ := hok hx
    rw [hx]
    by_cases hy : (nest true s 32).rest.size = 0
    · have H := Lib.hid (show aloneD (nest true s 32) = (nest true s 32).deep ∧ aloneE (nest true s 32) = 0 from ⟨by rw [aloneD, if_pos ⟨hx, hy⟩], by rw [aloneE, if_pos hx, if_pos hy]⟩)
      clear hok hx
      generalize (nest true s 32).rest = y at hy ⊢
      generalize (nest true s 32).deep = d at H ⊢
      go_wp2
      go_ret2
      refine ⟨?_, hb⟩
      rw [H.out.1, H.out.2]
      rfl
    · have H := Lib.hid (show aloneD (nest true s 32) = 0 ∧ aloneE (nest true s 32) = 3 from ⟨by rw [aloneD, if_neg (fun h => hy h.2)], by rw [aloneE, if_pos hx, if_neg hy]⟩)
      clear hok hx
      have hy' : 0 < (nest true s 32).rest.size := by omega
      clear hy
      generalize (nest true s 32).rest = y at hy' ⊢
      generalize (nest true s 32).deep = d at H ⊢
      go_wp2
      go_ret2
      refine ⟨?_, hb⟩
      rw [H.out.1, H.out.2]
      rfl
  · have H := Lib.hid (show aloneD (nest true s 32) = 0 ∧ aloneE (nest true s 32) = (nest true s 32).err from ⟨by rw [aloneD, if_neg (fun h => hx h.1)], by rw [aloneE, if_neg hx]⟩)
    have t1 : ((nest true s 32).err != 0) = true := by simpa using hx
    clear hok hx
    generalize (nest true s 32).err = x at t1 H ⊢
    go_wp2
    go_ret2
    refine ⟨?_, hb⟩
    rw [H.out.1, H.out.2]
    rfl
end Go.Proofs.YtjpldfkhacchdaaDoor
