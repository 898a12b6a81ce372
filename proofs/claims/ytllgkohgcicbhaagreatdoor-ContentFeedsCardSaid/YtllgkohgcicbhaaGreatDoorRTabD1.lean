/-
  The document's own Take of a table, as a plain function says. Condition: bytes of fewer than 2^62.
-/
import Derived.Test.YtllgkohgcicbhaaGreatDoorZD
namespace Go.Proofs.YtllgkohgcicbhaaGreatDoor
open Go.RowKit

theorem rtabTake_any (s : ByteArray) (w : World) (hs : s.size < 4611686018427387904) :
 Calls Tryz.prog 70 #[.string s] w fun e w' => e = .returned (.tuple #[.string (takenA s (nest true s 32)), .string (takenB (nest true s 32)), .int .i64 (nest true s 32).err]) ∧ Below w.heap.size w w' := by
 have hle := nest_rest_le true s 32
 go_enter Tryz.func70, Tryz.ntmps70
 go_wp2_with fail
 refine (rtable_any s w hs).mono ?_
 rintro e w1 ⟨r, d, rfl, hok, hb⟩
 by_cases hx : (nest true s 32).err = 0
 · obtain ⟨rfl, rfl⟩ := hok hx
   have H := Lib.hid (show takenA s (nest true s 32) = s.extract 0 (s.size - (nest true s 32).rest.size) ∧ takenB (nest true s 32) = (nest true s 32).rest ∧ (nest true s 32).err = 0 from ⟨by rw [takenA, if_pos hx]; rfl, by rw [takenB, if_pos hx], hx⟩)
   rw [hx]
   clear hok hx
   generalize (nest true s 32).rest = y at hle H ⊢
   generalize (nest true s 32).deep = d
   go_wp2
   go_ret3
   refine ⟨?_, hb⟩
   rw [H.out.1, H.out.2.1, H.out.2.2]
   rfl
 · have H := Lib.hid (show takenA s (nest true s 32) = ⟨#[]⟩ ∧ takenB (nest true s 32) = ⟨#[]⟩ from ⟨by rw [takenA, if_neg hx], by rw [takenB, if_neg hx]⟩)
   have t1 : ((nest true s 32).err != 0) = true := by simpa using hx
   clear hok hx hle
   generalize hxx : (nest true s 32).err = x at t1 ⊢
   have HX := Lib.hid hxx
   clear hxx
   go_wp2
   go_ret3
   refine ⟨?_, hb⟩
   rw [H.out.1, H.out.2, HX.out]
   rfl
end Go.Proofs.YtllgkohgcicbhaaGreatDoor
