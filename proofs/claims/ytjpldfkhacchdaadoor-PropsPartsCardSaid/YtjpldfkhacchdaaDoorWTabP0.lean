/-
  table.Take, and what it leans on (taken), answer as the plain functions here say; nothing that was there is changed. Conditions: the package num's table of widths holds 1, 2, 4, 8; texts of fewer than 2^62 bytes.
-/
import Derived.Test.YtjpldfkhacchdaaDoorWTabV
namespace Go.Proofs.YtjpldfkhacchdaaDoor
open Go.RowKit Go.Maps

/-- what is taken of s, and the rest -/
def takenA (s : ByteArray) (r : Res) : ByteArray := if r.err = 0 then front s r.rest else ⟨#[]⟩
def takenB (r : Res) : ByteArray := if r.err = 0 then r.rest else ⟨#[]⟩
/-- how deep it is, if nothing stands behind it; the error -/
def aloneD (r : Res) : Int := if r.err = 0 ∧ r.rest.size = 0 then r.deep else 0
def aloneE (r : Res) : Int := if r.err = 0 then (if r.rest.size = 0 then 0 else 3) else r.err

theorem val_rest_le (s : ByteArray) (room : Int) : (val s room).rest.size ≤ s.size := by
  by_cases h : (val s room).err = 0
  · have := val_rest h; omega
  · rw [(val_deep_err h).2]; exact Nat.zero_le _
theorem nest_rest_le (kf : Bool) (s : ByteArray) (room : Int) : (nest kf s room).rest.size ≤ s.size := nest_rest _ _ _

theorem taken_val (s : ByteArray) (w : World) (M B : Nat) (hs : s.size < 4611686018427387904) (tk : Tk w M B) :
    Calls Tryd.prog 74 #[.string s, .func (.func 85) #[] #[.pointer (some ⟨B, 0, none⟩), .pointer (some ⟨B + 2, 0, none⟩), .pointer (some ⟨B + 3, 0, none⟩)]] w fun e w' => e = .returned (.tuple #[.string (takenA s (val s 32)), .string (takenB (val s 32)), .int .i64 (val s 32).err]) ∧ Below w.heap.size w w' := by
  have hle := val_rest_le s 32
  go_enter Tryd.func74, Tryd.ntmps74
  go_wp2_with fail
  refine (value_any s 32 w M B hs (by omega) (by omega) tk).mono ?_
  rintro e w1 ⟨rfl, hb⟩
  generalize hr : val s 32 = r at hle ⊢
  have HR := Lib.hid hr
  clear hr
  obtain ⟨d, y, x⟩ := r
  dsimp only at hle ⊢
  by_cases hx : x = 0
  · subst hx
    have H := Lib.hid (show takenA s ⟨d, y, 0⟩ = front s y ∧ takenB ⟨d, y, 0⟩ = y from ⟨rfl, rfl⟩)
    go_wp2_with fail
    refine (front_any s y w1 hle hs).mono ?_
    rintro e w2 ⟨rfl, rfl⟩
    generalize front s y = fr at H ⊢
    go_wp2
    go_ret3
    refine ⟨?_, hb⟩
    rw [HR.out, H.out.1, H.out.2]
    rfl
  · have H := Lib.hid (show takenA s ⟨d, y, x⟩ = ⟨#[]⟩ ∧ takenB ⟨d, y, x⟩ = ⟨#[]⟩ by simp [takenA, takenB, hx])
    have t1 : (x != 0) = true := by simpa using hx
    clear hx
    go_wp2
    go_ret3
    refine ⟨?_, hb⟩
    rw [HR.out, H.out.1, H.out.2]
    rfl
theorem taken_tab (s : ByteArray) (w : World) (M B : Nat) (hs : s.size < 4611686018427387904) (tk : Tk w M B) :
    Calls Tryd.prog 74 #[.string s, .func (.func 83) #[] #[.pointer (some ⟨B + 1, 0, none⟩)]] w fun e w' => e = .returned (.tuple #[.string (takenA s (nest true s 32)), .string (takenB (nest true s 32)), .int .i64 (nest true s 32).err]) ∧ Below w.heap.size w w' := by
  have hle := nest_rest_le true s 32
  go_enter Tryd.func74, Tryd.ntmps74
  go_wp2_with fail
  refine (table_any s 32 w M B hs (by omega) (by omega) tk).mono ?_
  rintro e w1 ⟨rfl, hb⟩
  generalize hr : nest true s 32 = r at hle ⊢
  have HR := Lib.hid hr
  clear hr
  obtain ⟨d, y, x⟩ := r
  dsimp only at hle ⊢
  by_cases hx : x = 0
  · subst hx
    have H := Lib.hid (show takenA s ⟨d, y, 0⟩ = front s y ∧ takenB ⟨d, y, 0⟩ = y from ⟨rfl, rfl⟩)
    go_wp2_with fail
    refine (front_any s y w1 hle hs).mono ?_
    rintro e w2 ⟨rfl, rfl⟩
    generalize front s y = fr at H ⊢
    go_wp2
    go_ret3
    refine ⟨?_, hb⟩
    rw [HR.out, H.out.1, H.out.2]
    rfl
  · have H := Lib.hid (show takenA s ⟨d, y, x⟩ = ⟨#[]⟩ ∧ takenB ⟨d, y, x⟩ = ⟨#[]⟩ by simp [takenA, takenB, hx])
    have t1 : (x != 0) = true := by simpa using hx
    clear hx
    go_wp2
    go_ret3
    refine ⟨?_, hb⟩
    rw [HR.out, H.out.1, H.out.2]
    rfl

theorem tabTake_any (s : ByteArray) (w : World) (hw : Wid w) (hs : s.size < 4611686018427387904) :
    Calls Tryd.prog 66 #[.string s] w fun e w' => e = .returned (.tuple #[.string (takenA s (nest true s 32)), .string (takenB (nest true s 32)), .int .i64 (nest true s 32).err]) ∧ Below w.heap.size w w' := by
  go_enter Tryd.func66, Tryd.ntmps66
  go_wp2_with fail
  refine (takers_any w hw).mono ?_
  rintro e w1 ⟨M, B, rfl, tk, hb⟩
  go_wp2_with fail
  refine (taken_tab s w1 M B hs tk).mono ?_
  rintro e w2 ⟨rfl, hb2⟩
  generalize h1 : takenA s (nest true s 32) = a
  generalize h2 : takenB (nest true s 32) = b
  generalize h3 : (nest true s 32).err = x
  have H := Lib.hid (And.intro h1 (And.intro h2 h3))
  clear h1 h2 h3
  go_wp2
  go_ret3
  refine ⟨?_, hb.trans (hb2.mono hb.size)⟩
  rw [H.out.1, H.out.2.1, H.out.2.2]
  rfl
end Go.Proofs.YtjpldfkhacchdaaDoor
