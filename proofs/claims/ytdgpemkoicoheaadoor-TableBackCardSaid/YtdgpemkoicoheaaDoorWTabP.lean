/-
  table.Take, Value, Deep, and what they lean on (taken, alone, pair, whole), answer as the plain functions here say; nothing that was there is changed. Conditions: the package num's table of widths holds 1, 2, 4, 8; texts of fewer than 2^62 bytes.
-/
import Derived.Test.YtdgpemkoicoheaaDoorWTabV
namespace Go.Proofs.YtdgpemkoicoheaaDoor
open Go.RowKit Go.Maps

/-- what is taken of s, and the rest -/
def takenA (s : ByteArray) (r : Res) : ByteArray := if r.err = 0 then front s r.rest else ⟨#[]⟩
def takenB (r : Res) : ByteArray := if r.err = 0 then r.rest else ⟨#[]⟩
/-- how deep it is, if nothing stands behind it; the error -/
def aloneD (r : Res) : Int := if r.err = 0 ∧ r.rest.size = 0 then r.deep else 0
def aloneE (r : Res) : Int := if r.err = 0 then (if r.rest.size = 0 then 0 else 3) else r.err

theorem val_rest_le (s : ByteArray) (room : Int) : (val s room).rest.size ≤ s.size := by
  by_cases h : (val s room).err = 0
  · have := val_rest h; omega
  · rw [(val_deep_err h).2]; exact Nat.zero_le _
theorem nest_rest_le (kf : Bool) (s : ByteArray) (room : Int) : (nest kf s room).rest.size ≤ s.size := nest_rest _ _ _

theorem taken_val (s : ByteArray) (w : World) (M B : Nat) (hs : s.size < 4611686018427387904) (tk : Tk w M B) :
    Calls Tryd.prog 24 #[.string s, .func (.func 39) #[] #[.pointer (some ⟨B, 0, none⟩), .pointer (some ⟨B + 2, 0, none⟩), .pointer (some ⟨B + 3, 0, none⟩)]] w fun e w' => e = .returned (.tuple #[.string (takenA s (val s 32)), .string (takenB (val s 32)), .int .i64 (val s 32).err]) ∧ Below w.heap.size w w' := by
  have hle := val_rest_le s 32
  go_enter Tryd.func24, Tryd.ntmps24
  go_wp2_with fail
  refine (value_any s 32 w M B hs (by omega) (by omega) tk).mono ?_
  rintro e w1 ⟨rfl, hb⟩
  generalize hr : val s 32 = r at hle ⊢
  have HR := Lib.hid hr
  clear hr
  obtain ⟨d, y, x⟩ := r
  dsimp only at hle ⊢
  by_cases hx : x = 0
  · subst hx
    have H := Lib.hid (show takenA s ⟨d, y, 0⟩ = front s y ∧ takenB ⟨d, y, 0⟩ = y from ⟨rfl, rfl⟩)
    go_wp2_with fail
    refine (front_any s y w1 hle hs).mono ?_
    rintro e w2 ⟨rfl, rfl⟩
    generalize front s y = fr at H ⊢
    go_wp2
    go_ret3
    refine ⟨?_, hb⟩
    rw [HR.out, H.out.1, H.out.2]
    rfl
  · have H := Lib.hid (show takenA s ⟨d, y, x⟩ = ⟨#[]⟩ ∧ takenB ⟨d, y, x⟩ = ⟨#[]⟩ by simp [takenA, takenB, hx])
    have t1 : (x != 0) = true := by simpa using hx
    clear hx
    go_wp2
    go_ret3
    refine ⟨?_, hb⟩
    rw [HR.out, H.out.1, H.out.2]
    rfl
theorem taken_tab (s : ByteArray) (w : World) (M B : Nat) (hs : s.size < 4611686018427387904) (tk : Tk w M B) :
    Calls Tryd.prog 24 #[.string s, .func (.func 37) #[] #[.pointer (some ⟨B + 1, 0, none⟩)]] w fun e w' => e = .returned (.tuple #[.string (takenA s (nest true s 32)), .string (takenB (nest true s 32)), .int .i64 (nest true s 32).err]) ∧ Below w.heap.size w w' := by
  have hle := nest_rest_le true s 32
  go_enter Tryd.func24, Tryd.ntmps24
  go_wp2_with fail
  refine (table_any s 32 w M B hs (by omega) (by omega) tk).mono ?_
  rintro e w1 ⟨rfl, hb⟩
  generalize hr : nest true s 32 = r at hle ⊢
  have HR := Lib.hid hr
  clear hr
  obtain ⟨d, y, x⟩ := r
  dsimp only at hle ⊢
  by_cases hx : x = 0
  · subst hx
    have H := Lib.hid (show takenA s ⟨d, y, 0⟩ = front s y ∧ takenB ⟨d, y, 0⟩ = y from ⟨rfl, rfl⟩)
    go_wp2_with fail
    refine (front_any s y w1 hle hs).mono ?_
    rintro e w2 ⟨rfl, rfl⟩
    generalize front s y = fr at H ⊢
    go_wp2
    go_ret3
    refine ⟨?_, hb⟩
    rw [HR.out, H.out.1, H.out.2]
    rfl
  · have H := Lib.hid (show takenA s ⟨d, y, x⟩ = ⟨#[]⟩ ∧ takenB ⟨d, y, x⟩ = ⟨#[]⟩ by simp [takenA, takenB, hx])
    have t1 : (x != 0) = true := by simpa using hx
    clear hx
    go_wp2
    go_ret3
    refine ⟨?_, hb⟩
    rw [HR.out, H.out.1, H.out.2]
    rfl

theorem tabTake_any (s : ByteArray) (w : World) (hw : Wid w) (hs : s.size < 4611686018427387904) :
    Calls Tryd.prog 11 #[.string s] w fun e w' => e = .returned (.tuple #[.string (takenA s (nest true s 32)), .string (takenB (nest true s 32)), .int .i64 (nest true s 32).err]) ∧ Below w.heap.size w w' := by
  go_enter Tryd.func11, Tryd.ntmps11
  go_wp2_with fail
  refine (takers_any w hw).mono ?_
  rintro e w1 ⟨M, B, rfl, tk, hb⟩
  go_wp2_with fail
  refine (taken_tab s w1 M B hs tk).mono ?_
  rintro e w2 ⟨rfl, hb2⟩
  generalize h1 : takenA s (nest true s 32) = a
  generalize h2 : takenB (nest true s 32) = b
  generalize h3 : (nest true s 32).err = x
  have H := Lib.hid (And.intro h1 (And.intro h2 h3))
  clear h1 h2 h3
  go_wp2
  go_ret3
  refine ⟨?_, hb.trans (hb2.mono hb.size)⟩
  rw [H.out.1, H.out.2.1, H.out.2.2]
  rfl
theorem tabValue_any (s : ByteArray) (w : World) (hw : Wid w) (hs : s.size < 4611686018427387904) :
    Calls Tryd.prog 13 #[.string s] w fun e w' => e = .returned (.tuple #[.string (takenA s (val s 32)), .string (takenB (val s 32)), .int .i64 (val s 32).err]) ∧ Below w.heap.size w w' := by
  go_enter Tryd.func13, Tryd.ntmps13
  go_wp2_with fail
  refine (takers_any w hw).mono ?_
  rintro e w1 ⟨M, B, rfl, tk, hb⟩
  go_wp2_with fail
  refine (taken_val s w1 M B hs tk).mono ?_
  rintro e w2 ⟨rfl, hb2⟩
  generalize h1 : takenA s (val s 32) = a
  generalize h2 : takenB (val s 32) = b
  generalize h3 : (val s 32).err = x
  have H := Lib.hid (And.intro h1 (And.intro h2 h3))
  clear h1 h2 h3
  go_wp2
  go_ret3
  refine ⟨?_, hb.trans (hb2.mono hb.size)⟩
  rw [H.out.1, H.out.2.1, H.out.2.2]
  rfl

theorem alone_ends (d : Int) (y : ByteArray) (x : Int) : (x = 0 ∧ y = ⟨#[]⟩ ∧ aloneD ⟨d, y, x⟩ = d ∧ aloneE ⟨d, y, x⟩ = 0) ∨ (x = 0 ∧ (y.toList == []) = false ∧ aloneD ⟨d, y, x⟩ = 0 ∧ aloneE ⟨d, y, x⟩ = 3) ∨ ((x != 0) = true ∧ aloneD ⟨d, y, x⟩ = 0 ∧ aloneE ⟨d, y, x⟩ = x) := by
  by_cases hx : x = 0
  · subst hx
    by_cases hy : y.size = 0
    · exact .inl ⟨rfl, ba_nil hy, by simp [aloneD, hy], by simp [aloneE, hy]⟩
    · exact .inr (.inl ⟨rfl, ba_ne hy, by simp [aloneD, hy], by simp [aloneE, hy]⟩)
  · exact .inr (.inr ⟨by simpa using hx, by simp [aloneD, hx], by simp [aloneE, hx]⟩)
theorem alone_val (s : ByteArray) (w : World) (M B : Nat) (hs : s.size < 4611686018427387904) (tk : Tk w M B) :
    Calls Tryd.prog 46 #[.string s, .func (.func 39) #[] #[.pointer (some ⟨B, 0, none⟩), .pointer (some ⟨B + 2, 0, none⟩), .pointer (some ⟨B + 3, 0, none⟩)]] w fun e w' => e = .returned (.tuple #[.int .i64 (aloneD (val s 32)), .int .i64 (aloneE (val s 32))]) ∧ Below w.heap.size w w' := by
  go_enter Tryd.func46, Tryd.ntmps46
  go_wp2_with fail
  refine (value_any s 32 w M B hs (by omega) (by omega) tk).mono ?_
  rintro e w1 ⟨rfl, hb⟩
  generalize hr : val s 32 = r
  have HR := Lib.hid hr
  clear hr
  obtain ⟨d, y, x⟩ := r
  dsimp only
  rcases alone_ends d y x with ⟨rfl, rfl, h1, h2⟩ | ⟨rfl, t1, h1, h2⟩ | ⟨t1, h1, h2⟩
  all_goals
    have H := Lib.hid (And.intro h1 h2)
    clear h1 h2
    go_wp2
    go_ret2
    refine ⟨?_, hb⟩
    rw [HR.out, H.out.1, H.out.2]
    rfl
theorem alone_tab (s : ByteArray) (w : World) (M B : Nat) (hs : s.size < 4611686018427387904) (tk : Tk w M B) :
    Calls Tryd.prog 46 #[.string s, .func (.func 37) #[] #[.pointer (some ⟨B + 1, 0, none⟩)]] w fun e w' => e = .returned (.tuple #[.int .i64 (aloneD (nest true s 32)), .int .i64 (aloneE (nest true s 32))]) ∧ Below w.heap.size w w' := by
  go_enter Tryd.func46, Tryd.ntmps46
  go_wp2_with fail
  refine (table_any s 32 w M B hs (by omega) (by omega) tk).mono ?_
  rintro e w1 ⟨rfl, hb⟩
  generalize hr : nest true s 32 = r
  have HR := Lib.hid hr
  clear hr
  obtain ⟨d, y, x⟩ := r
  dsimp only
  rcases alone_ends d y x with ⟨rfl, rfl, h1, h2⟩ | ⟨rfl, t1, h1, h2⟩ | ⟨t1, h1, h2⟩
  all_goals
    have H := Lib.hid (And.intro h1 h2)
    clear h1 h2
    go_wp2
    go_ret2
    refine ⟨?_, hb⟩
    rw [HR.out, H.out.1, H.out.2]
    rfl

/-- a pair of Make's: the key's bytes, how deep the value is, the error -/
def pairE (k v : ByteArray) : Int := if layOk 1 k = true then aloneE (val v 32) else layE 1 k
def pairD (k v : ByteArray) : Int := if pairE k v = 0 then aloneD (val v 32) else 0
def pairK (k v : ByteArray) : ByteArray := if pairE k v = 0 then layR 1 k else ⟨#[]⟩
theorem pair_any (k v : ByteArray) (w : World) (M B : Nat) (hk : k.size < 4611686018427387904) (hs : v.size < 4611686018427387904) (tk : Tk w M B) :
    Calls Tryd.prog 29 #[.string k, .string v, .func (.func 39) #[] #[.pointer (some ⟨B, 0, none⟩), .pointer (some ⟨B + 2, 0, none⟩), .pointer (some ⟨B + 3, 0, none⟩)]] w fun e w' => e = .returned (.tuple #[.string (pairK k v), .int .i64 (pairD k v), .int .i64 (pairE k v)]) ∧ Below w.heap.size w w' := by
  go_enter Tryd.func29, Tryd.ntmps29
  go_wp2_with fail
  refine (short_any k w tk.wid hk).mono ?_
  rintro e w1 ⟨rfl, hb⟩
  rcases Bool.eq_false_or_eq_true (layOk 1 k) with h | h
  rotate_left
  · obtain ⟨t1, -⟩ := layE_not h
    have hx : layE 1 k ≠ 0 := by simpa using t1
    have H := Lib.hid (show pairE k v = layE 1 k ∧ pairD k v = 0 ∧ pairK k v = ⟨#[]⟩ by
      have e : pairE k v = layE 1 k := by simp [pairE, h]
      refine ⟨e, ?_, ?_⟩
      · rw [pairD, e, if_neg hx]
      · rw [pairK, e, if_neg hx])
    clear h hx
    generalize layR 1 k = a
    generalize layE 1 k = x at t1 H ⊢
    go_wp2
    go_ret3
    refine ⟨?_, hb⟩
    rw [H.out.1, H.out.2.1, H.out.2.2]
    rfl
  · rw [layE_of h]
    have e : pairE k v = aloneE (val v 32) := by simp [pairE, h]
    have HE := Lib.hid e
    have HD := Lib.hid (show pairD k v = if pairE k v = 0 then aloneD (val v 32) else 0 from rfl)
    have HK := Lib.hid (show pairK k v = if pairE k v = 0 then layR 1 k else ⟨#[]⟩ from rfl)
    clear h e
    generalize layR 1 k = a at HK ⊢
    go_wp2_with fail
    refine (alone_val v w1 M B hs (tk.below hb)).mono ?_
    rintro e w2 ⟨rfl, hb2⟩
    generalize aloneD (val v 32) = d at HD ⊢
    generalize aloneE (val v 32) = x at HE ⊢
    by_cases hx : x = 0
    · subst hx
      go_wp2
      go_ret3
      refine ⟨?_, hb.trans (hb2.mono hb.size)⟩
      rw [HD.out, HK.out, HE.out]
      rfl
    · have t1 : (x != 0) = true := by simpa using hx
      have HX := Lib.hid hx
      clear hx
      go_wp2
      go_ret3
      refine ⟨?_, hb.trans (hb2.mono hb.size)⟩
      rw [HD.out, HK.out, HE.out, if_neg HX.out, if_neg HX.out]
      rfl

/-- a table's fields, if nothing stands behind it -/
theorem alone_enter {t : ByteArray} (h : aloneE (nest true t 32) = 0) : enOk t 32 = true ∧ (items true (ttA 4 t) 31).2 = 0 ∧ (nest true t 32).rest.size = 0 ∧ (nest true t 32).err = 0 := by
  have h1 : (nest true t 32).err = 0 ∧ (nest true t 32).rest.size = 0 := by
    unfold aloneE at h
    by_cases hx : (nest true t 32).err = 0
    · rw [if_pos hx] at h
      by_cases hy : (nest true t 32).rest.size = 0
      · exact ⟨hx, hy⟩
      · rw [if_neg hy] at h; cases h
    · rw [if_neg hx] at h; exact absurd h hx
  rcases Bool.eq_false_or_eq_true (enOk t 32) with hk | hk
  · refine ⟨hk, ?_, h1.2, h1.1⟩
    by_cases hi : (items true (ttA 4 t) (32 - 1)).2 = 0
    · exact hi
    · have := h1.1
      rw [nest_bad hk hi] at this
      simp only [wErr] at this
      split at this
      · cases this
      · exact absurd this hi
  · have h2 := enOk_not hk
    rw [h2.2 true] at h1
    have h3 := h2.1
    simp only at h1
    rw [h1.1] at h3
    cases h3
end Go.Proofs.YtdgpemkoicoheaaDoor
