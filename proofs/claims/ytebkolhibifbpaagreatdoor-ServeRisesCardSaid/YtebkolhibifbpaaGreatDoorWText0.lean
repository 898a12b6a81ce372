/-
  text.Short, TakeShort, TakeLong answer as the plain functions of PText say, for every text of fewer than 2^62 bytes; nothing that was there is changed. Condition: the package num's table of widths holds 1, 2, 4, 8.
-/
import Derived.Test.YtebkolhibifbpaaGreatDoorPText
namespace Go.Proofs.YtebkolhibifbpaaGreatDoor
open Go.RowKit

theorem lay_any (k : Int) (s : ByteArray) (w : World) (hw : Wid w) (hk : isW k = true) (hs : s.size < 4611686018427387904) :
    Calls Tryz.prog 92 #[.int .i64 k, .string s] w fun e w' => e = .returned (.tuple #[.string (layR k s), .int .i64 (layE k s)]) ∧ Below w.heap.size w w' := by
  go_enter Tryz.func92, Tryz.ntmps92
  go_wp2_with fail
  refine (put_any k s.size w hw (by omega) (by omega)).mono ?_
  rintro e w1 ⟨rfl, hb⟩
  cases h : layOk k s
  · have h' : putOk k s.size = false := h
    obtain ⟨t1, -⟩ := putE_not h'
    have H := Lib.hid h
    clear h h'
    go_wp2
    go_ret2
    exact ⟨by simp [layR, layE, H.out], hb⟩
  · have h' : putOk k s.size = true := h
    rw [putE_of h']
    have s1 : (putR k s.size).size ≤ 8 := by have := putR_size h'; have := isW_nat hk; omega
    have H := Lib.hid h
    clear h h'
    go_wp2
    go_ret2
    refine ⟨?_, hb⟩
    rw [layR_of H.out, layE_of H.out]
    rfl

theorem ttake_any (k : Int) (s : ByteArray) (w : World) (hw : Wid w) (hs : s.size < 4611686018427387904) :
    Calls Tryz.prog 115 #[.int .i64 k, .string s] w fun e w' => e = .returned (.tuple #[.string (ttA k s), .string (ttR k s), .int .i64 (ttE k s)]) ∧ Below w.heap.size w w' := by
  go_enter Tryz.func115, Tryz.ntmps115
  go_wp2_with fail
  refine (take_any s k w hw).mono ?_
  rintro e w1 ⟨rfl, hb⟩
  cases h : takeOk s k
  · obtain ⟨t1, -⟩ := takeE_not h
    have H := Lib.hid h
    clear h
    go_wp2
    go_ret3
    exact ⟨by simp [ttA, ttR, ttE, H.out], hb⟩
  · rw [takeE_of h]
    have H := Lib.hid h
    clear h
    go_wp2_with fail
    refine (skip_any _ _ w1 (takeV_nonneg s k) (by have := takeR_le s k; unfold maxLen; omega)).mono ?_
    rintro e w2 ⟨rfl, hb2⟩
    go_wp2
    go_ret3
    exact ⟨by simp [ttA, ttR, ttE, H.out], hb.trans (hb2.mono hb.size)⟩

theorem short_any (s : ByteArray) (w : World) (hw : Wid w) (hs : s.size < 4611686018427387904) :
    Calls Tryz.prog 84 #[.string s] w fun e w' => e = .returned (.tuple #[.string (layR 1 s), .int .i64 (layE 1 s)]) ∧ Below w.heap.size w w' := by
  go_enter Tryz.func84, Tryz.ntmps84
  go_wp2_with fail
  refine (lay_any 1 s w hw (by decide) hs).mono ?_
  rintro e w1 ⟨rfl, hb⟩
  go_wp2
  go_ret2
  exact ⟨rfl, hb⟩
theorem takeShort_any (s : ByteArray) (w : World) (hw : Wid w) (hs : s.size < 4611686018427387904) :
    Calls Tryz.prog 116 #[.string s] w fun e w' => e = .returned (.tuple #[.string (ttA 1 s), .string (ttR 1 s), .int .i64 (ttE 1 s)]) ∧ Below w.heap.size w w' := by
  go_enter Tryz.func116, Tryz.ntmps116
  go_wp2_with fail
  refine (ttake_any 1 s w hw hs).mono ?_
  rintro e w1 ⟨rfl, hb⟩
  go_wp2
  go_ret3
  exact ⟨rfl, hb⟩
theorem takeLong_any (s : ByteArray) (w : World) (hw : Wid w) (hs : s.size < 4611686018427387904) :
    Calls Tryz.prog 111 #[.string s] w fun e w' => e = .returned (.tuple #[.string (ttA 4 s), .string (ttR 4 s), .int .i64 (ttE 4 s)]) ∧ Below w.heap.size w w' := by
  go_enter Tryz.func111, Tryz.ntmps111
  go_wp2_with fail
  refine (ttake_any 4 s w hw hs).mono ?_
  rintro e w1 ⟨rfl, hb⟩
  go_wp2
  go_ret3
  exact ⟨rfl, hb⟩
end Go.Proofs.YtebkolhibifbpaaGreatDoor
