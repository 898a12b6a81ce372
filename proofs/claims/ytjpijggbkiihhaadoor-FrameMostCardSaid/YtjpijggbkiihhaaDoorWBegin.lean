/-
  frame.Header and frame.Begins answer how a side begins, and what stands behind; nothing that was there is changed. No condition.
-/
import Derived.Test.YtjpijggbkiihhaaDoorWWidth
import Derived.Test.YtjpijggbkiihhaaDoorPBa
import Derived.Deep.QuietTactic
import Derived.BigQuiet
import Derived.WalkSmall
namespace Go.Proofs.YtjpijggbkiihhaaDoor
open Go.RowKit

abbrev hdr : ByteArray := ⟨#[65, 77, 81, 80, 0, 0, 9, 1]⟩
/-- does s begin with p? -/
def hasPre (s p : ByteArray) : Bool := decide (p.size ≤ s.size) && ((s.extract 0 p.size).toList == p.toList)

theorem hasPrefix_any (s p : ByteArray) (w : World) :
    Calls Tryd.prog 39 #[.string s, .string p] w fun e w' => e = .returned (.bool (hasPre s p)) ∧ w = w' := by
  by_cases h : p.size ≤ s.size
  · have t1 : decide (p.size ≤ s.size) = true := by simpa using h
    have H := Lib.hid (show hasPre s p = ((s.extract 0 p.size).toList == p.toList) by simp [hasPre, h])
    go_enter Tryd.func39, Tryd.ntmps39
    go_wp2
    go_ret
    exact ⟨by rw [H.out]; rfl, rfl⟩
  · have H := Lib.hid (show hasPre s p = false by simp [hasPre, h])
    go_enter Tryd.func39, Tryd.ntmps39
    go_wp2
    go_ret
    exact ⟨by rw [H.out]; rfl, rfl⟩
theorem shasPrefix_any (s p : ByteArray) (w : World) :
    Calls Tryd.prog 34 #[.string s, .string p] w fun e w' => e = .returned (.bool (hasPre s p)) ∧ w = w' := by
  go_enter Tryd.func34, Tryd.ntmps34
  go_wp2_with fail
  refine (hasPrefix_any s p w).mono ?_
  rintro e w1 ⟨rfl, rfl⟩
  go_wp2
  go_ret
  exact ⟨rfl, rfl⟩
/-- what stands behind the beginning, or all -/
def cutPre (s p : ByteArray) : ByteArray := if hasPre s p = true then s.extract p.size s.size else s
theorem cutPrefix_any (s p : ByteArray) (w : World) :
    Calls Tryd.prog 38 #[.string s, .string p] w fun e w' => e = .returned (.tuple #[.string (cutPre s p), .bool (hasPre s p)]) ∧ w = w' := by
  go_enter Tryd.func38, Tryd.ntmps38
  go_wp2_with fail
  refine (hasPrefix_any s p w).mono ?_
  rintro e w1 ⟨rfl, rfl⟩
  cases h : hasPre s p
  · have H := Lib.hid (show cutPre s p = s by simp [cutPre, h])
    have H2 := Lib.hid h
    clear h
    go_wp2
    go_ret2
    exact ⟨by rw [H.out, H2.out]; rfl, rfl⟩
  · have H := Lib.hid (show cutPre s p = s.extract p.size s.size by simp [cutPre, h])
    have hle : p.size ≤ s.size := by
      simp only [hasPre, Bool.and_eq_true, decide_eq_true_eq] at h
      exact h.1
    have H2 := Lib.hid h
    clear h
    go_wp2
    go_ret2
    exact ⟨by rw [H.out, H2.out]; rfl, rfl⟩
theorem scutPrefix_any (s p : ByteArray) (w : World) :
    Calls Tryd.prog 33 #[.string s, .string p] w fun e w' => e = .returned (.tuple #[.string (cutPre s p), .bool (hasPre s p)]) ∧ w = w' := by
  go_enter Tryd.func33, Tryd.ntmps33
  go_wp2_with fail
  refine (cutPrefix_any s p w).mono ?_
  rintro e w1 ⟨rfl, rfl⟩
  go_wp2
  go_ret2
  exact ⟨rfl, rfl⟩
/-- what Begins answers -/
def bgE (s : ByteArray) : Int := if hasPre s hdr = true then 0 else if hasPre hdr s = true then 2 else 3
def bgR (s : ByteArray) : ByteArray := if hasPre s hdr = true then s.extract 8 s.size else ⟨#[]⟩
theorem header_any (w : World) : Calls Tryd.prog 23 #[] w fun e w' => e = .returned (.string hdr) ∧ w = w' := by
  go_enter Tryd.func23, Tryd.ntmps23
  go_wp2
  go_ret
  exact ⟨rfl, rfl⟩
theorem begins_any (s : ByteArray) (w : World) :
    Calls Tryd.prog 17 #[.string s] w fun e w' => e = .returned (.tuple #[.string (bgR s), .int .i64 (bgE s)]) ∧ w = w' := by
  go_enter Tryd.func17, Tryd.ntmps17
  go_wp2_with fail
  refine (scutPrefix_any s hdr w).mono ?_
  rintro e w1 ⟨rfl, rfl⟩
  cases h : hasPre s hdr
  · cases h2 : hasPre hdr s
    · have H := Lib.hid (show bgE s = 3 ∧ bgR s = ⟨#[]⟩ by simp [bgE, bgR, h, h2])
      have P := shasPrefix_any hdr s w
      rw [h2] at P
      generalize cutPre s hdr = r
      clear h h2
      go_wp2_with fail
      refine P.mono ?_
      rintro e w1 ⟨rfl, rfl⟩
      go_wp2
      go_ret2
      exact ⟨by rw [H.out.1, H.out.2]; rfl, rfl⟩
    · have H := Lib.hid (show bgE s = 2 ∧ bgR s = ⟨#[]⟩ by simp [bgE, bgR, h, h2])
      have P := shasPrefix_any hdr s w
      rw [h2] at P
      generalize cutPre s hdr = r
      clear h h2
      go_wp2_with fail
      refine P.mono ?_
      rintro e w1 ⟨rfl, rfl⟩
      go_wp2
      go_ret2
      exact ⟨by rw [H.out.1, H.out.2]; rfl, rfl⟩
  · have H := Lib.hid (show bgE s = 0 ∧ bgR s = cutPre s hdr by simp [bgE, bgR, cutPre, h]; rfl)
    generalize cutPre s hdr = r at H ⊢
    clear h
    go_wp2
    go_ret2
    exact ⟨by rw [H.out.1, H.out.2]; rfl, rfl⟩

/-- so many bytes are the beginning's -/
def samePre (s : ByteArray) (k : Nat) : Prop := k ≤ 8 ∧ k ≤ s.size ∧ s.data.toList.take k = hdr.data.toList.take k
theorem ba_toList (a : ByteArray) : a.toList = a.data.toList := ByteArray.toList_eq a
theorem hasPre_iff (s p : ByteArray) : hasPre s p = true ↔ p.data.toList <+: s.data.toList := by
  simp only [hasPre, Bool.and_eq_true, decide_eq_true_eq, ba_toList, beq_iff_eq]
  constructor
  · rintro ⟨h1, h2⟩
    rw [← h2]
    have : (s.extract 0 p.size).data.toList = s.data.toList.take p.size := by
      rw [ByteArray.data_extract]; simp
    rw [this]
    exact List.take_prefix _ _
  · rintro h
    have h1 := h.length_le
    rw [ba_len, ba_len] at h1
    refine ⟨h1, ?_⟩
    have : (s.extract 0 p.size).data.toList = s.data.toList.take p.size := by
      rw [ByteArray.data_extract]; simp
    rw [this, ← ba_len p]
    exact (List.prefix_iff_eq_take.1 h).symm
theorem samePre_zero (s : ByteArray) : samePre s 0 := ⟨by omega, by omega, by simp⟩
theorem samePre_succ {s : ByteArray} {k : Nat} (h : samePre s k) (h8 : k < 8) (hs : k < s.size) (he : s.data.toList[k]'(by rw [ba_len]; exact hs) = hdr.data.toList[k]'h8) : samePre s (k + 1) := by
  refine ⟨by omega, by omega, ?_⟩
  rw [List.take_succ_eq_append_getElem (by rw [ba_len]; exact hs), List.take_succ_eq_append_getElem h8, h.2.2, he]
theorem bg_whole {s : ByteArray} (h : samePre s 8) : hasPre s hdr = true := by
  rw [hasPre_iff, List.prefix_iff_eq_take]
  exact h.2.2.symm
theorem bg_short {s : ByteArray} (h : samePre s s.size) (h8 : s.size < 8) : hasPre s hdr = false ∧ hasPre hdr s = true := by
  constructor
  · cases hp : hasPre s hdr
    · rfl
    · rw [hasPre_iff] at hp
      have := hp.length_le
      rw [ba_len, ba_len] at this
      have e : hdr.size = 8 := rfl
      omega
  · rw [hasPre_iff, List.prefix_iff_eq_take, ba_len, ← h.2.2, ← ba_len, List.take_length]
theorem bg_wrong {s : ByteArray} {k : Nat} (h8 : k < 8) (hs : k < s.size) (he : s.data.toList[k]'(by rw [ba_len]; exact hs) ≠ hdr.data.toList[k]'h8) : hasPre s hdr = false ∧ hasPre hdr s = false := by
  constructor
  · cases hp : hasPre s hdr
    · rfl
    · rw [hasPre_iff] at hp
      exact absurd (hp.getElem h8).symm he
  · cases hp : hasPre hdr s
    · rfl
    · rw [hasPre_iff] at hp
      exact absurd (hp.getElem (by rw [ba_len]; exact hs)) he
end Go.Proofs.YtjpijggbkiihhaaDoor
