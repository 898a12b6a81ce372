/-
  text.Pairs answers, as a plain function says, what stands between and behind the two bytes 0 of a text that begins with one and has just one more; nothing that was there is changed. No condition but that a text has fewer than 2^62 bytes.
-/
import Derived.Test.YtebkolhibifbpaaGreatDoorWStrings
namespace Go.Proofs.YtebkolhibifbpaaGreatDoor
open Go.RowKit

/-- what PLAIN answers: is it one, the name, the word -/
def pairOk (s : ByteArray) : Bool := hasFirst s 0 && (Lib.countByte (s.extract 1 s.size).data.toList 0 == 1)
def pairA (s : ByteArray) : ByteArray := if pairOk s = true then cutA (s.extract 1 s.size) 0 else ⟨#[]⟩
def pairB (s : ByteArray) : ByteArray := if pairOk s = true then cutB (s.extract 1 s.size) 0 else ⟨#[]⟩

theorem pairs_any (s : ByteArray) (w : World) (hs : s.size < 4611686018427387904) :
    Calls Tryz.prog 40 #[.string s] w fun e w' => e = .returned (.tuple #[.string (pairA s), .string (pairB s), .bool (pairOk s)]) ∧ Below w.heap.size w w' := by
  go_enter Tryz.func40, Tryz.ntmps40
  go_wp2_with fail
  refine (cutPrefix_any s 0 w).mono ?_
  rintro e w1 ⟨rfl, rfl⟩
  cases h : hasFirst s 0
  · have H := Lib.hid (show pairOk s = false by simp [pairOk, h])
    clear h
    go_wp2
    go_ret3
    exact ⟨by simp [pairA, pairB, H.out], Below.refl _ _⟩
  · have hz : (s.extract 1 s.size).size < 4611686018427387904 := by rw [ByteArray.size_extract]; omega
    have e1 : offFirst s 0 = s.extract 1 s.size := by simp [offFirst, h]
    obtain ⟨r, hr⟩ : ∃ r, s.extract 1 s.size = r := ⟨_, rfl⟩
    rw [hr] at e1 hz
    have H1 := Lib.hid (show pairOk s = (Lib.countByte r.data.toList 0 == 1) by rw [pairOk, h, hr]; rfl)
    have Hr := Lib.hid hr
    rw [e1]
    clear h e1 hr
    go_wp2_with fail
    refine (count_any r 0 w).mono ?_
    rintro e w1 ⟨rfl, rfl⟩
    generalize Lib.countByte r.data.toList 0 = n at H1 ⊢
    by_cases hc : n = 1
    · subst hc
      have H := Lib.hid (show pairOk s = true by simpa using H1.out)
      clear H1
      go_wp2_with fail
      refine (cut_any r 0 w hz).mono ?_
      rintro e w1 ⟨rfl, hb⟩
      go_wp2
      go_ret3
      exact ⟨by simp [pairA, pairB, H.out, Hr.out], hb⟩
    · have H := Lib.hid (show pairOk s = false by rw [H1.out]; simpa using hc)
      have d1 : ((n : Int) != 1) = true := by simp; omega
      clear H1
      go_wp2
      go_ret3
      exact ⟨by simp [pairA, pairB, H.out], Below.refl _ _⟩
end Go.Proofs.YtebkolhibifbpaaGreatDoor
