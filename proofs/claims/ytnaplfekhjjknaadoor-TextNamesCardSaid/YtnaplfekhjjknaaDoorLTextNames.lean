/-
  TextNames: two names together are one, if they are short enough; with a byte that no name has they aren't: the walk of the law. Conditions: the package num's table of widths holds 1, 2, 4, 8; the texts have fewer than 2^60 bytes.
-/
import Derived.Test.YtnaplfekhjjknaaDoorWTextShown
import Derived.Test.YtnaplfekhjjknaaDoorWName
namespace Go.Proofs.YtnaplfekhjjknaaDoor
open Go.RowKit

theorem name_app {a b : ByteArray} (ha : nameOk a = true) (hb : nameOk b = true) : nameOk (a ++ b) = decide (a.size + b.size ≤ 127) := by
  simp only [nameOk, Bool.and_eq_true] at ha hb
  rw [nameOk, ba_append, List.all_append, ha.2, hb.2, ByteArray.size_append]
  simp
theorem name_not (a b : ByteArray) (c : UInt8) (hc : nameByte c = false) : nameOk (a ++ ⟨#[c]⟩ ++ b) = false := by
  rw [nameOk, ba_append, ba_append, List.all_append, List.all_append]
  simp [hc]

set_option maxHeartbeats 1000000 in
theorem textNames_any (a b : ByteArray) (w : World) (hw : Wid w) (ha : a.size < 1152921504606846976) (hb : b.size < 1152921504606846976) :
    Calls Tryd.prog 10 #[.string a, .string b] w fun e w' => e = .returned (.bool true) ∧ Below w.heap.size w w' := by
  have z0 : a.size + b.size ≤ 9223372036854775807 := by omega
  have n1 := name_not a b 32 (by decide)
  have n2 := name_not a b 47 (by decide)
  have n3 := name_not a b 0 (by decide)
  have z1 : a.size + (⟨#[32]⟩ : ByteArray).size ≤ 9223372036854775807 := by have : (⟨#[32]⟩ : ByteArray).size = 1 := rfl; omega
  have z2 : a.size + (⟨#[47]⟩ : ByteArray).size ≤ 9223372036854775807 := by have : (⟨#[47]⟩ : ByteArray).size = 1 := rfl; omega
  have z3 : a.size + (⟨#[0]⟩ : ByteArray).size ≤ 9223372036854775807 := by have : (⟨#[0]⟩ : ByteArray).size = 1 := rfl; omega
  have y1 : (a ++ (⟨#[32]⟩ : ByteArray)).size + b.size ≤ 9223372036854775807 := by rw [ByteArray.size_append]; have : (⟨#[32]⟩ : ByteArray).size = 1 := rfl; omega
  have y2 : (a ++ (⟨#[47]⟩ : ByteArray)).size + b.size ≤ 9223372036854775807 := by rw [ByteArray.size_append]; have : (⟨#[47]⟩ : ByteArray).size = 1 := rfl; omega
  have y3 : (a ++ (⟨#[0]⟩ : ByteArray)).size + b.size ≤ 9223372036854775807 := by rw [ByteArray.size_append]; have : (⟨#[0]⟩ : ByteArray).size = 1 := rfl; omega
  go_enter Tryd.func10, Tryd.ntmps10
  go_wp2_with fail
  refine (tshown_any w hw).mono ?_
  rintro e w1 ⟨rfl, hb1⟩
  clear hw
  go_wp2_with fail
  refine (name_any a w1).mono ?_
  rintro e w2 ⟨rfl, hb2⟩
  have hb2 := hb1.trans (hb2.mono hb1.size)
  clear hb1
  go_wp2_with fail
  refine (name_any b w2).mono ?_
  rintro e w3 ⟨rfl, hb3⟩
  have hb3 := hb2.trans (hb3.mono hb2.size)
  clear hb2
  have rest : ∀ w3, Below w.heap.size w w3 → Calls Tryd.prog 25 #[.string (a ++ ⟨#[32]⟩ ++ b)] w3 fun e w' => e = .returned (.bool false) ∧ Below w.heap.size w w' := fun w3 hb3 => by
    refine (name_any _ w3).mono ?_
    rintro e w4 ⟨rfl, hb4⟩
    exact ⟨by rw [n1], hb3.trans (hb4.mono hb3.size)⟩
  have rest2 : ∀ w3, Below w.heap.size w w3 → Calls Tryd.prog 25 #[.string (a ++ ⟨#[47]⟩ ++ b)] w3 fun e w' => e = .returned (.bool false) ∧ Below w.heap.size w w' := fun w3 hb3 => by
    refine (name_any _ w3).mono ?_
    rintro e w4 ⟨rfl, hb4⟩
    exact ⟨by rw [n2], hb3.trans (hb4.mono hb3.size)⟩
  have rest3 : ∀ w3, Below w.heap.size w w3 → Calls Tryd.prog 25 #[.string (a ++ ⟨#[0]⟩ ++ b)] w3 fun e w' => e = .returned (.bool false) ∧ Below w.heap.size w w' := fun w3 hb3 => by
    refine (name_any _ w3).mono ?_
    rintro e w4 ⟨rfl, hb4⟩
    exact ⟨by rw [n3], hb3.trans (hb4.mono hb3.size)⟩
  clear n1 n2 n3
  cases hx : (nameOk a && nameOk b)
  · have hx' : nameOk a = false ∨ nameOk b = false := by cases h1 : nameOk a <;> cases h2 : nameOk b <;> simp_all
    clear hx
    generalize nameOk a = x at hx' ⊢
    generalize nameOk b = y at hx' ⊢
    have hxy : (x = false) ∨ (x = true ∧ y = false) := by cases x <;> simp_all
    clear hx'
    rcases hxy with rfl | ⟨rfl, rfl⟩
    all_goals
      go_wp2_with fail
      refine (rest w3 hb3).mono ?_
      rintro e w4 ⟨rfl, hb4⟩
      clear hb3
      go_wp2_with fail
      refine (rest2 w4 hb4).mono ?_
      rintro e w5 ⟨rfl, hb5⟩
      clear hb4
      go_wp2_with fail
      refine (rest3 w5 hb5).mono ?_
      rintro e w6 ⟨rfl, hb6⟩
      clear hb5
      go_wp2
      go_ret
      exact ⟨rfl, hb6⟩
  · obtain ⟨hx1, hx2⟩ : nameOk a = true ∧ nameOk b = true := by simpa using hx
    have hn := name_app hx1 hx2
    rw [hx1, hx2]
    clear hx hx1 hx2
    go_wp2_with fail
    refine (name_any _ w3).mono ?_
    rintro e w3x ⟨rfl, hb3x⟩
    have hb3x := hb3.trans (hb3x.mono hb3.size)
    clear hb3
    rw [hn]
    clear hn
    by_cases hc : a.size + b.size ≤ 127
    · have d1 : decide (a.size + b.size ≤ 127) = true := by simpa using hc
      have d2 : decide ((a.size : Int) + b.size ≤ 127) = true := by simp; omega
      rw [d1]
      go_wp2_with fail
      refine (rest w3x hb3x).mono ?_
      rintro e w4 ⟨rfl, hb4⟩
      clear hb3x
      go_wp2_with fail
      refine (rest2 w4 hb4).mono ?_
      rintro e w5 ⟨rfl, hb5⟩
      clear hb4
      go_wp2_with fail
      refine (rest3 w5 hb5).mono ?_
      rintro e w6 ⟨rfl, hb6⟩
      clear hb5
      go_wp2
      go_ret
      exact ⟨rfl, hb6⟩
    · have d1 : decide (a.size + b.size ≤ 127) = false := by simpa using hc
      have d2 : decide ((a.size : Int) + b.size ≤ 127) = false := by simp; omega
      rw [d1]
      go_wp2_with fail
      refine (rest w3x hb3x).mono ?_
      rintro e w4 ⟨rfl, hb4⟩
      clear hb3x
      go_wp2_with fail
      refine (rest2 w4 hb4).mono ?_
      rintro e w5 ⟨rfl, hb5⟩
      clear hb4
      go_wp2_with fail
      refine (rest3 w5 hb5).mono ?_
      rintro e w6 ⟨rfl, hb6⟩
      clear hb5
      go_wp2
      go_ret
      exact ⟨rfl, hb6⟩
end Go.Proofs.YtnaplfekhjjknaaDoor
