/-
  SigPairs answers true, whatever the class and the two ids; nothing that was there is changed. No condition.
-/
import Derived.Test.YtapjpkcollkikaaPSigLaw
import Derived.Test.YtapjpkcollkikaaWSigShown
namespace Go.Proofs.Ytapjpkcollkikaa
open Go.RowKit Go.Maps Go.Shelf

set_option maxRecDepth 100000 in
set_option maxHeartbeats 2000000 in
theorem sigPairs_walk (c i o : Int) (w : World) :
    Calls Try.prog 5 #[.int .i64 c, .int .i64 i, .int .i64 o] w fun e w' => e = .returned (.bool true) ∧ Below w.heap.size w w' := by
  go_enter Try.func5, Try.ntmps5
  go_wp2_with fail
  refine (sigShown_any w).mono ?_
  rintro e w1 ⟨rfl, hb1⟩
  go_wp2_with fail
  refine (asks_any c i w1).mono ?_
  rintro e w2 ⟨rfl, hq⟩
  have hb2 := hb1.trans (hq.mono hb1.size)
  clear hb1 hq
  by_cases ha : sAsks c i = 0
  · rw [ha]
    go_wp2
    go_ret
    exact ⟨rfl, hb2⟩
  · have HM := Lib.hid (asks_at ha).2.2
    have HO : Hid (∀ y ∈ sReps c o, y = i → o = sAsks c i) := Lib.hid (fun y hy e => by rw [← e]; exact (reps_at hy).1.symm)
    have hR := replies_any c (sAsks c i) w2
    have hR2 := replies_any c o
    have hl1 := reps_len c (sAsks c i)
    have hl2 := reps_len c o
    have t0 : (sAsks c i == 0) = false := by simpa using ha
    clear ha
    generalize sAsks c i = a at HM HO hR hl1 t0 ⊢
    generalize sReps c a = l at HM hR hl1
    generalize sReps c o = l2 at HO hR2 hl2
    go_wp2_with fail
    refine hR.mono ?_
    rintro e w3 ⟨v, rfl, hown, hq⟩
    have hb3 := hb2.trans (hq.mono hb2.size)
    obtain ⟨A, ca, rfl, hA⟩ := vals_of_row hown
    clear hR hb2 hq hown
    go_wp2
    go_loop [10, 11] (fun b x => ∃ k : Nat, k ≤ l.length ∧ x = .int .i64 k ∧ ∃ y, b = .bool y ∧ Hid (y = (l.take k).any (· == i))) (fun _ x => l.length - (intOf x).toNat)
    case atStart => exact ⟨0, Nat.zero_le _, rfl, false, rfl, Lib.hid rfl⟩
    case round =>
      obtain ⟨k, hk, rfl, y, rfl, HY⟩ := hrel
      by_cases hlt : k < l.length
      · obtain ⟨b, off, rfl, hbl, hc⟩ := hA (by simp [intVals]; omega)
        have x0 := hc k (by simpa [intVals] using hlt)
        simp only [intVals, List.getElem_map] at x0
        have HS : Hid ((l.take (k + 1)).any (· == i) = (y || l[k] == i)) := Lib.hid (by
          rw [List.take_add_one, List.getElem?_eq_getElem hlt, List.any_append, ← HY.out]
          simp)
        have e1 : IntKind.i64.wrap ((k : Int) + 1) = ((k + 1 : Nat) : Int) := by simp only [IntKind.wrap_i64]; omega
        clear hc HY HM HO hR2
        generalize l[k] = z at x0 HS
        cases y
        · go_wp2
          exact ⟨⟨k + 1, hlt, rfl, _, rfl, Lib.hid (by rw [HS.out]; rfl)⟩, by simp only [intOf]; omega⟩
        · go_wp2
          exact ⟨⟨k + 1, hlt, rfl, _, rfl, Lib.hid (by rw [HS.out]; rfl)⟩, by simp only [intOf]; omega⟩
      · obtain rfl : k = l.length := by omega
        obtain rfl : y = true := by
          rw [HY.out, List.take_of_length_le (Nat.le_refl _), List.any_eq_true]
          exact ⟨i, HM.out, by simp⟩
        clear HY HM hA
        go_wp2_with fail
        refine (hR2 w3).mono ?_
        rintro e w4 ⟨v, rfl, hown, hq⟩
        have hb4 := hb3.trans (hq.mono hb3.size)
        obtain ⟨A2, ca2, rfl, hA⟩ := vals_of_row hown
        clear hR2 hb3 hq hown
        go_wp2
        go_loop [13] (fun x => ∃ k : Nat, k ≤ l2.length ∧ x = .int .i64 k) (fun x => l2.length - (intOf x).toNat)
        case atStart => exact ⟨0, Nat.zero_le _, rfl⟩
        case round =>
          obtain ⟨k, hk2, rfl⟩ := hrel
          by_cases hlt2 : k < l2.length
          · obtain ⟨b, off, rfl, hbl, hc⟩ := hA (by simp [intVals]; omega)
            have x0 := hc k (by simpa [intVals] using hlt2)
            simp only [intVals, List.getElem_map] at x0
            have HE := Lib.hid (HO.out l2[k] (List.getElem_mem hlt2))
            have e1 : IntKind.i64.wrap ((k : Int) + 1) = ((k + 1 : Nat) : Int) := by simp only [IntKind.wrap_i64]; omega
            clear hc HO hA
            generalize l2[k] = z at x0 HE
            cases t1 : (z == i)
            · clear HE
              go_wp2
              exact ⟨⟨k + 1, hlt2, rfl⟩, by simp only [intOf]; omega⟩
            · obtain rfl : o = a := HE.out (by simpa using t1)
              clear HE
              go_wp2
              exact ⟨⟨k + 1, hlt2, rfl⟩, by simp only [intOf]; omega⟩
          · obtain rfl : k = l2.length := by omega
            clear HO hA
            go_wp2
            go_ret
            exact ⟨rfl, hb4⟩
end Go.Proofs.Ytapjpkcollkikaa
