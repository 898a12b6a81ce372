/-
  The document's own Offers tells whether a word is one of the words of a list; nothing that was there is changed. Condition: a list has fewer than 2^62 bytes.
-/
import Derived.WalkKit
import Derived.Deep.DeepCutAuto
import Derived.Lib.Hide
import Derived.Below
import Derived.Test.YtbdhppigmlfjhaaPWords
namespace Go.Proofs.Ytbdhppigmlfjhaa
open Go.RowKit

theorem str_at2 (L : ByteArray) (k : Nat) (hk : k < L.size) (w : World) : (Instr.index 9 (.string L) (.int .i64 (k : Int))).run Try.prog w = .ok (.int .u8 ((L[k]'hk).toNat : Int)) w := by
  simp [Instr.index, asIntOf, run_underlying Try.underlying9, Result.andThen, Sem.run_bind, hk]
/-- what stands between two places -/
def midX (s : ByteArray) (a i : Nat) : List UInt8 := (s.data.toList.drop a).take (i - a)
theorem mid_nil (s : ByteArray) (a : Nat) : midX s a a = [] := by rw [midX, Nat.sub_self, List.take_zero]
theorem mid_more {s : ByteArray} {a i : Nat} (h : a ≤ i) (hi : i < s.size) : midX s a (i + 1) = midX s a i ++ [s[i]'hi] := by
  have hi2 : i < s.data.toList.length := by rw [wd_len]; exact hi
  rw [midX, midX, show i + 1 - a = (i - a) + 1 by omega, List.take_add_one, List.getElem?_drop, show a + (i - a) = i by omega, List.getElem?_eq_getElem hi2]
  rfl
theorem mid_end {s : ByteArray} {a : Nat} (_h : a ≤ s.size) : midX s a s.size = s.data.toList.drop a := by
  rw [midX, List.take_of_length_le (by rw [List.length_drop, wd_len]; exact Nat.le_refl _)]
theorem mid_split {s : ByteArray} {a i : Nat} (h : a ≤ i) (hi : i < s.size) : s.data.toList.drop a = midX s a i ++ (s[i]'hi :: s.data.toList.drop (i + 1)) := by
  have hi2 : i < s.data.toList.length := by rw [wd_len]; exact hi
  have e := List.take_append_drop (i - a) (s.data.toList.drop a)
  rw [List.drop_drop, show a + (i - a) = i by omega, List.drop_eq_getElem_cons hi2] at e
  exact e.symm
theorem mid_extract (s : ByteArray) (a i : Nat) : (s.extract a i).toList = midX s a i := by
  rw [Lib.toList_data, Lib.extract_data, midX]
/-- is it the word, and none that is empty? -/
def isW (x w : List UInt8) : Bool := !(w == []) && (x == w)
theorem off_one {l w : List UInt8} (h : (32 : UInt8) ∉ l) : offX l w = isW l w := by
  rw [offX, isW, segs_one h, List.any_cons, List.any_nil, Bool.or_false]
theorem off_two {a b w : List UInt8} (h : (32 : UInt8) ∉ a) : offX (a ++ 32 :: b) w = (isW a w || offX b w) := by
  rw [offX, offX, isW, segs_two a b h, List.any_cons]
  cases (!(w == [])) <;> simp

set_option maxRecDepth 100000 in
set_option maxHeartbeats 2000000 in
theorem rOffers_any (s word : ByteArray) (w : World) (hs : s.size < 4611686018427387904) :
    Calls Try.prog 12 #[.string s, .string word] w fun e w' => e = .returned (.bool (offX s.data.toList word.data.toList)) ∧ Below w.heap.size w w' := by
  obtain ⟨q, hq⟩ : ∃ q, offX s.data.toList word.data.toList = q := ⟨_, rfl⟩
  have HQ := Lib.hid hq
  rw [hq]
  clear hq
  go_enter Try.func12, Try.ntmps12
  go_wp2
  go_loopw [5, 6] (fun p v wr => ∃ a i : Nat, p = .int .i64 a ∧ v = .int .i64 i ∧ i ≤ s.size + 1 ∧ Hid ((i ≤ s.size → a ≤ i ∧ (32 : UInt8) ∉ midX s a i ∧ q = offX (s.data.toList.drop a) word.data.toList) ∧ (i = s.size + 1 → q = false)) ∧ wr = w) (fun _ v _ => s.size + 1 - (intOf v).toNat)
  case atStart => exact ⟨0, 0, rfl, rfl, Nat.zero_le _, Lib.hid ⟨fun _ => ⟨Nat.le_refl _, by rw [mid_nil]; exact List.not_mem_nil, HQ.out.symm⟩, fun h => by omega⟩, rfl⟩
  case round =>
    obtain ⟨a, i, rfl, rfl, hi, H, rfl⟩ := hrel
    by_cases hle : i ≤ s.size
    · obtain ⟨ha, hno, hq⟩ := H.out.1 hle
      have e1 : IntKind.i64.wrap ((i : Int) + 1) = ((i + 1 : Nat) : Int) := by simp only [IntKind.wrap_i64]; omega
      have hw1 : (word.toList == []) = (word.data.toList == []) := by rw [Lib.toList_data]
      have hsl := mid_extract s a i
      obtain ⟨iw, hiw⟩ : ∃ iw, isW (midX s a i) word.data.toList = iw := ⟨_, rfl⟩
      have HI := Lib.hid hiw
      have b0 : (0 : Int) ≤ (a : Int) := by omega
      have b1 : (a : Int) ≤ (i : Int) := by omega
      have b2 : (i : Int) ≤ (s.size : Int) := by omega
      by_cases hlast : i = s.size
      · have HF : Hid (q = iw) := Lib.hid (by rw [hq, ← HI.out, hlast, mid_end (by omega)]; exact off_one (by rw [← mid_end (by omega), ← hlast]; exact hno))
        have t1 : ((i : Int) == (s.size : Int)) = true := beq_iff_eq.2 (by omega)
        clear hno hq H hiw
        cases hwn : (word.data.toList == [])
        · cases hxe : (midX s a i == word.data.toList)
          · have HF2 : Hid (q = false) := Lib.hid (by rw [HF.out, ← HI.out, isW, hwn, hxe]; rfl)
            have t2 : (word.toList == []) = false := by rw [hw1, hwn]
            have t3 : ((s.extract a i).toList == word.toList) = false := by rw [hsl, Lib.toList_data, hxe]
            clear HF HI hw1 hsl hwn hxe hlast
            go_wp2
            go_roundw
            case rel => exact ⟨i + 1, i + 1, by rw [show ((i + 1 : Nat) : Int) = (i : Int) + 1 by omega], by rw [show ((i + 1 : Nat) : Int) = (i : Int) + 1 by omega], by omega, Lib.hid ⟨fun h => by have := beq_iff_eq.1 t1; omega, fun _ => HF2.out⟩, trivial⟩
            case measure => simp only [intOf]; omega
          · have HF2 : Hid (q = true) := Lib.hid (by rw [HF.out, ← HI.out, isW, hwn, hxe]; rfl)
            have t2 : (word.toList == []) = false := by rw [hw1, hwn]
            have t3 : ((s.extract a i).toList == word.toList) = true := by rw [hsl, Lib.toList_data, hxe]
            clear HF HI hw1 hsl hwn hxe hlast
            go_wp2
            go_ret
            exact ⟨by rw [HF2.out]; rfl, Below.refl _ _⟩
        · have HF2 : Hid (q = false) := Lib.hid (by rw [HF.out, ← HI.out, isW, hwn]; rfl)
          have t2 : (word.toList == []) = true := by rw [hw1, hwn]
          clear HF HI hw1 hsl hwn hlast
          go_wp2
          go_roundw
          case rel => exact ⟨i + 1, i + 1, by rw [show ((i + 1 : Nat) : Int) = (i : Int) + 1 by omega], by rw [show ((i + 1 : Nat) : Int) = (i : Int) + 1 by omega], by omega, Lib.hid ⟨fun h => by have := beq_iff_eq.1 t1; omega, fun _ => HF2.out⟩, trivial⟩
          case measure => simp only [intOf]; omega
      · have hlt : i < s.size := by omega
        have t1 : ((i : Int) == (s.size : Int)) = false := beq_eq_false_iff_ne.2 (by omega)
        have hix := str_at2 s i hlt
        have HM := Lib.hid (mid_more ha hlt)
        have HS := Lib.hid (mid_split ha hlt)
        have b3 : (i : Int) < (s.size : Int) := by omega
        generalize s[i]'hlt = b at hix HM HS
        by_cases hb : b = 32
        · have HF : Hid (q = (iw || offX (s.data.toList.drop (i + 1)) word.data.toList)) := Lib.hid (by rw [hq, HS.out, hb, off_two hno, HI.out])
          have tb : ((b.toNat : Int) == 32) = true := by rw [hb]; rfl
          clear hno hq H hiw HM HS hb
          cases hwn : (word.data.toList == [])
          · cases hxe : (midX s a i == word.data.toList)
            · have HF2 : Hid (q = offX (s.data.toList.drop (i + 1)) word.data.toList) := Lib.hid (by rw [HF.out, ← HI.out, isW, hwn, hxe]; rfl)
              have t2 : (word.toList == []) = false := by rw [hw1, hwn]
              have t3 : ((s.extract a i).toList == word.toList) = false := by rw [hsl, Lib.toList_data, hxe]
              clear HF HI hw1 hsl hwn hxe hlast
              go_wp2
              go_roundw
              case rel => exact ⟨i + 1, i + 1, by rw [show ((i + 1 : Nat) : Int) = (i : Int) + 1 by omega], by rw [show ((i + 1 : Nat) : Int) = (i : Int) + 1 by omega], by omega, Lib.hid ⟨fun _ => ⟨Nat.le_refl _, by rw [mid_nil]; exact List.not_mem_nil, HF2.out⟩, fun h => by omega⟩, trivial⟩
              case measure => simp only [intOf]; omega
            · have HF2 : Hid (q = true) := Lib.hid (by rw [HF.out, ← HI.out, isW, hwn, hxe]; rfl)
              have t2 : (word.toList == []) = false := by rw [hw1, hwn]
              have t3 : ((s.extract a i).toList == word.toList) = true := by rw [hsl, Lib.toList_data, hxe]
              clear HF HI hw1 hsl hwn hxe hlast
              go_wp2
              go_ret
              exact ⟨by rw [HF2.out]; rfl, Below.refl _ _⟩
          · have HF2 : Hid (q = offX (s.data.toList.drop (i + 1)) word.data.toList) := Lib.hid (by rw [HF.out, ← HI.out, isW, hwn]; rfl)
            have t2 : (word.toList == []) = true := by rw [hw1, hwn]
            clear HF HI hw1 hsl hwn hlast
            go_wp2
            go_roundw
            case rel => exact ⟨i + 1, i + 1, by rw [show ((i + 1 : Nat) : Int) = (i : Int) + 1 by omega], by rw [show ((i + 1 : Nat) : Int) = (i : Int) + 1 by omega], by omega, Lib.hid ⟨fun _ => ⟨Nat.le_refl _, by rw [mid_nil]; exact List.not_mem_nil, HF2.out⟩, fun h => by omega⟩, trivial⟩
            case measure => simp only [intOf]; omega
        · have tb : ((b.toNat : Int) == 32) = false := by
            have h2 : b.toNat ≠ 32 := fun h => hb (UInt8.toNat_inj.1 h)
            rw [beq_eq_false_iff_ne]
            omega
          have HN : Hid ((i + 1 ≤ s.size → a ≤ i + 1 ∧ (32 : UInt8) ∉ midX s a (i + 1) ∧ q = offX (s.data.toList.drop a) word.data.toList) ∧ (i + 1 = s.size + 1 → q = false)) := Lib.hid ⟨fun _ => ⟨by omega, by rw [HM.out, List.mem_append, List.mem_singleton]; rintro (h | h); exact hno h; exact hb h.symm, hq⟩, fun h => by omega⟩
          clear hno hq H hiw HM HS hb HI hw1 hsl hlast
          go_wp2
          go_roundw
          case rel => exact ⟨a, i + 1, rfl, by rw [show ((i + 1 : Nat) : Int) = (i : Int) + 1 by omega], by omega, HN, trivial⟩
          case measure => simp only [intOf]; omega
    · obtain rfl : i = s.size + 1 := by omega
      have HF := Lib.hid (H.out.2 rfl)
      clear H
      go_wp2
      go_ret
      exact ⟨by rw [HF.out]; rfl, Below.refl _ _⟩
end Go.Proofs.Ytbdhppigmlfjhaa
