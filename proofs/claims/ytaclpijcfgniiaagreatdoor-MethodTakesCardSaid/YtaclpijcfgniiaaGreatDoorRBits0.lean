/-
  The document's own answer for layer 1, Bits of interchangeref01: bits' bytes, which are what num.Bits answers; nothing that was there is changed. Condition: there are fewer than 2^50 bits.
-/
import Derived.Test.YtaclpijcfgniiaaGreatDoorWBits
import Derived.Test.YtaclpijcfgniiaaGreatDoorJWNum
namespace Go.Proofs.YtaclpijcfgniiaaGreatDoor
open Go.RowKit

theorem take_next (l : List Bool) (k : Nat) (h : k < l.length) : l.take (k + 1) = l.take k ++ [l[k]] := by
  rw [List.take_succ_eq_append_getElem h]

/-- the first m of eight bits -/
def octTo (f : Nat → Bool) : Nat → Nat
  | 0 => 0
  | m + 1 => octTo f m + if f m = true then 2 ^ m else 0
theorem octTo_lt (f : Nat → Bool) (m : Nat) : octTo f m < 2 ^ m := by
  induction m with
  | zero => simp [octTo]
  | succ m ih => unfold octTo; rw [Nat.pow_succ]; split <;> omega
theorem octTo_8 (f : Nat → Bool) : octTo f 8 = oct f := by
  have h : ∀ (b : Bool) (n : Nat), (if b = true then n else 0) = n * b.toNat := fun b n => by cases b <;> simp
  simp only [octTo, h, oct]
  omega
/-- the first j bytes -/
def bitsTo (l : List Bool) (j : Nat) : ByteArray := ⟨((List.range j).map fun i => UInt8.ofNat (bitK l l.length i)).toArray⟩
theorem bitsTo_succ (l : List Bool) (j : Nat) : bitsTo l j ++ ⟨#[UInt8.ofNat (bitK l l.length j)]⟩ = bitsTo l (j + 1) := by
  apply ByteArray.ext
  rw [ByteArray.data_append]
  simp [bitsTo, List.range_succ]
theorem bitsTo_size (l : List Bool) (j : Nat) : (bitsTo l j).size = j := by simp [bitsTo, ByteArray.size]
theorem bitsTo_all (l : List Bool) : bitsTo l ((l.length + 7) / 8) = bitsS l := rfl
theorem octTo_bit (l : List Bool) (j : Nat) : octTo (fun i => l.getD (8 * j + i) false) 8 = bitK l l.length j := by
  rw [octTo_8]
  unfold bitK
  congr 1
  funext i
  by_cases h : 8 * j + i < l.length
  · simp [h]
  · simp [h, List.getD]

set_option maxHeartbeats 800000 in
theorem rbits_any (A : Option Addr) (cap : Nat) (l : List Bool) (w : World) (hl : l.length < 1125899906842624) (h : BoolsAt w A l) :
    Calls Tryz.prog 19 #[.slice A l.length cap] w fun e w' => e = .returned (.string (bitsS l)) ∧ Below w.heap.size w w' := by
  have hcv : ∀ (w : World) (a : Int), (convert 69 9 (.slice (some ⟨w.heap.size, 0, none⟩) 1 1)).run Tryz.prog (w.alloc (.cells #[.int .u8 a] 5)) = .ok (.string ⟨#[UInt8.ofNat a.toNat]⟩) (w.alloc (.cells #[.int .u8 a] 5)) := fun w a => conv_own w [a] 1
  go_enter Tryz.func19, Tryz.ntmps19
  go_wp2
  go_loopw [3, 4] (fun s i wr => ∃ j q : Nat, Hid (q = 8 * j) ∧ q < l.length + 8 ∧ i = .int .i64 q ∧ s = .string (bitsTo l j) ∧ Below w.heap.size w wr) (fun _ i _ => l.length + 8 - (intOf i).toNat)
  case atStart => exact ⟨0, 0, rfl, by omega, rfl, rfl, Below.refl _ _⟩
  case round =>
    obtain ⟨j, q, HQ, hj, rfl, rfl, hb⟩ := hrel
    have hsz : (bitsTo l j).size ≤ 1125899906842624 := by rw [bitsTo_size]; have := HQ.out; omega
    by_cases hlt : q < l.length
    · have HT := Lib.hid (bitsTo_succ l j)
      have HO := Lib.hid (octTo_bit l j)
      have hd : decide (q < l.length) = true := by simpa using hlt
      go_wp2
      go_loop [5, 6, 7] (fun v p k => ∃ m : Nat, m ≤ 8 ∧ k = .int .i64 ((q : Int) + m) ∧ p = .int .i64 ((2 ^ m : Nat) : Int) ∧ v = .int .i64 (octTo (fun i => l.getD (q + i) false) m)) (fun _ _ k => q + 8 - (intOf k).toNat)
      case atStart => exact ⟨0, by omega, by simp, rfl, rfl⟩
      case round =>
        obtain ⟨m, hm, rfl, rfl, rfl⟩ := hrel
        have ho := octTo_lt (fun i => l.getD (q + i) false) m
        have hp : 2 ^ m ≤ 256 := Nat.pow_le_pow_right (n := 2) (j := 8) (by omega) hm
        have HS := Lib.hid (show octTo (fun i => l.getD (q + i) false) (m + 1) = octTo (fun i => l.getD (q + i) false) m + (if l.getD (q + m) false = true then 2 ^ m else 0) from rfl)
        have HP := Lib.hid (Nat.pow_succ 2 m)
        by_cases hm8 : m < 8
        · by_cases hin : q + m < l.length
          · obtain ⟨b, off, rfl, hbl, hc⟩ := h (by omega)
            have hck := (hb.cell (p := ⟨b, off + (q + m), none⟩) hbl).trans (hc (q + m) hin)
            have Hgd := Lib.hid (show l.getD (q + m) false = l[q + m] by simp [List.getD, hin])
            clear hc h hcv
            generalize l[q + m] = x at hck Hgd
            generalize octTo (fun i => l.getD (q + i) false) m = o at *
            generalize 2 ^ m = pw at *
            cases x
            · go_wp2
              go_round
              case rel => exact ⟨m + 1, by omega, by go_num, by rw [HP.out]; go_num, by rw [HS.out, Hgd.out]; simp⟩
              case measure => simp [intOf]; omega
            · go_wp2
              go_round
              case rel => exact ⟨m + 1, by omega, by go_num, by rw [HP.out]; go_num, by rw [HS.out, Hgd.out]; simp⟩
              case measure => simp [intOf]; omega
          · have Hgd := Lib.hid (show l.getD (q + m) false = false by rw [List.getD, List.getElem?_eq_none (by omega)]; rfl)
            clear h hcv
            generalize octTo (fun i => l.getD (q + i) false) m = o at *
            generalize 2 ^ m = pw at *
            go_wp2
            go_round
            case rel => exact ⟨m + 1, by omega, by go_num, by rw [HP.out]; go_num, by rw [HS.out, Hgd.out]; simp⟩
            case measure => simp [intOf]; omega
        · obtain rfl : m = 8 := by omega
          have HK := Lib.hid (show octTo (fun i => l.getD (q + i) false) 8 = bitK l l.length j by rw [HQ.out]; exact HO.out)
          clear h HS HP
          generalize octTo (fun i => l.getD (q + i) false) 8 = o at *
          go_wp2
          go_roundw
          case rel => exact ⟨j + 1, q + 8, Lib.hid (by have := HQ.out; omega), by omega, by go_num, by rw [← HT.out, ← HK.out], hb.alloc hb.size _⟩
          case measure => simp [intOf]; omega
    · clear hcv h
      go_wp2
      go_ret
      refine ⟨congrArg (fun s : ByteArray => Ending.returned (.string s)) (?_ : bitsTo l j = bitsS l), hb⟩
      rw [← bitsTo_all, show j = (l.length + 7) / 8 by have := HQ.out; omega]
end Go.Proofs.YtaclpijcfgniiaaGreatDoor
