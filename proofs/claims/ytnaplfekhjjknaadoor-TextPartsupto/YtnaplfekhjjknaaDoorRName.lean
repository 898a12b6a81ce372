/-
  The document's own Name of interchangeref02 answers what text.Name answers; nothing that was there is changed. No condition.
-/
import Derived.Test.YtnaplfekhjjknaaDoorWName
namespace Go.Proofs.YtnaplfekhjjknaaDoor
open Go.RowKit

/-- a byte of a name, by its number -/
theorem nameByte_num (c : UInt8) : nameByte c = (within c.toNat 97 122 || within c.toNat 65 90 || within c.toNat 48 57 || (((c.toNat : Int) == 45) || ((c.toNat : Int) == 95) || ((c.toNat : Int) == 46) || ((c.toNat : Int) == 58))) := by
  have e : ∀ d : UInt8, (c == d) = ((c.toNat : Int) == (d.toNat : Int)) := fun d => by
    rw [Bool.eq_iff_iff]
    simp only [beq_iff_eq]
    constructor
    · rintro rfl; rfl
    · intro h; exact UInt8.toNat_inj.1 (by omega)
  rw [nameByte, isMark, e 45, e 95, e 46, e 58]
  rfl

set_option maxHeartbeats 2000000 in
theorem rname_any (s : ByteArray) (w : World) :
    Calls Tryd.prog 26 #[.string s] w fun e w' => e = .returned (.bool (nameOk s)) ∧ Below w.heap.size w w' := by
  by_cases hbig : s.size ≤ 127
  · go_enter Tryd.func26, Tryd.ntmps26
    go_wp2
    go_loop [3] (fun v => ∃ k : Nat, k ≤ s.size ∧ v = .int .i64 k ∧ Hid ((s.data.toList.take k).all nameByte = true)) (fun v => s.size - (intOf v).toNat)
    case atStart => exact ⟨0, by omega, rfl, Lib.hid (by simp)⟩
    case round =>
      obtain ⟨k, hk, rfl, HA⟩ := hrel
      by_cases hlt : k < s.size
      · have HS := Lib.hid (take_all_succ s nameByte k hlt)
        have HN := Lib.hid (nameByte_num (s[k]'hlt))
        have HF := Lib.hid (fun hp => not_all_of (s := s) (p := nameByte) hlt hp)
        have hgo : nameByte (s[k]'hlt) = true → Hid ((s.data.toList.take (k + 1)).all nameByte = true) := fun h => Lib.hid (by rw [HS.out, HA.out, h]; rfl)
        have hb := UInt8.toNat_lt (s[k]'hlt)
        obtain ⟨x, hx⟩ : ∃ x, (s[k]'hlt).toNat = x := ⟨_, rfl⟩
        rw [hx] at hb HN
        have hcs : (97 ≤ x ∧ x ≤ 122) ∨ (65 ≤ x ∧ x ≤ 90) ∨ (48 ≤ x ∧ x ≤ 57) ∨ (45 ≤ x ∧ x ≤ 45) ∨ (95 ≤ x ∧ x ≤ 95) ∨ (46 ≤ x ∧ x ≤ 46) ∨ (58 ≤ x ∧ x ≤ 58) ∨ (0 ≤ x ∧ x ≤ 44) ∨ (47 ≤ x ∧ x ≤ 47) ∨ (59 ≤ x ∧ x ≤ 64) ∨ (91 ≤ x ∧ x ≤ 94) ∨ (96 ≤ x ∧ x ≤ 96) ∨ (123 ≤ x ∧ x ≤ 255) := by omega
        rcases hcs with ⟨r1, r2⟩ | ⟨r1, r2⟩ | ⟨r1, r2⟩ | ⟨r1, r2⟩ | ⟨r1, r2⟩ | ⟨r1, r2⟩ | ⟨r1, r2⟩ | ⟨r1, r2⟩ | ⟨r1, r2⟩ | ⟨r1, r2⟩ | ⟨r1, r2⟩ | ⟨r1, r2⟩ | ⟨r1, r2⟩
        · have hn := hgo (by rw [HN.out]; simp [within]; omega)
          have g97 : decide ((97 : Int) ≤ (x : Int)) = true := by simp; omega
          have g65 : decide ((65 : Int) ≤ (x : Int)) = true := by simp; omega
          have g48 : decide ((48 : Int) ≤ (x : Int)) = true := by simp; omega
          have g122 : decide ((x : Int) ≤ 122) = true := by simp; omega
          have g90 : decide ((x : Int) ≤ 90) = false := by simp; omega
          have g57 : decide ((x : Int) ≤ 57) = false := by simp; omega
          have n45 : ((x : Int) != 45) = true := by simp; omega
          have n95 : ((x : Int) != 95) = true := by simp; omega
          have n46 : ((x : Int) != 46) = true := by simp; omega
          have n58 : ((x : Int) != 58) = true := by simp; omega
          clear HN HF HS HA hgo
          go_wp2
          go_round
          case rel => exact ⟨k + 1, by omega, by go_num, hn⟩
          case measure => simp [intOf]; omega
        · have hn := hgo (by rw [HN.out]; simp [within]; omega)
          have g97 : decide ((97 : Int) ≤ (x : Int)) = false := by simp; omega
          have g65 : decide ((65 : Int) ≤ (x : Int)) = true := by simp; omega
          have g48 : decide ((48 : Int) ≤ (x : Int)) = true := by simp; omega
          have g122 : decide ((x : Int) ≤ 122) = true := by simp; omega
          have g90 : decide ((x : Int) ≤ 90) = true := by simp; omega
          have g57 : decide ((x : Int) ≤ 57) = false := by simp; omega
          have n45 : ((x : Int) != 45) = true := by simp; omega
          have n95 : ((x : Int) != 95) = true := by simp; omega
          have n46 : ((x : Int) != 46) = true := by simp; omega
          have n58 : ((x : Int) != 58) = true := by simp; omega
          clear HN HF HS HA hgo
          go_wp2
          go_round
          case rel => exact ⟨k + 1, by omega, by go_num, hn⟩
          case measure => simp [intOf]; omega
        · have hn := hgo (by rw [HN.out]; simp [within]; omega)
          have g97 : decide ((97 : Int) ≤ (x : Int)) = false := by simp; omega
          have g65 : decide ((65 : Int) ≤ (x : Int)) = false := by simp; omega
          have g48 : decide ((48 : Int) ≤ (x : Int)) = true := by simp; omega
          have g122 : decide ((x : Int) ≤ 122) = true := by simp; omega
          have g90 : decide ((x : Int) ≤ 90) = true := by simp; omega
          have g57 : decide ((x : Int) ≤ 57) = true := by simp; omega
          have n45 : ((x : Int) != 45) = true := by simp; omega
          have n95 : ((x : Int) != 95) = true := by simp; omega
          have n46 : ((x : Int) != 46) = true := by simp; omega
          have n58 : ((x : Int) != 58) = true := by simp; omega
          clear HN HF HS HA hgo
          go_wp2
          go_round
          case rel => exact ⟨k + 1, by omega, by go_num, hn⟩
          case measure => simp [intOf]; omega
        · have hn := hgo (by rw [HN.out]; simp [within]; omega)
          obtain rfl : x = 45 := by omega
          clear HN HF HS HA hgo
          go_wp2
          go_round
          case rel => exact ⟨k + 1, by omega, by go_num, hn⟩
          case measure => simp [intOf]; omega
        · have hn := hgo (by rw [HN.out]; simp [within]; omega)
          obtain rfl : x = 95 := by omega
          clear HN HF HS HA hgo
          go_wp2
          go_round
          case rel => exact ⟨k + 1, by omega, by go_num, hn⟩
          case measure => simp [intOf]; omega
        · have hn := hgo (by rw [HN.out]; simp [within]; omega)
          obtain rfl : x = 46 := by omega
          clear HN HF HS HA hgo
          go_wp2
          go_round
          case rel => exact ⟨k + 1, by omega, by go_num, hn⟩
          case measure => simp [intOf]; omega
        · have hn := hgo (by rw [HN.out]; simp [within]; omega)
          obtain rfl : x = 58 := by omega
          clear HN HF HS HA hgo
          go_wp2
          go_round
          case rel => exact ⟨k + 1, by omega, by go_num, hn⟩
          case measure => simp [intOf]; omega
        · have H : Hid (nameOk s = false) := Lib.hid (by rw [nameOk, HF.out (by rw [HN.out]; simp [within]; omega), Bool.and_false])
          have g97 : decide ((97 : Int) ≤ (x : Int)) = false := by simp; omega
          have g65 : decide ((65 : Int) ≤ (x : Int)) = false := by simp; omega
          have g48 : decide ((48 : Int) ≤ (x : Int)) = false := by simp; omega
          have g122 : decide ((x : Int) ≤ 122) = true := by simp; omega
          have g90 : decide ((x : Int) ≤ 90) = true := by simp; omega
          have g57 : decide ((x : Int) ≤ 57) = true := by simp; omega
          have n45 : ((x : Int) != 45) = true := by simp; omega
          have n95 : ((x : Int) != 95) = true := by simp; omega
          have n46 : ((x : Int) != 46) = true := by simp; omega
          have n58 : ((x : Int) != 58) = true := by simp; omega
          clear HN HF HS HA hgo
          go_wp2
          go_ret
          exact ⟨by rw [H.out]; rfl, Below.refl _ _⟩
        · have H : Hid (nameOk s = false) := Lib.hid (by rw [nameOk, HF.out (by rw [HN.out]; simp [within]; omega), Bool.and_false])
          obtain rfl : x = 47 := by omega
          clear HN HF HS HA hgo
          go_wp2
          go_ret
          exact ⟨by rw [H.out]; rfl, Below.refl _ _⟩
        · have H : Hid (nameOk s = false) := Lib.hid (by rw [nameOk, HF.out (by rw [HN.out]; simp [within]; omega), Bool.and_false])
          have g97 : decide ((97 : Int) ≤ (x : Int)) = false := by simp; omega
          have g65 : decide ((65 : Int) ≤ (x : Int)) = false := by simp; omega
          have g48 : decide ((48 : Int) ≤ (x : Int)) = true := by simp; omega
          have g122 : decide ((x : Int) ≤ 122) = true := by simp; omega
          have g90 : decide ((x : Int) ≤ 90) = true := by simp; omega
          have g57 : decide ((x : Int) ≤ 57) = false := by simp; omega
          have n45 : ((x : Int) != 45) = true := by simp; omega
          have n95 : ((x : Int) != 95) = true := by simp; omega
          have n46 : ((x : Int) != 46) = true := by simp; omega
          have n58 : ((x : Int) != 58) = true := by simp; omega
          clear HN HF HS HA hgo
          go_wp2
          go_ret
          exact ⟨by rw [H.out]; rfl, Below.refl _ _⟩
        · have H : Hid (nameOk s = false) := Lib.hid (by rw [nameOk, HF.out (by rw [HN.out]; simp [within]; omega), Bool.and_false])
          have g97 : decide ((97 : Int) ≤ (x : Int)) = false := by simp; omega
          have g65 : decide ((65 : Int) ≤ (x : Int)) = true := by simp; omega
          have g48 : decide ((48 : Int) ≤ (x : Int)) = true := by simp; omega
          have g122 : decide ((x : Int) ≤ 122) = true := by simp; omega
          have g90 : decide ((x : Int) ≤ 90) = false := by simp; omega
          have g57 : decide ((x : Int) ≤ 57) = false := by simp; omega
          have n45 : ((x : Int) != 45) = true := by simp; omega
          have n95 : ((x : Int) != 95) = true := by simp; omega
          have n46 : ((x : Int) != 46) = true := by simp; omega
          have n58 : ((x : Int) != 58) = true := by simp; omega
          clear HN HF HS HA hgo
          go_wp2
          go_ret
          exact ⟨by rw [H.out]; rfl, Below.refl _ _⟩
        · have H : Hid (nameOk s = false) := Lib.hid (by rw [nameOk, HF.out (by rw [HN.out]; simp [within]; omega), Bool.and_false])
          obtain rfl : x = 96 := by omega
          clear HN HF HS HA hgo
          go_wp2
          go_ret
          exact ⟨by rw [H.out]; rfl, Below.refl _ _⟩
        · have H : Hid (nameOk s = false) := Lib.hid (by rw [nameOk, HF.out (by rw [HN.out]; simp [within]; omega), Bool.and_false])
          have g97 : decide ((97 : Int) ≤ (x : Int)) = true := by simp; omega
          have g65 : decide ((65 : Int) ≤ (x : Int)) = true := by simp; omega
          have g48 : decide ((48 : Int) ≤ (x : Int)) = true := by simp; omega
          have g122 : decide ((x : Int) ≤ 122) = false := by simp; omega
          have g90 : decide ((x : Int) ≤ 90) = false := by simp; omega
          have g57 : decide ((x : Int) ≤ 57) = false := by simp; omega
          have n45 : ((x : Int) != 45) = true := by simp; omega
          have n95 : ((x : Int) != 95) = true := by simp; omega
          have n46 : ((x : Int) != 46) = true := by simp; omega
          have n58 : ((x : Int) != 58) = true := by simp; omega
          clear HN HF HS HA hgo
          go_wp2
          go_ret
          exact ⟨by rw [H.out]; rfl, Below.refl _ _⟩
      · have H : Hid (nameOk s = true) := Lib.hid (by
          have h := HA.out
          rw [List.take_of_length_le (by rw [← Lib.size_eq]; omega)] at h
          rw [nameOk, h]; simpa using hbig)
        clear HA
        go_wp2
        go_ret
        exact ⟨by rw [H.out]; rfl, Below.refl _ _⟩
  · have H : Hid (nameOk s = false) := Lib.hid (by rw [nameOk]; simp; omega)
    go_enter Tryd.func26, Tryd.ntmps26
    go_wp2
    go_ret
    exact ⟨by rw [H.out]; rfl, Below.refl _ _⟩
end Go.Proofs.YtnaplfekhjjknaaDoor
