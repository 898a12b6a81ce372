/-
  text.Name answers whether a text has at most 127 bytes, each of which a name may have; nothing that was there is changed. No condition.
-/
import Derived.Test.YtnaplfekhjjknaaDoorWStrings
namespace Go.Proofs.YtnaplfekhjjknaaDoor
open Go.RowKit

/-- a byte of a name, and a name -/
def within (x a b : Int) : Bool := decide (a ≤ x) && decide (x ≤ b)
def isMark (c : UInt8) : Bool := c == 45 || c == 95 || c == 46 || c == 58
def nameByte (c : UInt8) : Bool := within c.toNat 97 122 || within c.toNat 65 90 || within c.toNat 48 57 || isMark c
def nameOk (s : ByteArray) : Bool := decide (s.size ≤ 127) && s.data.toList.all nameByte

theorem within_any (s : ByteArray) (B : Nat) (i : Nat) (a b : Int) (w : World) (hi : i < s.size) (hc : w.cell? ⟨B, 0, none⟩ = some (.string s)) :
    Calls Tryd.prog 35 #[.int .i64 i, .int .u8 a, .int .u8 b, .pointer (some ⟨B, 0, none⟩)] w fun e w' => e = .returned (.bool (within (s[i]'hi).toNat a b)) ∧ w = w' := by
  have hd : within (s[i]'hi).toNat a b = (decide (a ≤ ((s[i]'hi).toNat : Int)) && decide (((s[i]'hi).toNat : Int) ≤ b)) := rfl
  rw [hd]
  cases h1 : decide (a ≤ ((s[i]'hi).toNat : Int))
  all_goals
    go_enter Tryd.func35, Tryd.ntmps35
    go_wp2
    go_ret
    exact ⟨rfl, rfl⟩

theorem mark_idx (c : UInt8) : decide (Lib.indexByte [45, 95, 46, 58] c < 0) = !isMark c := by
  simp only [Lib.indexByte, isMark]
  repeat' split
  all_goals simp_all
  all_goals (try omega)
  all_goals (rename_i h1 h2 h3 h4; exact ⟨⟨⟨fun e => h1 e.symm, fun e => h2 e.symm⟩, fun e => h3 e.symm⟩, fun e => h4 e.symm⟩)

theorem take_all_succ (s : ByteArray) (p : UInt8 → Bool) (k : Nat) (h : k < s.size) : (s.data.toList.take (k + 1)).all p = ((s.data.toList.take k).all p && p (s[k]'h)) := by
  rw [List.take_succ_eq_append_getElem (by simpa using h), List.all_append]
  simp
  rfl
theorem not_all_of {s : ByteArray} {p : UInt8 → Bool} {k : Nat} (h : k < s.size) (hp : p (s[k]'h) = false) : s.data.toList.all p = false := by
  rw [List.all_eq_false]
  refine ⟨s[k]'h, ?_, by simp [hp]⟩
  have : s[k]'h = s.data.toList[k]'(by simpa using h) := by simp; rfl
  rw [this]
  exact List.getElem_mem _

set_option maxHeartbeats 1000000 in
theorem name_any (s : ByteArray) (w : World) :
    Calls Tryd.prog 25 #[.string s] w fun e w' => e = .returned (.bool (nameOk s)) ∧ Below w.heap.size w w' := by
  by_cases hbig : s.size ≤ 127
  · have hcell : (w.alloc (.cells #[.string s] 9)).cell? ⟨w.heap.size, 0, none⟩ = some (.string s) := by rw [World.cell?_alloc_new]; rfl
    have hmf : ∀ (p : Value) (w : World), (Instr.makeFunc (.func 35) #[] #[p]).run Tryd.prog w = .ok (.func (.func 35) #[] #[p]) w := fun _ _ => by kernel_rfl
    go_enter Tryd.func25, Tryd.ntmps25
    go_wp2
    go_loop [13] (fun v => ∃ k : Nat, k ≤ s.size ∧ v = .int .i64 k ∧ Hid ((s.data.toList.take k).all nameByte = true)) (fun v => s.size - (intOf v).toNat)
    case atStart => exact ⟨0, by omega, rfl, Lib.hid (by simp)⟩
    case round =>
      obtain ⟨k, hk, rfl, HA⟩ := hrel
      by_cases hlt : k < s.size
      · have HS := Lib.hid (take_all_succ s nameByte k hlt)
        have HN := Lib.hid (show nameByte (s[k]'hlt) = (within (s[k]'hlt).toNat 97 122 || within (s[k]'hlt).toNat 65 90 || within (s[k]'hlt).toNat 48 57 || isMark (s[k]'hlt)) from rfl)
        have HM := Lib.hid (mark_idx (s[k]'hlt))
        have HF := Lib.hid (fun hp => not_all_of (s := s) (p := nameByte) hlt hp)
        have c1 := within_any s w.heap.size k 97 122 _ hlt hcell
        have c2 := within_any s w.heap.size k 65 90 _ hlt hcell
        have c3 := within_any s w.heap.size k 48 57 _ hlt hcell
        clear hcell
        generalize within (s[k]'hlt).toNat 97 122 = l1 at HN c1
        generalize within (s[k]'hlt).toNat 65 90 = l2 at HN c2
        generalize within (s[k]'hlt).toNat 48 57 = l3 at HN c3
        have hgo : nameByte (s[k]'hlt) = true → Hid ((s.data.toList.take (k + 1)).all nameByte = true) := fun h => Lib.hid (by rw [HS.out, HA.out, h]; rfl)
        go_wp2_with fail
        refine c1.mono ?_
        rintro e w1 ⟨rfl, rfl⟩
        clear c1
        cases l1
        · go_wp2_with fail
          refine c2.mono ?_
          rintro e w1 ⟨rfl, rfl⟩
          clear c2
          cases l2
          · go_wp2_with fail
            refine c3.mono ?_
            rintro e w1 ⟨rfl, rfl⟩
            clear c3
            cases l3
            · go_wp2_with fail
              refine (indexByte_any _ _ _).mono ?_
              rintro e w1 ⟨rfl, rfl⟩
              have e1 : Lib.indexByte (⟨#[45, 95, 46, 58]⟩ : ByteArray).data.toList (((s[k]'hlt).toNat : Int)).toNat.toUInt8 = Lib.indexByte [45, 95, 46, 58] (s[k]'hlt) := by simp
              rw [e1]
              clear e1
              generalize Lib.indexByte [45, 95, 46, 58] (s[k]'hlt) = x at HM ⊢
              cases hm : isMark (s[k]'hlt)
              · have hx : x < 0 := by have h := HM.out; rw [hm] at h; simpa using h
                have H : Hid (nameOk s = false) := Lib.hid (by rw [nameOk, HF.out (by rw [HN.out, hm]; rfl), Bool.and_false])
                clear HM HN HF HS HA hgo
                go_wp2
                go_ret
                exact ⟨by rw [H.out]; rfl, (Below.refl _ _).alloc (Nat.le_refl _) _⟩
              · have hx : 0 ≤ x := by have h := HM.out; rw [hm] at h; simp at h; omega
                have hn := hgo (by rw [HN.out, hm]; rfl)
                clear HM HN HF HS HA hgo
                go_wp2
                go_round
                case rel => exact ⟨k + 1, by omega, by go_num, hn⟩
                case measure => simp [intOf]; omega
            · go_wp2
              go_round
              case rel => exact ⟨k + 1, by omega, by go_num, hgo (by rw [HN.out]; rfl)⟩
              case measure => simp [intOf]; omega
          · go_wp2_with fail
            refine c3.mono ?_
            rintro e w1 ⟨rfl, rfl⟩
            clear c3
            cases l3
            · go_wp2
              go_round
              case rel => exact ⟨k + 1, by omega, by go_num, hgo (by rw [HN.out]; rfl)⟩
              case measure => simp [intOf]; omega
            · go_wp2
              go_round
              case rel => exact ⟨k + 1, by omega, by go_num, hgo (by rw [HN.out]; rfl)⟩
              case measure => simp [intOf]; omega
        · go_wp2_with fail
          refine c3.mono ?_
          rintro e w1 ⟨rfl, rfl⟩
          clear c3
          cases l3
          · go_wp2
            go_round
            case rel => exact ⟨k + 1, by omega, by go_num, hgo (by rw [HN.out]; rfl)⟩
            case measure => simp [intOf]; omega
          · go_wp2
            go_round
            case rel => exact ⟨k + 1, by omega, by go_num, hgo (by rw [HN.out]; rfl)⟩
            case measure => simp [intOf]; omega
      · have H : Hid (nameOk s = true) := Lib.hid (by
          have h := HA.out
          rw [List.take_of_length_le (by rw [← Lib.size_eq]; omega)] at h
          rw [nameOk, h]; simpa using hbig)
        clear HA
        go_wp2
        go_ret
        exact ⟨by rw [H.out]; rfl, (Below.refl _ _).alloc (Nat.le_refl _) _⟩
  · have H : Hid (nameOk s = false) := Lib.hid (by rw [nameOk]; simp; omega)
    go_enter Tryd.func25, Tryd.ntmps25
    go_wp2
    go_ret
    exact ⟨by rw [H.out]; rfl, (Below.refl _ _).alloc (Nat.le_refl _) _⟩
end Go.Proofs.YtnaplfekhjjknaaDoor
