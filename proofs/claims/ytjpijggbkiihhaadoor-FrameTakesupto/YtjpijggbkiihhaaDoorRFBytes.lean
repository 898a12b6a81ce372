/-
  The document's own Bytes and Begins of chapter 4 answer as the program's; nothing that was there is changed. No condition.
-/
import Derived.Test.YtjpijggbkiihhaaDoorRFRight
import Derived.Test.YtjpijggbkiihhaaDoorLFrameBegins
namespace Go.Proofs.YtjpijggbkiihhaaDoor
open Go.RowKit

theorem conv_byte (w : World) (x : Int) :
    (convert 54 9 (.slice (some ⟨w.heap.size, 0, none⟩) 1 1)).run Tryd.prog (w.alloc (.cells #[.int .u8 x] 5)) = .ok (.string ⟨#[UInt8.ofNat x.toNat]⟩) (w.alloc (.cells #[.int .u8 x] 5)) := conv_own w [x] 1
theorem put_one {t : Int} (h : t = 1 ∨ t = 2 ∨ t = 3 ∨ t = 8) : putR 1 t = ⟨#[UInt8.ofNat t.toNat]⟩ := by
  rcases h with rfl | rfl | rfl | rfl <;> decide

set_option maxHeartbeats 2000000 in
theorem rbytes_ok (f : Fr) (w : World) (hr : frRight f = true) :
    Calls Tryd.prog 12 #[encFr f] w fun e w' => e = .returned (.tuple #[.string (frB f), .int .i64 0]) ∧ Below w.heap.size w w' := by
  obtain ⟨-, ht, hc0, hc1, hd⟩ := frRight_parts hr
  obtain ⟨o1, o2, o3⟩ := fr_puts hr
  have x0 := Bx.new w 23 [.int .i64 f.t, .int .i64 f.c, .string f.d]
  have hb0 : Below w.heap.size w (w.alloc (.cells [.int .i64 f.t, .int .i64 f.c, .string f.d].toArray 23)) := (Below.refl _ _).alloc (Nat.le_refl _) _
  have r1 := rright_any f (w.alloc (.cells [.int .i64 f.t, .int .i64 f.c, .string f.d].toArray 23))
  have HB := Lib.hid (show frB f = (⟨#[UInt8.ofNat f.t.toNat]⟩ : ByteArray) ++ putR 2 f.c ++ putR 4 f.d.size ++ f.d ++ ⟨#[206]⟩ by
    unfold frB
    rw [layR_of o3, put_one ht, show putR 1 206 = ⟨#[206]⟩ by decide]
    simp only [ba_assoc])
  have hcv := conv_byte
  have s2 := putR_size o2
  have s3 : ((putR 4 f.d.size).size : Int) = 4 := putR_size o3
  have e2 := putE_of o2
  have e3 : putE 4 f.d.size = 0 := putE_of o3
  have ht0 : 0 ≤ f.t ∧ f.t ≤ 8 := by omega
  clear o1 o2 o3
  unfold encFr at r1 ⊢
  rw [hr] at r1
  clear hr ht
  obtain ⟨t, c, d⟩ := f
  dsimp only at *
  go_enter Tryd.func12, Tryd.ntmps12
  go_wp2_with fail
  refine r1.mono ?_
  rintro e w1 ⟨rfl, hb⟩
  have x1 := x0.kept hb
  have hb1 := hb0.trans (hb.mono hb0.size)
  clear x0 hb0 hb r1
  have a1 := x1.cell 1 (by simp)
  dsimp only [List.getElem_cons_zero, List.getElem_cons_succ] at a1
  go_wp2_with fail
  refine (rput_any 2 c _ hc0 (by omega)).mono ?_
  rintro e w3 ⟨rfl, hb⟩
  rw [e2]
  clear e2 a1
  have x3 := x1.kept hb
  have hb3 := hb1.trans (hb.mono hb1.size)
  clear x1 hb1 hb
  have a2 := x3.cell 2 (by simp)
  dsimp only [List.getElem_cons_zero, List.getElem_cons_succ] at a2
  go_wp2_with fail
  refine (rput_any 4 d.size _ (by omega) (by omega)).mono ?_
  rintro e w4 ⟨rfl, hb⟩
  rw [e3]
  clear e3 a2
  have x4 := x3.kept hb
  have hb4 := hb3.trans (hb.mono hb3.size)
  clear x3 hb3 hb
  have a0 := x4.cell 0 (by simp)
  have a2 := (x4.alloc (.cells #[.int .u8 t] 5)).cell 2 (by simp)
  dsimp only [List.getElem_cons_zero, List.getElem_cons_succ] at a0 a2
  have hb5 := hb4.alloc hb4.size (.cells #[.int .u8 t] 5)
  clear x4
  generalize putR 2 c = p2 at HB s2 ⊢
  generalize putR 4 d.size = p3 at HB s3 ⊢
  have z1 : (⟨#[UInt8.ofNat t.toNat]⟩ : ByteArray).size + p2.size ≤ 9223372036854775807 := by have : (⟨#[UInt8.ofNat t.toNat]⟩ : ByteArray).size = 1 := rfl; omega
  go_wp2
  go_ret2
  exact ⟨by rw [HB.out]; rfl, hb5⟩
theorem rbytes_bad (f : Fr) (w : World) (hr : frRight f = false) :
    Calls Tryd.prog 12 #[encFr f] w fun e w' => e = .returned (.tuple #[.string ⟨#[]⟩, .int .i64 1]) ∧ Below w.heap.size w w' := by
  have hb0 : Below w.heap.size w (w.alloc (.cells [.int .i64 f.t, .int .i64 f.c, .string f.d].toArray 23)) := (Below.refl _ _).alloc (Nat.le_refl _) _
  have r1 := rright_any f (w.alloc (.cells [.int .i64 f.t, .int .i64 f.c, .string f.d].toArray 23))
  rw [hr] at r1
  unfold encFr at r1 ⊢
  go_enter Tryd.func12, Tryd.ntmps12
  go_wp2_with fail
  refine r1.mono ?_
  rintro e w1 ⟨rfl, hb⟩
  go_wp2
  go_ret2
  exact ⟨rfl, hb0.trans (hb.mono hb0.size)⟩
theorem rbytes_any (f : Fr) (w : World) :
    Calls Tryd.prog 12 #[encFr f] w fun e w' => e = .returned (.tuple #[.string (frBytes f), .int .i64 (frBytesE f)]) ∧ Below w.heap.size w w' := by
  cases hr : frRight f
  · refine (rbytes_bad f w hr).mono ?_
    rintro e w1 ⟨rfl, hb⟩
    exact ⟨by simp [frBytes, frBytesE, hr], hb⟩
  · refine (rbytes_ok f w hr).mono ?_
    rintro e w1 ⟨rfl, hb⟩
    exact ⟨by simp [frBytes, frBytesE, hr], hb⟩

set_option maxRecDepth 100000 in
set_option maxHeartbeats 4000000 in
theorem rbegins_any (s : ByteArray) (w : World) :
    Calls Tryd.prog 18 #[.string s] w fun e w' => e = .returned (.tuple #[.string (bgR s), .int .i64 (bgE s)]) ∧ Below w.heap.size w w' := by
  go_enter Tryd.func18, Tryd.ntmps18
  go_wp2
  go_loopw [4] (fun v wr => ∃ k : Nat, v = .int .i64 k ∧ k ≤ 8 ∧ k ≤ s.size ∧ Hid (samePre s k) ∧ Below w.heap.size w wr) (fun v _ => 8 - (intOf v).toNat)
  case atStart => exact ⟨0, rfl, by omega, by omega, Lib.hid (samePre_zero s), Below.refl _ _⟩
  case round =>
    obtain ⟨k, rfl, k8, ks, HS, hb⟩ := hrel
    by_cases c8 : k < 8
    · by_cases cs : k < s.size
      · by_cases he : s[k] = hdr[k]'c8
        · have HN := Lib.hid (samePre_succ HS.out c8 cs (by rw [same_byte s k cs, he, ← same_byte hdr k c8]))
          have hv : ((s[k].toNat : Int) != (((hdr[k]'c8).toNat : Nat) : Int)) = false := by rw [he]; simp
          clear he
          go_wp2
          go_quiet (fail)
          go_wp2
          go_roundw
          case rel => exact ⟨k + 1, by go_num, by omega, by omega, HN, below_drewN hb _⟩
          case measure => simp [intOf]; omega
        · have hw2 := bg_wrong c8 cs (by
            rw [same_byte s k cs, same_byte hdr k c8]
            exact he)
          have HB := Lib.hid (show bgE s = 3 ∧ bgR s = ⟨#[]⟩ by simp [bgE, bgR, hw2.1, hw2.2])
          have hv : ((s[k].toNat : Int) != (((hdr[k]'c8).toNat : Nat) : Int)) = true := by
            rw [bne_iff_ne]
            intro h2
            apply he
            exact UInt8.toNat_inj.1 (by omega)
          clear he hw2
          go_wp2
          go_quiet (fail)
          go_wp2
          go_ret2
          exact ⟨by rw [HB.out.1, HB.out.2]; rfl, below_drewN hb _⟩
      · obtain rfl : k = s.size := by omega
        have hw2 := bg_short HS.out c8
        have HB := Lib.hid (show bgE s = 2 ∧ bgR s = ⟨#[]⟩ by simp [bgE, bgR, hw2.1, hw2.2])
        clear hw2
        go_wp2
        go_ret2
        exact ⟨by rw [HB.out.1, HB.out.2]; rfl, hb⟩
    · obtain rfl : k = 8 := by omega
      have hw2 := bg_whole HS.out
      have HB := Lib.hid (show bgE s = 0 ∧ bgR s = s.extract 8 s.size by simp [bgE, bgR, hw2])
      clear hw2
      go_wp2
      go_ret2
      exact ⟨by rw [HB.out.1, HB.out.2]; rfl, hb⟩
end Go.Proofs.YtjpijggbkiihhaaDoor
