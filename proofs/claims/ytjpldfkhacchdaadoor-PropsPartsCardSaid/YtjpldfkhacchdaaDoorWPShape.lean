/-
  props.shape and beginning answer as the plain functions say; nothing that was there is changed. Conditions: the package num's table of widths holds 1, 2, 4, 8; size and flags are uint64s.
-/
import Derived.Test.YtjpldfkhacchdaaDoorWOnes
import Derived.Test.YtjpldfkhacchdaaDoorJMem
import Derived.BigQuiet
import Derived.Deep.QuietTactic
namespace Go.Proofs.YtjpldfkhacchdaaDoor
open Go.RowKit

def encH (h : He) (A : Option Addr) (cap : Nat) : Value := .agg #[.int .i64 h.c, .int .u64 h.z, .int .u64 h.f, .slice A h.l.length cap]
def cellsH (h : He) (A : Option Addr) (cap : Nat) : List Value := [.int .i64 h.c, .int .u64 h.z, .int .u64 h.f, .slice A h.l.length cap]

theorem flags_test {f : Int} (h0 : 0 ≤ f) (h1 : f < 18446744073709551616) : (bits BinOp.andNot IntKind.u64 f 65532 != 0) = !(decide (f < 65536 ∧ f % 4 = 0)) := by
  obtain ⟨a, rfl⟩ : ∃ a : Nat, f = (a : Int) := ⟨f.toNat, by omega⟩
  have ha : a < 18446744073709551616 := by omega
  have e : bits BinOp.andNot IntKind.u64 (a : Int) 65532 = ((a &&& 18446744073709486083 : Nat) : Int) := u64_andNot_nat a 65532 ha (by decide)
  rw [e]
  have x1 : (a &&& 18446744073709486083) % 2 ^ 16 = a % 4 := by
    rw [Nat.and_mod_two_pow]
    have : (18446744073709486083 : Nat) % 2 ^ 16 = 2 ^ 2 - 1 := by decide
    rw [this, Nat.and_two_pow_sub_one_eq_mod]
    omega
  have x2 : (a &&& 18446744073709486083) / 2 ^ 16 = a / 65536 := by
    rw [← Nat.shiftRight_eq_div_pow, Nat.shiftRight_and_distrib]
    have : (18446744073709486083 : Nat) >>> 16 = 2 ^ 48 - 1 := by decide
    rw [this, Nat.and_two_pow_sub_one_eq_mod, Nat.shiftRight_eq_div_pow]
    omega
  generalize (a &&& 18446744073709486083) = x at x1 x2
  by_cases h : (a : Int) < 65536 ∧ (a : Int) % 4 = 0
  · have : x = 0 := by omega
    subst this
    simp [h]
  · have : ¬ x = 0 := by intro e; subst e; apply h; omega
    have t : ((x : Int) != 0) = true := by simp; omega
    rw [t, decide_eq_false h]
    rfl
theorem bit_num (f : Int) (i : Fin 14) : (if bitP f i = true then 1 else 0) = f.toNat / 2 ^ (15 - i.1) % 2 := by
  unfold bitP
  by_cases h : f.toNat / 2 ^ (15 - i.1) % 2 = 1
  · simp [h]
  · have : f.toNat / 2 ^ (15 - i.1) % 2 = 0 := by omega
    simp [this]
theorem wh_popc {f : Int} (h2 : f % 4 = 0) : (wh f).length = popc 16 f.toNat := by
  have e : List.finRange 14 = [0, 1, 2, 3, 4, 5, 6, 7, 8, 9, 10, 11, 12, 13] := by decide
  have ec : (wh f).length = List.countP (bitP f) (List.finRange 14) := List.countP_eq_length_filter.symm
  rw [ec, e]
  simp only [List.countP_cons, List.countP_nil, bit_num]
  simp only [popc, Nat.div_div_eq_div_mul]
  simp only [Nat.reduceMul]
  have b0 : f.toNat % 2 = 0 := by omega
  have b1 : f.toNat / 2 % 2 = 0 := by omega
  rw [b0, b1]
  clear b0 b1 h2 ec e
  show _ + f.toNat / 4 % 2 + f.toNat / 8 % 2 + f.toNat / 16 % 2 + f.toNat / 32 % 2 + f.toNat / 64 % 2 + f.toNat / 128 % 2 + f.toNat / 256 % 2 + f.toNat / 512 % 2 + f.toNat / 1024 % 2 + f.toNat / 2048 % 2 + f.toNat / 4096 % 2 + f.toNat / 8192 % 2 + f.toNat / 16384 % 2 + f.toNat / 32768 % 2 = _
  generalize f.toNat / 4 % 2 = a2
  generalize f.toNat / 8 % 2 = a3
  generalize f.toNat / 16 % 2 = a4
  generalize f.toNat / 32 % 2 = a5
  generalize f.toNat / 64 % 2 = a6
  generalize f.toNat / 128 % 2 = a7
  generalize f.toNat / 256 % 2 = a8
  generalize f.toNat / 512 % 2 = a9
  generalize f.toNat / 1024 % 2 = a10
  generalize f.toNat / 2048 % 2 = a11
  generalize f.toNat / 4096 % 2 = a12
  generalize f.toNat / 8192 % 2 = a13
  generalize f.toNat / 16384 % 2 = a14
  generalize f.toNat / 32768 % 2 = a15
  omega

theorem put8_ok {v : Int} (h : 0 ≤ v ∧ v < 18446744073709551616) : putOk 8 v = true := by
  unfold putOk
  simp [isW]
  omega
theorem put2_okP {v : Int} (h : 0 ≤ v ∧ v < 65536) : putOk 2 v = true := by
  unfold putOk
  simp [isW]
  omega
set_option maxHeartbeats 1000000 in
theorem shape_any (h : He) (A : Option Addr) (cap : Nat) (w : World) (hh : wfH h) :
    Calls Tryd.prog 22 #[encH h A cap] w fun e w' => e = .returned (.int .i64 (shE h)) ∧ Below w.heap.size w w' := by
  obtain ⟨⟨z0, z1⟩, ⟨f0, f1⟩, -⟩ := hh
  have hb0 : Below w.heap.size w (w.alloc (.cells #[.int .i64 h.c, .int .u64 h.z, .int .u64 h.f, .slice A h.l.length cap] 25)) := (Below.refl _ w).alloc (Nat.le_refl _) _
  have ht := flags_test f0 f1
  have HS : Hid (shE h = if shOk h then (if 65536 < h.z then 4 else 0) else 7) := Lib.hid rfl
  by_cases hc : h.c = 60
  · have tc : (h.c != 60) = false := by simp [hc]
    by_cases hf : h.f < 65536 ∧ h.f % 4 = 0
    · rw [decide_eq_true hf, Bool.not_true] at ht
      have hO := fun W => ones_any h.f.toNat W (by omega)
      have hp := wh_popc hf.2
      rw [← hp, show ((h.f.toNat : Nat) : Int) = h.f by omega] at hO
      by_cases hl : (wh h.f).length = h.l.length
      · have ok : shOk h := ⟨hc, hf.1, hf.2, hl⟩
        have tl : (((wh h.f).length : Int) != (h.l.length : Int)) = false := by simp [hl]
        by_cases hz : 65536 < h.z
        · have td : decide ((65536 : Int) < h.z) = true := by simpa using hz
          have HF : Hid (shE h = 4) := Lib.hid (by rw [HS.out, if_pos ok, if_pos hz])
          generalize shE h = x at HF ⊢
          generalize (wh h.f).length = nw at hO tl
          clear HS ok hp hl hf hc hz
          obtain ⟨c, z, f, l⟩ := h
          unfold encH
          dsimp only at *
          go_enter Tryd.func22, Tryd.ntmps22
          go_wp2_with fail
          go_quiet ((go_at_call 45; exact Calls.quiet_of_same (hO _)))
          go_wp2
          go_ret
          exact ⟨by rw [HF.out]; rfl, below_drewN hb0 _⟩
        · have td : decide ((65536 : Int) < h.z) = false := by simpa using hz
          have HF : Hid (shE h = 0) := Lib.hid (by rw [HS.out, if_pos ok, if_neg hz])
          generalize shE h = x at HF ⊢
          generalize (wh h.f).length = nw at hO tl
          clear HS ok hp hl hf hc hz
          obtain ⟨c, z, f, l⟩ := h
          unfold encH
          dsimp only at *
          go_enter Tryd.func22, Tryd.ntmps22
          go_wp2_with fail
          go_quiet ((go_at_call 45; exact Calls.quiet_of_same (hO _)))
          go_wp2
          go_ret
          exact ⟨by rw [HF.out]; rfl, below_drewN hb0 _⟩
      · have tl : (((wh h.f).length : Int) != (h.l.length : Int)) = true := by simp; omega
        have HF : Hid (shE h = 7) := Lib.hid (by rw [HS.out, if_neg (fun k => hl k.2.2.2)])
        generalize shE h = x at HF ⊢
        generalize (wh h.f).length = nw at hO tl
        clear HS hp hl hf hc
        obtain ⟨c, z, f, l⟩ := h
        unfold encH
        dsimp only at *
        go_enter Tryd.func22, Tryd.ntmps22
        go_wp2_with fail
        go_quiet ((go_at_call 45; exact Calls.quiet_of_same (hO _)))
        go_wp2
        go_ret
        exact ⟨by rw [HF.out]; rfl, below_drewN hb0 _⟩
    · rw [decide_eq_false hf, Bool.not_false] at ht
      have HF : Hid (shE h = 7) := Lib.hid (by rw [HS.out, if_neg (fun k => hf ⟨k.2.1, k.2.2.1⟩)])
      generalize shE h = x at HF ⊢
      clear HS hf hc
      obtain ⟨c, z, f, l⟩ := h
      unfold encH
      dsimp only at *
      go_enter Tryd.func22, Tryd.ntmps22
      go_wp2
      go_ret
      exact ⟨by rw [HF.out]; rfl, hb0⟩
  · have tc : (h.c != 60) = true := by simpa using hc
    have HF : Hid (shE h = 7) := Lib.hid (by rw [HS.out, if_neg (fun k => hc k.1)])
    generalize shE h = x at HF ⊢
    clear HS hc ht
    obtain ⟨c, z, f, l⟩ := h
    unfold encH
    dsimp only at *
    go_enter Tryd.func22, Tryd.ntmps22
    go_wp2
    go_ret
    exact ⟨by rw [HF.out]; rfl, hb0⟩

set_option maxHeartbeats 1000000 in
theorem beginning_any (h : He) (A : Option Addr) (cap : Nat) (w : World) (hw : Wid w) (hh : wfH h) (hc : h.c = 60) (hf : h.f < 65536) :
    Calls Tryd.prog 24 #[encH h A cap] w fun e w' => e = .returned (.string (begB h)) ∧ Below w.heap.size w w' := by
  obtain ⟨⟨z0, z1⟩, ⟨f0, f1⟩, -⟩ := hh
  have hb0 : Below w.heap.size w (w.alloc (.cells #[.int .i64 h.c, .int .u64 h.z, .int .u64 h.f, .slice A h.l.length cap] 25)) := (Below.refl _ w).alloc (Nat.le_refl _) _
  have hx := Bx.new w 25 [.int .i64 h.c, .int .u64 h.z, .int .u64 h.f, .slice A h.l.length cap]
  have k2 : putOk 2 h.c = true := by rw [hc]; decide
  have k20 : putOk 2 0 = true := by decide
  have k8 : putOk 8 h.z = true := put8_ok ⟨z0, z1⟩
  have kf : putOk 2 h.f = true := put2_okP ⟨f0, hf⟩
  have s1 := putR_size k2
  have s2 := putR_size k20
  have s3 := putR_size k8
  have s4 := putR_size kf
  have hP1 := fun W hW => put_any 2 h.c W hW (by omega) (by omega)
  have hP2 := fun W hW => put_any 2 0 W hW (by omega) (by omega)
  have hP3 := fun W hW => put_any 8 h.z W hW z0 z1
  have hP4 := fun W hW => put_any 2 h.f W hW f0 f1
  have e1 : IntKind.u64.wrap h.c = h.c := by simp only [IntKind.wrap_u64]; omega
  rw [putE_of k2] at hP1
  rw [putE_of k20] at hP2
  rw [putE_of k8] at hP3
  rw [putE_of kf] at hP4
  have HF : Hid (begB h = putR 2 h.c ++ putR 2 0 ++ putR 8 h.z ++ putR 2 h.f) := Lib.hid rfl
  generalize begB h = r at HF ⊢
  generalize putR 2 h.c = r1 at s1 hP1 HF
  generalize putR 2 0 = r2 at s2 hP2 HF
  generalize putR 8 h.z = r3 at s3 hP3 HF
  generalize putR 2 h.f = r4 at s4 hP4 HF
  clear k2 k20 k8 kf hc hf z0 z1 f0 f1
  obtain ⟨c, z, f, l⟩ := h
  unfold encH
  dsimp only at *
  go_enter Tryd.func24, Tryd.ntmps24
  go_wp2_with fail
  refine (hP1 _ (hw.below hb0)).mono ?_
  rintro e w1 ⟨rfl, hb1⟩
  have hB1 := hb0.trans (hb1.mono hb0.size)
  have hx1 := hx.kept hb1
  clear hP1 hb1 hx hb0
  go_wp2_with fail
  refine (hP2 _ (hw.below hB1)).mono ?_
  rintro e w2 ⟨rfl, hb2⟩
  have hB2 := hB1.trans (hb2.mono hB1.size)
  have hx2 := hx1.kept hb2
  have y1 := hx2.cell 1 (by simp)
  dsimp only [List.getElem_cons_zero, List.getElem_cons_succ] at y1
  clear hP2 hb2 hx1 hB1
  go_wp2_with fail
  refine (hP3 _ (hw.below hB2)).mono ?_
  rintro e w3 ⟨rfl, hb3⟩
  have hB3 := hB2.trans (hb3.mono hB2.size)
  have hx3 := hx2.kept hb3
  have y2 := hx3.cell 2 (by simp)
  dsimp only [List.getElem_cons_zero, List.getElem_cons_succ] at y2
  clear hP3 hb3 hx2 hB2 y1
  go_wp2_with fail
  refine (hP4 _ (hw.below hB3)).mono ?_
  rintro e w4 ⟨rfl, hb4⟩
  have hB4 := hB3.trans (hb4.mono hB3.size)
  clear hP4 hb4 hx3 hB3 y2
  have q1 : r1.size + r2.size ≤ 9223372036854775807 := by omega
  have q2 : (r1 ++ r2).size + r3.size ≤ 9223372036854775807 := by rw [ByteArray.size_append]; omega
  have q3 : (r1 ++ r2 ++ r3).size + r4.size ≤ 9223372036854775807 := by rw [ByteArray.size_append, ByteArray.size_append]; omega
  clear s1 s2 s3 s4
  go_wp2
  go_ret
  exact ⟨by rw [HF.out]; rfl, hB4⟩
end Go.Proofs.YtjpldfkhacchdaaDoor
