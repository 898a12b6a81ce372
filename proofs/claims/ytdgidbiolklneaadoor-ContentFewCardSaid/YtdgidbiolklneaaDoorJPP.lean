/-
  Several texts joined in one file: each says at its own head, below, what it proves, and its conditions.
-/
import Derived.Test.YtdgidbiolklneaaDoorJOnes
import Derived.Test.YtdgidbiolklneaaDoorJMem
import Derived.BigQuiet
import Derived.Deep.QuietTactic
import Derived.Shelf.Abstract
import Derived.Shelf.RegionOpen
import Derived.WalkKit
import Derived.OwnWalkIn
import Derived.TacticsInMore
import Derived.LoopNIn
import Derived.LoopIn
import Derived.Maps.AppendAt
import Derived.Sort.QuietIn
import Derived.Laws.EntriesVeiled
import Derived.Test.YtdgidbiolklneaaDoorMRangeN
import Derived.Test.YtdgidbiolklneaaDoorJMV
/-
  props.shape and beginning answer as the plain functions say; nothing that was there is changed. Conditions: the package num's table of widths holds 1, 2, 4, 8; size and flags are uint64s.
-/
namespace Go.Proofs.YtdgidbiolklneaaDoor
open Go.RowKit

def encH (h : He) (A : Option Addr) (cap : Nat) : Value := .agg #[.int .i64 h.c, .int .u64 h.z, .int .u64 h.f, .slice A h.l.length cap]
def cellsH (h : He) (A : Option Addr) (cap : Nat) : List Value := [.int .i64 h.c, .int .u64 h.z, .int .u64 h.f, .slice A h.l.length cap]

theorem flags_test {f : Int} (h0 : 0 ≤ f) (h1 : f < 18446744073709551616) : (bits BinOp.andNot IntKind.u64 f 65532 != 0) = !(decide (f < 65536 ∧ f % 4 = 0)) := by
  obtain ⟨a, rfl⟩ : ∃ a : Nat, f = (a : Int) := ⟨f.toNat, by omega⟩
  have ha : a < 18446744073709551616 := by omega
  have e : bits BinOp.andNot IntKind.u64 (a : Int) 65532 = ((a &&& 18446744073709486083 : Nat) : Int) := u64_andNot_nat a 65532 ha (by decide)
  rw [e]
  have x1 : (a &&& 18446744073709486083) % 2 ^ 16 = a % 4 := by
    rw [Nat.and_mod_two_pow]
    have : (18446744073709486083 : Nat) % 2 ^ 16 = 2 ^ 2 - 1 := by decide
    rw [this, Nat.and_two_pow_sub_one_eq_mod]
    omega
  have x2 : (a &&& 18446744073709486083) / 2 ^ 16 = a / 65536 := by
    rw [← Nat.shiftRight_eq_div_pow, Nat.shiftRight_and_distrib]
    have : (18446744073709486083 : Nat) >>> 16 = 2 ^ 48 - 1 := by decide
    rw [this, Nat.and_two_pow_sub_one_eq_mod, Nat.shiftRight_eq_div_pow]
    omega
  generalize (a &&& 18446744073709486083) = x at x1 x2
  by_cases h : (a : Int) < 65536 ∧ (a : Int) % 4 = 0
  · have : x = 0 := by omega
    subst this
    simp [h]
  · have : ¬ x = 0 := by intro e; subst e; apply h; omega
    have t : ((x : Int) != 0) = true := by simp; omega
    rw [t, decide_eq_false h]
    rfl
theorem bit_num (f : Int) (i : Fin 14) : (if bitP f i = true then 1 else 0) = f.toNat / 2 ^ (15 - i.1) % 2 := by
  unfold bitP
  by_cases h : f.toNat / 2 ^ (15 - i.1) % 2 = 1
  · simp [h]
  · have : f.toNat / 2 ^ (15 - i.1) % 2 = 0 := by omega
    simp [this]
theorem wh_popc {f : Int} (h2 : f % 4 = 0) : (wh f).length = popc 16 f.toNat := by
  have e : List.finRange 14 = [0, 1, 2, 3, 4, 5, 6, 7, 8, 9, 10, 11, 12, 13] := by decide
  have ec : (wh f).length = List.countP (bitP f) (List.finRange 14) := List.countP_eq_length_filter.symm
  rw [ec, e]
  simp only [List.countP_cons, List.countP_nil, bit_num]
  simp only [popc, Nat.div_div_eq_div_mul]
  simp only [Nat.reduceMul]
  have b0 : f.toNat % 2 = 0 := by omega
  have b1 : f.toNat / 2 % 2 = 0 := by omega
  rw [b0, b1]
  clear b0 b1 h2 ec e
  show _ + f.toNat / 4 % 2 + f.toNat / 8 % 2 + f.toNat / 16 % 2 + f.toNat / 32 % 2 + f.toNat / 64 % 2 + f.toNat / 128 % 2 + f.toNat / 256 % 2 + f.toNat / 512 % 2 + f.toNat / 1024 % 2 + f.toNat / 2048 % 2 + f.toNat / 4096 % 2 + f.toNat / 8192 % 2 + f.toNat / 16384 % 2 + f.toNat / 32768 % 2 = _
  generalize f.toNat / 4 % 2 = a2
  generalize f.toNat / 8 % 2 = a3
  generalize f.toNat / 16 % 2 = a4
  generalize f.toNat / 32 % 2 = a5
  generalize f.toNat / 64 % 2 = a6
  generalize f.toNat / 128 % 2 = a7
  generalize f.toNat / 256 % 2 = a8
  generalize f.toNat / 512 % 2 = a9
  generalize f.toNat / 1024 % 2 = a10
  generalize f.toNat / 2048 % 2 = a11
  generalize f.toNat / 4096 % 2 = a12
  generalize f.toNat / 8192 % 2 = a13
  generalize f.toNat / 16384 % 2 = a14
  generalize f.toNat / 32768 % 2 = a15
  omega

theorem put8_ok {v : Int} (h : 0 ≤ v ∧ v < 18446744073709551616) : putOk 8 v = true := by
  unfold putOk
  simp [isW]
  omega
theorem put2_okP {v : Int} (h : 0 ≤ v ∧ v < 65536) : putOk 2 v = true := by
  unfold putOk
  simp [isW]
  omega
set_option maxHeartbeats 1000000 in
theorem shape_any (h : He) (A : Option Addr) (cap : Nat) (w : World) (hh : wfH h) :
    Calls Tryd.prog 25 #[encH h A cap] w fun e w' => e = .returned (.int .i64 (shE h)) ∧ Below w.heap.size w w' := by
  obtain ⟨⟨z0, z1⟩, ⟨f0, f1⟩, -⟩ := hh
  have hb0 : Below w.heap.size w (w.alloc (.cells #[.int .i64 h.c, .int .u64 h.z, .int .u64 h.f, .slice A h.l.length cap] 27)) := (Below.refl _ w).alloc (Nat.le_refl _) _
  have ht := flags_test f0 f1
  have HS : Hid (shE h = if shOk h then (if 65536 < h.z then 4 else 0) else 7) := Lib.hid rfl
  by_cases hc : h.c = 60
  · have tc : (h.c != 60) = false := by simp [hc]
    by_cases hf : h.f < 65536 ∧ h.f % 4 = 0
    · rw [decide_eq_true hf, Bool.not_true] at ht
      have hO := fun W => ones_any h.f.toNat W (by omega)
      have hp := wh_popc hf.2
      rw [← hp, show ((h.f.toNat : Nat) : Int) = h.f by omega] at hO
      by_cases hl : (wh h.f).length = h.l.length
      · have ok : shOk h := ⟨hc, hf.1, hf.2, hl⟩
        have tl : (((wh h.f).length : Int) != (h.l.length : Int)) = false := by simp [hl]
        by_cases hz : 65536 < h.z
        · have td : decide ((65536 : Int) < h.z) = true := by simpa using hz
          have HF : Hid (shE h = 4) := Lib.hid (by rw [HS.out, if_pos ok, if_pos hz])
          generalize shE h = x at HF ⊢
          generalize (wh h.f).length = nw at hO tl
          clear HS ok hp hl hf hc hz
          obtain ⟨c, z, f, l⟩ := h
          unfold encH
          dsimp only at *
          go_enter Tryd.func25, Tryd.ntmps25
          go_wp2_with fail
          go_quiet ((go_at_call 38; exact Calls.quiet_of_same (hO _)))
          go_wp2
          go_ret
          exact ⟨by rw [HF.out]; rfl, below_drewN hb0 _⟩
        · have td : decide ((65536 : Int) < h.z) = false := by simpa using hz
          have HF : Hid (shE h = 0) := Lib.hid (by rw [HS.out, if_pos ok, if_neg hz])
          generalize shE h = x at HF ⊢
          generalize (wh h.f).length = nw at hO tl
          clear HS ok hp hl hf hc hz
          obtain ⟨c, z, f, l⟩ := h
          unfold encH
          dsimp only at *
          go_enter Tryd.func25, Tryd.ntmps25
          go_wp2_with fail
          go_quiet ((go_at_call 38; exact Calls.quiet_of_same (hO _)))
          go_wp2
          go_ret
          exact ⟨by rw [HF.out]; rfl, below_drewN hb0 _⟩
      · have tl : (((wh h.f).length : Int) != (h.l.length : Int)) = true := by simp; omega
        have HF : Hid (shE h = 7) := Lib.hid (by rw [HS.out, if_neg (fun k => hl k.2.2.2)])
        generalize shE h = x at HF ⊢
        generalize (wh h.f).length = nw at hO tl
        clear HS hp hl hf hc
        obtain ⟨c, z, f, l⟩ := h
        unfold encH
        dsimp only at *
        go_enter Tryd.func25, Tryd.ntmps25
        go_wp2_with fail
        go_quiet ((go_at_call 38; exact Calls.quiet_of_same (hO _)))
        go_wp2
        go_ret
        exact ⟨by rw [HF.out]; rfl, below_drewN hb0 _⟩
    · rw [decide_eq_false hf, Bool.not_false] at ht
      have HF : Hid (shE h = 7) := Lib.hid (by rw [HS.out, if_neg (fun k => hf ⟨k.2.1, k.2.2.1⟩)])
      generalize shE h = x at HF ⊢
      clear HS hf hc
      obtain ⟨c, z, f, l⟩ := h
      unfold encH
      dsimp only at *
      go_enter Tryd.func25, Tryd.ntmps25
      go_wp2
      go_ret
      exact ⟨by rw [HF.out]; rfl, hb0⟩
  · have tc : (h.c != 60) = true := by simpa using hc
    have HF : Hid (shE h = 7) := Lib.hid (by rw [HS.out, if_neg (fun k => hc k.1)])
    generalize shE h = x at HF ⊢
    clear HS hc ht
    obtain ⟨c, z, f, l⟩ := h
    unfold encH
    dsimp only at *
    go_enter Tryd.func25, Tryd.ntmps25
    go_wp2
    go_ret
    exact ⟨by rw [HF.out]; rfl, hb0⟩

set_option maxHeartbeats 1000000 in
theorem beginning_any (h : He) (A : Option Addr) (cap : Nat) (w : World) (hw : Wid w) (hh : wfH h) (hc : h.c = 60) (hf : h.f < 65536) :
    Calls Tryd.prog 27 #[encH h A cap] w fun e w' => e = .returned (.string (begB h)) ∧ Below w.heap.size w w' := by
  obtain ⟨⟨z0, z1⟩, ⟨f0, f1⟩, -⟩ := hh
  have hb0 : Below w.heap.size w (w.alloc (.cells #[.int .i64 h.c, .int .u64 h.z, .int .u64 h.f, .slice A h.l.length cap] 27)) := (Below.refl _ w).alloc (Nat.le_refl _) _
  have hx := Bx.new w 27 [.int .i64 h.c, .int .u64 h.z, .int .u64 h.f, .slice A h.l.length cap]
  have k2 : putOk 2 h.c = true := by rw [hc]; decide
  have k20 : putOk 2 0 = true := by decide
  have k8 : putOk 8 h.z = true := put8_ok ⟨z0, z1⟩
  have kf : putOk 2 h.f = true := put2_okP ⟨f0, hf⟩
  have s1 := putR_size k2
  have s2 := putR_size k20
  have s3 := putR_size k8
  have s4 := putR_size kf
  have hP1 := fun W hW => put_any 2 h.c W hW (by omega) (by omega)
  have hP2 := fun W hW => put_any 2 0 W hW (by omega) (by omega)
  have hP3 := fun W hW => put_any 8 h.z W hW z0 z1
  have hP4 := fun W hW => put_any 2 h.f W hW f0 f1
  have e1 : IntKind.u64.wrap h.c = h.c := by simp only [IntKind.wrap_u64]; omega
  rw [putE_of k2] at hP1
  rw [putE_of k20] at hP2
  rw [putE_of k8] at hP3
  rw [putE_of kf] at hP4
  have HF : Hid (begB h = putR 2 h.c ++ putR 2 0 ++ putR 8 h.z ++ putR 2 h.f) := Lib.hid rfl
  generalize begB h = r at HF ⊢
  generalize putR 2 h.c = r1 at s1 hP1 HF
  generalize putR 2 0 = r2 at s2 hP2 HF
  generalize putR 8 h.z = r3 at s3 hP3 HF
  generalize putR 2 h.f = r4 at s4 hP4 HF
  clear k2 k20 k8 kf hc hf z0 z1 f0 f1
  obtain ⟨c, z, f, l⟩ := h
  unfold encH
  dsimp only at *
  go_enter Tryd.func27, Tryd.ntmps27
  go_wp2_with fail
  refine (hP1 _ (hw.below hb0)).mono ?_
  rintro e w1 ⟨rfl, hb1⟩
  have hB1 := hb0.trans (hb1.mono hb0.size)
  have hx1 := hx.kept hb1
  clear hP1 hb1 hx hb0
  go_wp2_with fail
  refine (hP2 _ (hw.below hB1)).mono ?_
  rintro e w2 ⟨rfl, hb2⟩
  have hB2 := hB1.trans (hb2.mono hB1.size)
  have hx2 := hx1.kept hb2
  have y1 := hx2.cell 1 (by simp)
  dsimp only [List.getElem_cons_zero, List.getElem_cons_succ] at y1
  clear hP2 hb2 hx1 hB1
  go_wp2_with fail
  refine (hP3 _ (hw.below hB2)).mono ?_
  rintro e w3 ⟨rfl, hb3⟩
  have hB3 := hB2.trans (hb3.mono hB2.size)
  have hx3 := hx2.kept hb3
  have y2 := hx3.cell 2 (by simp)
  dsimp only [List.getElem_cons_zero, List.getElem_cons_succ] at y2
  clear hP3 hb3 hx2 hB2 y1
  go_wp2_with fail
  refine (hP4 _ (hw.below hB3)).mono ?_
  rintro e w4 ⟨rfl, hb4⟩
  have hB4 := hB3.trans (hb4.mono hB3.size)
  clear hP4 hb4 hx3 hB3 y2
  have q1 : r1.size + r2.size ≤ 9223372036854775807 := by omega
  have q2 : (r1 ++ r2).size + r3.size ≤ 9223372036854775807 := by rw [ByteArray.size_append]; omega
  have q3 : (r1 ++ r2 ++ r3).size + r4.size ≤ 9223372036854775807 := by rw [ByteArray.size_append, ByteArray.size_append]; omega
  clear s1 s2 s3 s4
  go_wp2
  go_ret
  exact ⟨by rw [HF.out]; rfl, hB4⟩
end Go.Proofs.YtdgidbiolklneaaDoor

/-
  props.told goes through the properties that flags tell, till it is told to stop. Condition: flags are a uint64.
-/
namespace Go.Proofs.YtdgidbiolklneaaDoor
open Go.RowKit Go.Shelf
attribute [local go_sem] Oper.semAt_some

/-- what a round keeps: the box of the flags -/
def KeepF (Bf : Nat) (W W' : World) : Prop := ∀ v, Boxed W Bf 25 v → Boxed W' Bf 25 v

set_option maxRecDepth 100000 in
set_option maxHeartbeats 2000000 in
theorem told1_in (l Bf : Nat) (f : Int) (h0 : 0 ≤ f) (h1 : f < 18446744073709551616) (n : Nat) (J Jx : List (Fin 14) → World → Prop)
    (hY : ∀ pre x W, J pre W → pre.length < (wh f).length → YieldAt Fence.wide (n - 1) Tryd.prog l #[.int .i64 (x.1 : Int)] W fun e W' =>
      (e = .returned (.bool true) ∧ J (pre ++ [x]) W' ∧ KeepF Bf W W') ∨ (e = .returned (.bool false) ∧ Jx (pre ++ [x]) W'))
    (hd : ∀ pre W, J pre W → J pre W.drew)
    (W : World) (hbf : Boxed W Bf 25 (.int .u64 f)) (hJ0 : J [] W) :
    CallsIn Fence.wide n Tryd.prog 62 #[.func (.yield l) #[] #[], .pointer (some ⟨Bf, 0, none⟩)] W fun e W' => (∃ v, e = .returned v) ∧
      ((∃ ys, ys = wh f ∧ J ys W') ∨ (∃ pre, pre <+: wh f ∧ Jx pre W')) := by
  refine callsIn_of_wp Tryd.func62 rfl trivial ?_ rfl
  simp only [Tryd.ntmps62, List.size_toArray, List.length_cons, List.length_nil, Nat.reduceAdd, Nat.reduceSub, Array.replicate_succ, Array.replicate_zero, List.push_toArray, List.append_toArray, List.nil_append, List.cons_append]
  gi_wp2
  gi_loopw [3, 4] (fun p0 p wr => ∃ k : Nat, k ≤ 14 ∧ p = .int .i64 k ∧ Boxed wr Bf 25 (.int .u64 f) ∧ J (whK f k) wr) (fun _ p _ => 14 - (intOf p).toNat)
  case atStart => exact ⟨0, Nat.zero_le _, rfl, hbf, hJ0⟩
  case round =>
    obtain ⟨k, hk, rfl, hb, hJs⟩ := hrel
    by_cases hlt : k < 14
    · have hc := hb.cell
      have hF := fun W => flag_any ⟨k, hlt⟩ W
      have ht := bit_and (f := f) ⟨k, hlt⟩ h0 h1
      have hS := whK_succ f k hlt
      have hJd := hd _ _ hJs
      have hbd : Boxed wr.drew Bf 25 (.int .u64 f) := hb
      have hcd := hbd.cell
      have hmo : Tryd.prog.follows .mixedOrders = true := by kernel_rfl
      have e1 : IntKind.i64.wrap ((k : Int) + 1) = ((k + 1 : Nat) : Int) := by simp only [IntKind.wrap_i64]; omega
      cases hbit : bitP f ⟨k, hlt⟩
      · rw [hbit] at ht hS
        have HS : Hid (whK f (k + 1) = whK f k) := Lib.hid (by simpa using hS)
        clear hS
        dsimp only at hF
        generalize ((flagN ⟨k, hlt⟩ : Nat) : Int) = fl at hF ht
        gi_wp2_with fail
        refine wpIn_region_any hmo ?_
        change wpAnyIn _ _ _ _ _ _ 11 #[false, false, false, false, false, false, false, false, false, false, false] _ (World.drew _)
        refine wpAnyIn_ready (rs := [0, 1]) (by kernel_rfl) (by simp) (AllReadyIn.cons rfl (fun K hK => ?_) (AllReadyIn.cons rfl (fun K hK => ?_) AllReadyIn.nil))
        · go_simp
          refine hK _ _ ?_
          clear hK K
          refine wpAnyIn_ready (rs := [1]) (by kernel_rfl) (by simp) (AllReadyIn.cons rfl (fun K hK => ?_) AllReadyIn.nil)
          go_simp
          refine hK _ _ ?_
          clear hK K
          refine wpAnyIn_ready (rs := [2]) (by kernel_rfl) (by simp) (AllReadyIn.cons rfl (fun K hK => ?_) AllReadyIn.nil)
          go_simp
          refine ⟨trivial, (fun h => by cases h), (callsIn_wide.2 (hF _)).mono ?_⟩
          rintro e w2 ⟨rfl, rfl⟩
          refine hK _ _ ?_
          clear hK K
          refine wpAnyIn_ready (rs := [3]) (by kernel_rfl) (by simp) (AllReadyIn.cons rfl (fun K hK => ?_) AllReadyIn.nil)
          go_simp
          refine hK _ _ ?_
          clear hK K
          refine wpAnyIn_ready (rs := [4]) (by kernel_rfl) (by simp) (AllReadyIn.cons rfl (fun K hK => ?_) AllReadyIn.nil)
          go_simp
          refine hK _ _ ?_
          clear hK K
          refine wpAnyIn_ready (rs := [5]) (by kernel_rfl) (by simp) (AllReadyIn.cons rfl (fun K hK => ?_) AllReadyIn.nil)
          go_simp
          refine hK _ _ ?_
          clear hK K
          refine wpAnyIn_ready (rs := [6, 7]) (by kernel_rfl) (by simp) (AllReadyIn.cons rfl (fun K hK => ?_) (AllReadyIn.cons rfl (fun K hK => ?_) AllReadyIn.nil))
          · go_simp
            first | refine hK _ _ ?_ | refine ⟨fun _ _ => trivial, hK _ _ ?_⟩
            clear hK K
            refine wpAnyIn_ready (rs := [7]) (by kernel_rfl) (by simp) (AllReadyIn.cons rfl (fun K hK => ?_) AllReadyIn.nil)
            go_simp
            first | refine hK _ _ ?_ | refine ⟨fun _ _ => trivial, hK _ _ ?_⟩
            clear hK K
            refine wpAnyIn_ready (rs := [8]) (by kernel_rfl) (by simp) (AllReadyIn.cons rfl (fun K hK => ?_) AllReadyIn.nil)
            go_simp
            first | refine hK _ _ ?_ | refine ⟨fun _ _ => trivial, hK _ _ ?_⟩
            clear hK K
            refine wpAnyIn_ready (rs := [9]) (by kernel_rfl) (by simp) (AllReadyIn.cons rfl (fun K hK => ?_) AllReadyIn.nil)
            go_simp
            first | refine hK _ _ ?_ | refine ⟨fun _ _ => trivial, hK _ _ ?_⟩
            clear hK K
            refine wpAnyIn_ready (rs := [10]) (by kernel_rfl) (by simp) (AllReadyIn.cons rfl (fun K hK => ?_) AllReadyIn.nil)
            go_simp
            refine hK _ _ ?_
            clear hK K
            refine wpAnyIn_done (by kernel_rfl) ?_ _
            gi_wp2
            go_roundw
            case rel => exact ⟨k + 1, hlt, rfl, hbd, by rw [HS.out]; exact hJd⟩
            case measure => simp only [intOf]; omega
          · go_simp
            first | refine hK _ _ ?_ | refine ⟨fun _ _ => trivial, hK _ _ ?_⟩
            clear hK K
            refine wpAnyIn_ready (rs := [6]) (by kernel_rfl) (by simp) (AllReadyIn.cons rfl (fun K hK => ?_) AllReadyIn.nil)
            go_simp
            first | refine hK _ _ ?_ | refine ⟨fun _ _ => trivial, hK _ _ ?_⟩
            clear hK K
            refine wpAnyIn_ready (rs := [8]) (by kernel_rfl) (by simp) (AllReadyIn.cons rfl (fun K hK => ?_) AllReadyIn.nil)
            go_simp
            first | refine hK _ _ ?_ | refine ⟨fun _ _ => trivial, hK _ _ ?_⟩
            clear hK K
            refine wpAnyIn_ready (rs := [9]) (by kernel_rfl) (by simp) (AllReadyIn.cons rfl (fun K hK => ?_) AllReadyIn.nil)
            go_simp
            first | refine hK _ _ ?_ | refine ⟨fun _ _ => trivial, hK _ _ ?_⟩
            clear hK K
            refine wpAnyIn_ready (rs := [10]) (by kernel_rfl) (by simp) (AllReadyIn.cons rfl (fun K hK => ?_) AllReadyIn.nil)
            go_simp
            refine hK _ _ ?_
            clear hK K
            refine wpAnyIn_done (by kernel_rfl) ?_ _
            gi_wp2
            go_roundw
            case rel => exact ⟨k + 1, hlt, rfl, hbd, by rw [HS.out]; exact hJd⟩
            case measure => simp only [intOf]; omega
        · go_simp
          refine hK _ _ ?_
          clear hK K
          refine wpAnyIn_ready (rs := [0, 2]) (by kernel_rfl) (by simp) (AllReadyIn.cons rfl (fun K hK => ?_) (AllReadyIn.cons rfl (fun K hK => ?_) AllReadyIn.nil))
          · go_simp
            refine hK _ _ ?_
            clear hK K
            refine wpAnyIn_ready (rs := [2]) (by kernel_rfl) (by simp) (AllReadyIn.cons rfl (fun K hK => ?_) AllReadyIn.nil)
            go_simp
            refine ⟨trivial, (fun h => by cases h), (callsIn_wide.2 (hF _)).mono ?_⟩
            rintro e w2 ⟨rfl, rfl⟩
            refine hK _ _ ?_
            clear hK K
            refine wpAnyIn_ready (rs := [3]) (by kernel_rfl) (by simp) (AllReadyIn.cons rfl (fun K hK => ?_) AllReadyIn.nil)
            go_simp
            refine hK _ _ ?_
            clear hK K
            refine wpAnyIn_ready (rs := [4]) (by kernel_rfl) (by simp) (AllReadyIn.cons rfl (fun K hK => ?_) AllReadyIn.nil)
            go_simp
            refine hK _ _ ?_
            clear hK K
            refine wpAnyIn_ready (rs := [5]) (by kernel_rfl) (by simp) (AllReadyIn.cons rfl (fun K hK => ?_) AllReadyIn.nil)
            go_simp
            refine hK _ _ ?_
            clear hK K
            refine wpAnyIn_ready (rs := [6, 7]) (by kernel_rfl) (by simp) (AllReadyIn.cons rfl (fun K hK => ?_) (AllReadyIn.cons rfl (fun K hK => ?_) AllReadyIn.nil))
            · go_simp
              first | refine hK _ _ ?_ | refine ⟨fun _ _ => trivial, hK _ _ ?_⟩
              clear hK K
              refine wpAnyIn_ready (rs := [7]) (by kernel_rfl) (by simp) (AllReadyIn.cons rfl (fun K hK => ?_) AllReadyIn.nil)
              go_simp
              first | refine hK _ _ ?_ | refine ⟨fun _ _ => trivial, hK _ _ ?_⟩
              clear hK K
              refine wpAnyIn_ready (rs := [8]) (by kernel_rfl) (by simp) (AllReadyIn.cons rfl (fun K hK => ?_) AllReadyIn.nil)
              go_simp
              first | refine hK _ _ ?_ | refine ⟨fun _ _ => trivial, hK _ _ ?_⟩
              clear hK K
              refine wpAnyIn_ready (rs := [9]) (by kernel_rfl) (by simp) (AllReadyIn.cons rfl (fun K hK => ?_) AllReadyIn.nil)
              go_simp
              first | refine hK _ _ ?_ | refine ⟨fun _ _ => trivial, hK _ _ ?_⟩
              clear hK K
              refine wpAnyIn_ready (rs := [10]) (by kernel_rfl) (by simp) (AllReadyIn.cons rfl (fun K hK => ?_) AllReadyIn.nil)
              go_simp
              refine hK _ _ ?_
              clear hK K
              refine wpAnyIn_done (by kernel_rfl) ?_ _
              gi_wp2
              go_roundw
              case rel => exact ⟨k + 1, hlt, rfl, hbd, by rw [HS.out]; exact hJd⟩
              case measure => simp only [intOf]; omega
            · go_simp
              first | refine hK _ _ ?_ | refine ⟨fun _ _ => trivial, hK _ _ ?_⟩
              clear hK K
              refine wpAnyIn_ready (rs := [6]) (by kernel_rfl) (by simp) (AllReadyIn.cons rfl (fun K hK => ?_) AllReadyIn.nil)
              go_simp
              first | refine hK _ _ ?_ | refine ⟨fun _ _ => trivial, hK _ _ ?_⟩
              clear hK K
              refine wpAnyIn_ready (rs := [8]) (by kernel_rfl) (by simp) (AllReadyIn.cons rfl (fun K hK => ?_) AllReadyIn.nil)
              go_simp
              first | refine hK _ _ ?_ | refine ⟨fun _ _ => trivial, hK _ _ ?_⟩
              clear hK K
              refine wpAnyIn_ready (rs := [9]) (by kernel_rfl) (by simp) (AllReadyIn.cons rfl (fun K hK => ?_) AllReadyIn.nil)
              go_simp
              first | refine hK _ _ ?_ | refine ⟨fun _ _ => trivial, hK _ _ ?_⟩
              clear hK K
              refine wpAnyIn_ready (rs := [10]) (by kernel_rfl) (by simp) (AllReadyIn.cons rfl (fun K hK => ?_) AllReadyIn.nil)
              go_simp
              refine hK _ _ ?_
              clear hK K
              refine wpAnyIn_done (by kernel_rfl) ?_ _
              gi_wp2
              go_roundw
              case rel => exact ⟨k + 1, hlt, rfl, hbd, by rw [HS.out]; exact hJd⟩
              case measure => simp only [intOf]; omega
          · go_simp
            refine ⟨trivial, (fun h => by cases h), (callsIn_wide.2 (hF _)).mono ?_⟩
            rintro e w2 ⟨rfl, rfl⟩
            refine hK _ _ ?_
            clear hK K
            refine wpAnyIn_ready (rs := [0]) (by kernel_rfl) (by simp) (AllReadyIn.cons rfl (fun K hK => ?_) AllReadyIn.nil)
            go_simp
            refine hK _ _ ?_
            clear hK K
            refine wpAnyIn_ready (rs := [3]) (by kernel_rfl) (by simp) (AllReadyIn.cons rfl (fun K hK => ?_) AllReadyIn.nil)
            go_simp
            refine hK _ _ ?_
            clear hK K
            refine wpAnyIn_ready (rs := [4]) (by kernel_rfl) (by simp) (AllReadyIn.cons rfl (fun K hK => ?_) AllReadyIn.nil)
            go_simp
            refine hK _ _ ?_
            clear hK K
            refine wpAnyIn_ready (rs := [5]) (by kernel_rfl) (by simp) (AllReadyIn.cons rfl (fun K hK => ?_) AllReadyIn.nil)
            go_simp
            refine hK _ _ ?_
            clear hK K
            refine wpAnyIn_ready (rs := [6, 7]) (by kernel_rfl) (by simp) (AllReadyIn.cons rfl (fun K hK => ?_) (AllReadyIn.cons rfl (fun K hK => ?_) AllReadyIn.nil))
            · go_simp
              first | refine hK _ _ ?_ | refine ⟨fun _ _ => trivial, hK _ _ ?_⟩
              clear hK K
              refine wpAnyIn_ready (rs := [7]) (by kernel_rfl) (by simp) (AllReadyIn.cons rfl (fun K hK => ?_) AllReadyIn.nil)
              go_simp
              first | refine hK _ _ ?_ | refine ⟨fun _ _ => trivial, hK _ _ ?_⟩
              clear hK K
              refine wpAnyIn_ready (rs := [8]) (by kernel_rfl) (by simp) (AllReadyIn.cons rfl (fun K hK => ?_) AllReadyIn.nil)
              go_simp
              first | refine hK _ _ ?_ | refine ⟨fun _ _ => trivial, hK _ _ ?_⟩
              clear hK K
              refine wpAnyIn_ready (rs := [9]) (by kernel_rfl) (by simp) (AllReadyIn.cons rfl (fun K hK => ?_) AllReadyIn.nil)
              go_simp
              first | refine hK _ _ ?_ | refine ⟨fun _ _ => trivial, hK _ _ ?_⟩
              clear hK K
              refine wpAnyIn_ready (rs := [10]) (by kernel_rfl) (by simp) (AllReadyIn.cons rfl (fun K hK => ?_) AllReadyIn.nil)
              go_simp
              refine hK _ _ ?_
              clear hK K
              refine wpAnyIn_done (by kernel_rfl) ?_ _
              gi_wp2
              go_roundw
              case rel => exact ⟨k + 1, hlt, rfl, hbd, by rw [HS.out]; exact hJd⟩
              case measure => simp only [intOf]; omega
            · go_simp
              first | refine hK _ _ ?_ | refine ⟨fun _ _ => trivial, hK _ _ ?_⟩
              clear hK K
              refine wpAnyIn_ready (rs := [6]) (by kernel_rfl) (by simp) (AllReadyIn.cons rfl (fun K hK => ?_) AllReadyIn.nil)
              go_simp
              first | refine hK _ _ ?_ | refine ⟨fun _ _ => trivial, hK _ _ ?_⟩
              clear hK K
              refine wpAnyIn_ready (rs := [8]) (by kernel_rfl) (by simp) (AllReadyIn.cons rfl (fun K hK => ?_) AllReadyIn.nil)
              go_simp
              first | refine hK _ _ ?_ | refine ⟨fun _ _ => trivial, hK _ _ ?_⟩
              clear hK K
              refine wpAnyIn_ready (rs := [9]) (by kernel_rfl) (by simp) (AllReadyIn.cons rfl (fun K hK => ?_) AllReadyIn.nil)
              go_simp
              first | refine hK _ _ ?_ | refine ⟨fun _ _ => trivial, hK _ _ ?_⟩
              clear hK K
              refine wpAnyIn_ready (rs := [10]) (by kernel_rfl) (by simp) (AllReadyIn.cons rfl (fun K hK => ?_) AllReadyIn.nil)
              go_simp
              refine hK _ _ ?_
              clear hK K
              refine wpAnyIn_done (by kernel_rfl) ?_ _
              gi_wp2
              go_roundw
              case rel => exact ⟨k + 1, hlt, rfl, hbd, by rw [HS.out]; exact hJd⟩
              case measure => simp only [intOf]; omega
      · rw [hbit] at ht hS
        have HS : Hid (whK f (k + 1) = whK f k ++ [⟨k, hlt⟩]) := Lib.hid (by simpa using hS)
        have HP : Hid (whK f k ++ [⟨k, hlt⟩] <+: wh f) := Lib.hid (by rw [← HS.out]; exact whK_pre f _)
        have hl : (whK f k).length < (wh f).length := by
          have := HP.out.length_le
          rw [List.length_append, List.length_singleton] at this
          omega
        obtain ⟨fn, tmps, assign, body', hy, hR⟩ := hY _ ⟨k, hlt⟩ _ hJd hl
        clear hS hl
        dsimp only at hF hy
        generalize ((flagN ⟨k, hlt⟩ : Nat) : Int) = fl at hF ht
        gi_wp2_with fail
        refine wpIn_region_any hmo ?_
        change wpAnyIn _ _ _ _ _ _ 11 #[false, false, false, false, false, false, false, false, false, false, false] _ (World.drew _)
        refine wpAnyIn_ready (rs := [0, 1]) (by kernel_rfl) (by simp) (AllReadyIn.cons rfl (fun K hK => ?_) (AllReadyIn.cons rfl (fun K hK => ?_) AllReadyIn.nil))
        · go_simp
          refine hK _ _ ?_
          clear hK K
          refine wpAnyIn_ready (rs := [1]) (by kernel_rfl) (by simp) (AllReadyIn.cons rfl (fun K hK => ?_) AllReadyIn.nil)
          go_simp
          refine hK _ _ ?_
          clear hK K
          refine wpAnyIn_ready (rs := [2]) (by kernel_rfl) (by simp) (AllReadyIn.cons rfl (fun K hK => ?_) AllReadyIn.nil)
          go_simp
          refine ⟨trivial, (fun h => by cases h), (callsIn_wide.2 (hF _)).mono ?_⟩
          rintro e w2 ⟨rfl, rfl⟩
          refine hK _ _ ?_
          clear hK K
          refine wpAnyIn_ready (rs := [3]) (by kernel_rfl) (by simp) (AllReadyIn.cons rfl (fun K hK => ?_) AllReadyIn.nil)
          go_simp
          refine hK _ _ ?_
          clear hK K
          refine wpAnyIn_ready (rs := [4]) (by kernel_rfl) (by simp) (AllReadyIn.cons rfl (fun K hK => ?_) AllReadyIn.nil)
          go_simp
          refine hK _ _ ?_
          clear hK K
          refine wpAnyIn_ready (rs := [5]) (by kernel_rfl) (by simp) (AllReadyIn.cons rfl (fun K hK => ?_) AllReadyIn.nil)
          go_simp
          refine hK _ _ ?_
          clear hK K
          refine wpAnyIn_ready (rs := [6, 7]) (by kernel_rfl) (by simp) (AllReadyIn.cons rfl (fun K hK => ?_) (AllReadyIn.cons rfl (fun K hK => ?_) AllReadyIn.nil))
          · go_simp
            refine hK _ _ ?_
            clear hK K
            refine wpAnyIn_ready (rs := [7]) (by kernel_rfl) (by simp) (AllReadyIn.cons rfl (fun K hK => ?_) AllReadyIn.nil)
            go_simp
            refine hK _ _ ?_
            clear hK K
            refine wpAnyIn_ready (rs := [8]) (by kernel_rfl) (by simp) (AllReadyIn.cons rfl (fun K hK => ?_) AllReadyIn.nil)
            go_simp
            refine ⟨(fun h => by cases h), hR.mono ?_⟩
            rintro e W3 (⟨rfl, hJ3, hk3⟩ | ⟨rfl, hJx3⟩) <;> refine hK _ _ ?_ <;> clear hK K
            · refine wpAnyIn_ready (rs := [9]) (by kernel_rfl) (by simp) (AllReadyIn.cons rfl (fun K hK => ?_) AllReadyIn.nil)
              go_simp
              refine hK _ _ ?_
              clear hK K
              refine wpAnyIn_ready (rs := [10]) (by kernel_rfl) (by simp) (AllReadyIn.cons rfl (fun K hK => ?_) AllReadyIn.nil)
              go_simp
              refine hK _ _ ?_
              clear hK K
              refine wpAnyIn_done (by kernel_rfl) ?_ _
              gi_wp2
              go_roundw
              case rel => exact ⟨k + 1, hlt, rfl, hk3 _ hbd, by rw [HS.out]; exact hJ3⟩
              case measure => simp only [intOf]; omega
            · refine wpAnyIn_ready (rs := [9]) (by kernel_rfl) (by simp) (AllReadyIn.cons rfl (fun K hK => ?_) AllReadyIn.nil)
              go_simp
              refine hK _ _ ?_
              clear hK K
              refine wpAnyIn_ready (rs := [10]) (by kernel_rfl) (by simp) (AllReadyIn.cons rfl (fun K hK => ?_) AllReadyIn.nil)
              go_simp
              refine hK _ _ ?_
              clear hK K
              refine wpAnyIn_done (by kernel_rfl) ?_ _
              gi_wp2
              refine bodyPost_ret (results_none rfl _ _ _) rfl ?_
              exact ⟨⟨_, rfl⟩, .inr ⟨_, HP.out, hJx3⟩⟩
          · go_simp
            refine hK _ _ ?_
            clear hK K
            refine wpAnyIn_ready (rs := [6]) (by kernel_rfl) (by simp) (AllReadyIn.cons rfl (fun K hK => ?_) AllReadyIn.nil)
            go_simp
            refine hK _ _ ?_
            clear hK K
            refine wpAnyIn_ready (rs := [8]) (by kernel_rfl) (by simp) (AllReadyIn.cons rfl (fun K hK => ?_) AllReadyIn.nil)
            go_simp
            refine ⟨(fun h => by cases h), hR.mono ?_⟩
            rintro e W3 (⟨rfl, hJ3, hk3⟩ | ⟨rfl, hJx3⟩) <;> refine hK _ _ ?_ <;> clear hK K
            · refine wpAnyIn_ready (rs := [9]) (by kernel_rfl) (by simp) (AllReadyIn.cons rfl (fun K hK => ?_) AllReadyIn.nil)
              go_simp
              refine hK _ _ ?_
              clear hK K
              refine wpAnyIn_ready (rs := [10]) (by kernel_rfl) (by simp) (AllReadyIn.cons rfl (fun K hK => ?_) AllReadyIn.nil)
              go_simp
              refine hK _ _ ?_
              clear hK K
              refine wpAnyIn_done (by kernel_rfl) ?_ _
              gi_wp2
              go_roundw
              case rel => exact ⟨k + 1, hlt, rfl, hk3 _ hbd, by rw [HS.out]; exact hJ3⟩
              case measure => simp only [intOf]; omega
            · refine wpAnyIn_ready (rs := [9]) (by kernel_rfl) (by simp) (AllReadyIn.cons rfl (fun K hK => ?_) AllReadyIn.nil)
              go_simp
              refine hK _ _ ?_
              clear hK K
              refine wpAnyIn_ready (rs := [10]) (by kernel_rfl) (by simp) (AllReadyIn.cons rfl (fun K hK => ?_) AllReadyIn.nil)
              go_simp
              refine hK _ _ ?_
              clear hK K
              refine wpAnyIn_done (by kernel_rfl) ?_ _
              gi_wp2
              refine bodyPost_ret (results_none rfl _ _ _) rfl ?_
              exact ⟨⟨_, rfl⟩, .inr ⟨_, HP.out, hJx3⟩⟩
        · go_simp
          refine hK _ _ ?_
          clear hK K
          refine wpAnyIn_ready (rs := [0, 2]) (by kernel_rfl) (by simp) (AllReadyIn.cons rfl (fun K hK => ?_) (AllReadyIn.cons rfl (fun K hK => ?_) AllReadyIn.nil))
          · go_simp
            refine hK _ _ ?_
            clear hK K
            refine wpAnyIn_ready (rs := [2]) (by kernel_rfl) (by simp) (AllReadyIn.cons rfl (fun K hK => ?_) AllReadyIn.nil)
            go_simp
            refine ⟨trivial, (fun h => by cases h), (callsIn_wide.2 (hF _)).mono ?_⟩
            rintro e w2 ⟨rfl, rfl⟩
            refine hK _ _ ?_
            clear hK K
            refine wpAnyIn_ready (rs := [3]) (by kernel_rfl) (by simp) (AllReadyIn.cons rfl (fun K hK => ?_) AllReadyIn.nil)
            go_simp
            refine hK _ _ ?_
            clear hK K
            refine wpAnyIn_ready (rs := [4]) (by kernel_rfl) (by simp) (AllReadyIn.cons rfl (fun K hK => ?_) AllReadyIn.nil)
            go_simp
            refine hK _ _ ?_
            clear hK K
            refine wpAnyIn_ready (rs := [5]) (by kernel_rfl) (by simp) (AllReadyIn.cons rfl (fun K hK => ?_) AllReadyIn.nil)
            go_simp
            refine hK _ _ ?_
            clear hK K
            refine wpAnyIn_ready (rs := [6, 7]) (by kernel_rfl) (by simp) (AllReadyIn.cons rfl (fun K hK => ?_) (AllReadyIn.cons rfl (fun K hK => ?_) AllReadyIn.nil))
            · go_simp
              refine hK _ _ ?_
              clear hK K
              refine wpAnyIn_ready (rs := [7]) (by kernel_rfl) (by simp) (AllReadyIn.cons rfl (fun K hK => ?_) AllReadyIn.nil)
              go_simp
              refine hK _ _ ?_
              clear hK K
              refine wpAnyIn_ready (rs := [8]) (by kernel_rfl) (by simp) (AllReadyIn.cons rfl (fun K hK => ?_) AllReadyIn.nil)
              go_simp
              refine ⟨(fun h => by cases h), hR.mono ?_⟩
              rintro e W3 (⟨rfl, hJ3, hk3⟩ | ⟨rfl, hJx3⟩) <;> refine hK _ _ ?_ <;> clear hK K
              · refine wpAnyIn_ready (rs := [9]) (by kernel_rfl) (by simp) (AllReadyIn.cons rfl (fun K hK => ?_) AllReadyIn.nil)
                go_simp
                refine hK _ _ ?_
                clear hK K
                refine wpAnyIn_ready (rs := [10]) (by kernel_rfl) (by simp) (AllReadyIn.cons rfl (fun K hK => ?_) AllReadyIn.nil)
                go_simp
                refine hK _ _ ?_
                clear hK K
                refine wpAnyIn_done (by kernel_rfl) ?_ _
                gi_wp2
                go_roundw
                case rel => exact ⟨k + 1, hlt, rfl, hk3 _ hbd, by rw [HS.out]; exact hJ3⟩
                case measure => simp only [intOf]; omega
              · refine wpAnyIn_ready (rs := [9]) (by kernel_rfl) (by simp) (AllReadyIn.cons rfl (fun K hK => ?_) AllReadyIn.nil)
                go_simp
                refine hK _ _ ?_
                clear hK K
                refine wpAnyIn_ready (rs := [10]) (by kernel_rfl) (by simp) (AllReadyIn.cons rfl (fun K hK => ?_) AllReadyIn.nil)
                go_simp
                refine hK _ _ ?_
                clear hK K
                refine wpAnyIn_done (by kernel_rfl) ?_ _
                gi_wp2
                refine bodyPost_ret (results_none rfl _ _ _) rfl ?_
                exact ⟨⟨_, rfl⟩, .inr ⟨_, HP.out, hJx3⟩⟩
            · go_simp
              refine hK _ _ ?_
              clear hK K
              refine wpAnyIn_ready (rs := [6]) (by kernel_rfl) (by simp) (AllReadyIn.cons rfl (fun K hK => ?_) AllReadyIn.nil)
              go_simp
              refine hK _ _ ?_
              clear hK K
              refine wpAnyIn_ready (rs := [8]) (by kernel_rfl) (by simp) (AllReadyIn.cons rfl (fun K hK => ?_) AllReadyIn.nil)
              go_simp
              refine ⟨(fun h => by cases h), hR.mono ?_⟩
              rintro e W3 (⟨rfl, hJ3, hk3⟩ | ⟨rfl, hJx3⟩) <;> refine hK _ _ ?_ <;> clear hK K
              · refine wpAnyIn_ready (rs := [9]) (by kernel_rfl) (by simp) (AllReadyIn.cons rfl (fun K hK => ?_) AllReadyIn.nil)
                go_simp
                refine hK _ _ ?_
                clear hK K
                refine wpAnyIn_ready (rs := [10]) (by kernel_rfl) (by simp) (AllReadyIn.cons rfl (fun K hK => ?_) AllReadyIn.nil)
                go_simp
                refine hK _ _ ?_
                clear hK K
                refine wpAnyIn_done (by kernel_rfl) ?_ _
                gi_wp2
                go_roundw
                case rel => exact ⟨k + 1, hlt, rfl, hk3 _ hbd, by rw [HS.out]; exact hJ3⟩
                case measure => simp only [intOf]; omega
              · refine wpAnyIn_ready (rs := [9]) (by kernel_rfl) (by simp) (AllReadyIn.cons rfl (fun K hK => ?_) AllReadyIn.nil)
                go_simp
                refine hK _ _ ?_
                clear hK K
                refine wpAnyIn_ready (rs := [10]) (by kernel_rfl) (by simp) (AllReadyIn.cons rfl (fun K hK => ?_) AllReadyIn.nil)
                go_simp
                refine hK _ _ ?_
                clear hK K
                refine wpAnyIn_done (by kernel_rfl) ?_ _
                gi_wp2
                refine bodyPost_ret (results_none rfl _ _ _) rfl ?_
                exact ⟨⟨_, rfl⟩, .inr ⟨_, HP.out, hJx3⟩⟩
          · go_simp
            refine ⟨trivial, (fun h => by cases h), (callsIn_wide.2 (hF _)).mono ?_⟩
            rintro e w2 ⟨rfl, rfl⟩
            refine hK _ _ ?_
            clear hK K
            refine wpAnyIn_ready (rs := [0]) (by kernel_rfl) (by simp) (AllReadyIn.cons rfl (fun K hK => ?_) AllReadyIn.nil)
            go_simp
            refine hK _ _ ?_
            clear hK K
            refine wpAnyIn_ready (rs := [3]) (by kernel_rfl) (by simp) (AllReadyIn.cons rfl (fun K hK => ?_) AllReadyIn.nil)
            go_simp
            refine hK _ _ ?_
            clear hK K
            refine wpAnyIn_ready (rs := [4]) (by kernel_rfl) (by simp) (AllReadyIn.cons rfl (fun K hK => ?_) AllReadyIn.nil)
            go_simp
            refine hK _ _ ?_
            clear hK K
            refine wpAnyIn_ready (rs := [5]) (by kernel_rfl) (by simp) (AllReadyIn.cons rfl (fun K hK => ?_) AllReadyIn.nil)
            go_simp
            refine hK _ _ ?_
            clear hK K
            refine wpAnyIn_ready (rs := [6, 7]) (by kernel_rfl) (by simp) (AllReadyIn.cons rfl (fun K hK => ?_) (AllReadyIn.cons rfl (fun K hK => ?_) AllReadyIn.nil))
            · go_simp
              refine hK _ _ ?_
              clear hK K
              refine wpAnyIn_ready (rs := [7]) (by kernel_rfl) (by simp) (AllReadyIn.cons rfl (fun K hK => ?_) AllReadyIn.nil)
              go_simp
              refine hK _ _ ?_
              clear hK K
              refine wpAnyIn_ready (rs := [8]) (by kernel_rfl) (by simp) (AllReadyIn.cons rfl (fun K hK => ?_) AllReadyIn.nil)
              go_simp
              refine ⟨(fun h => by cases h), hR.mono ?_⟩
              rintro e W3 (⟨rfl, hJ3, hk3⟩ | ⟨rfl, hJx3⟩) <;> refine hK _ _ ?_ <;> clear hK K
              · refine wpAnyIn_ready (rs := [9]) (by kernel_rfl) (by simp) (AllReadyIn.cons rfl (fun K hK => ?_) AllReadyIn.nil)
                go_simp
                refine hK _ _ ?_
                clear hK K
                refine wpAnyIn_ready (rs := [10]) (by kernel_rfl) (by simp) (AllReadyIn.cons rfl (fun K hK => ?_) AllReadyIn.nil)
                go_simp
                refine hK _ _ ?_
                clear hK K
                refine wpAnyIn_done (by kernel_rfl) ?_ _
                gi_wp2
                go_roundw
                case rel => exact ⟨k + 1, hlt, rfl, hk3 _ hbd, by rw [HS.out]; exact hJ3⟩
                case measure => simp only [intOf]; omega
              · refine wpAnyIn_ready (rs := [9]) (by kernel_rfl) (by simp) (AllReadyIn.cons rfl (fun K hK => ?_) AllReadyIn.nil)
                go_simp
                refine hK _ _ ?_
                clear hK K
                refine wpAnyIn_ready (rs := [10]) (by kernel_rfl) (by simp) (AllReadyIn.cons rfl (fun K hK => ?_) AllReadyIn.nil)
                go_simp
                refine hK _ _ ?_
                clear hK K
                refine wpAnyIn_done (by kernel_rfl) ?_ _
                gi_wp2
                refine bodyPost_ret (results_none rfl _ _ _) rfl ?_
                exact ⟨⟨_, rfl⟩, .inr ⟨_, HP.out, hJx3⟩⟩
            · go_simp
              refine hK _ _ ?_
              clear hK K
              refine wpAnyIn_ready (rs := [6]) (by kernel_rfl) (by simp) (AllReadyIn.cons rfl (fun K hK => ?_) AllReadyIn.nil)
              go_simp
              refine hK _ _ ?_
              clear hK K
              refine wpAnyIn_ready (rs := [8]) (by kernel_rfl) (by simp) (AllReadyIn.cons rfl (fun K hK => ?_) AllReadyIn.nil)
              go_simp
              refine ⟨(fun h => by cases h), hR.mono ?_⟩
              rintro e W3 (⟨rfl, hJ3, hk3⟩ | ⟨rfl, hJx3⟩) <;> refine hK _ _ ?_ <;> clear hK K
              · refine wpAnyIn_ready (rs := [9]) (by kernel_rfl) (by simp) (AllReadyIn.cons rfl (fun K hK => ?_) AllReadyIn.nil)
                go_simp
                refine hK _ _ ?_
                clear hK K
                refine wpAnyIn_ready (rs := [10]) (by kernel_rfl) (by simp) (AllReadyIn.cons rfl (fun K hK => ?_) AllReadyIn.nil)
                go_simp
                refine hK _ _ ?_
                clear hK K
                refine wpAnyIn_done (by kernel_rfl) ?_ _
                gi_wp2
                go_roundw
                case rel => exact ⟨k + 1, hlt, rfl, hk3 _ hbd, by rw [HS.out]; exact hJ3⟩
                case measure => simp only [intOf]; omega
              · refine wpAnyIn_ready (rs := [9]) (by kernel_rfl) (by simp) (AllReadyIn.cons rfl (fun K hK => ?_) AllReadyIn.nil)
                go_simp
                refine hK _ _ ?_
                clear hK K
                refine wpAnyIn_ready (rs := [10]) (by kernel_rfl) (by simp) (AllReadyIn.cons rfl (fun K hK => ?_) AllReadyIn.nil)
                go_simp
                refine hK _ _ ?_
                clear hK K
                refine wpAnyIn_done (by kernel_rfl) ?_ _
                gi_wp2
                refine bodyPost_ret (results_none rfl _ _ _) rfl ?_
                exact ⟨⟨_, rfl⟩, .inr ⟨_, HP.out, hJx3⟩⟩
    · obtain rfl : k = 14 := by omega
      gi_wp2
      go_end0
      exact ⟨⟨_, rfl⟩, .inl ⟨whK f 14, rfl, hJs⟩⟩
/-- props.told: the flags are boxed; the function that it answers holds the box -/
theorem told_in (n : Nat) (f : Int) (w : World) :
    CallsIn Fence.wide n Tryd.prog 41 #[.int .u64 f] w fun e w' => e = .returned (.func (.func 62) #[] #[.pointer (some ⟨w.heap.size, 0, none⟩)]) ∧ w' = w.alloc (.cells #[.int .u64 f] 25) := by
  have hmf : ∀ (p : Value) (w : World), (Instr.makeFunc (.func 62) #[] #[p]).run Tryd.prog w = .ok (.func (.func 62) #[] #[p]) w := fun _ _ => by kernel_rfl
  refine callsIn_of_wp Tryd.func41 rfl trivial ?_ rfl
  simp only [Tryd.ntmps41, List.size_toArray, List.length_cons, List.length_nil, Nat.reduceAdd, Nat.reduceSub, Array.replicate_succ, Array.replicate_zero, List.push_toArray, List.append_toArray, List.nil_append, List.cons_append]
  gi_wp2
  go_ret
  exact ⟨rfl, rfl⟩
theorem drew_grown (W : World) : W.grownBy W.drew none := ⟨rfl, rfl, rfl, Nat.le_refl _, fun _ _ _ => rfl⟩
theorem boxed_underP {w W : World} {B : Nat} {t : TypeId} {v : Value} (h : Boxed w B t v) (hb : Below w.heap.size w W) : Boxed W B t v := (hb.block B h.lt).trans h
theorem told_stops (n : Nat) (Bf : Nat) (f : Int) (h0 : 0 ≤ f) (h1 : f < 18446744073709551616) (w : World) (hbf : Boxed w Bf 25 (.int .u64 f)) :
    SeqStopsK Fence.wide n Tryd.prog 62 #[.pointer (some ⟨Bf, 0, none⟩)] (fun x : Fin 14 => #[Value.int .i64 (x.1 : Int)]) (KeepF Bf) (fun ys => ys = wh f) (fun pre => pre <+: wh f) (wh f).length w := fun l J Jx W hW hJ _ hY hJ0 =>
  told1_in l Bf f h0 h1 n J Jx hY (fun pre W hj => hJ pre W _ none hj (drew_grown W) (fun r e => by cases e)) W (boxed_underP hbf hW) hJ0
theorem keepF_t {Bf : Nat} {A B C : World} (h : KeepF Bf A B) (k : KeepF Bf B C) : KeepF Bf A C := fun v hv => k v (h v hv)
theorem keepF_b {Bf : Nat} (W : World) (l : Nat) (o o' : Obj) (h : W.heap[l]? = some o) (hc : o.isCells = false) : KeepF Bf W (W.putObj l o') := fun v hv =>
  hv.kept (grownBy_putObj' W l o') (fun e => by
    obtain rfl : Bf = l := by simpa using e
    rw [show W.heap[Bf]? = _ from hv] at h
    cases h
    cases hc)
end Go.Proofs.YtdgidbiolklneaaDoor

/-
  props.properties goes through a head's properties: which one it is, and what holds its value. Conditions: flags are a uint64; there are as many values as properties.
-/
namespace Go.Proofs.YtdgidbiolklneaaDoor
open Go.RowKit Go.Shelf
attribute [local go_sem] Oper.semAt_some

/-- a property as a value: the head, and where its value stands -/
def encP (h : He) (A : Option Addr) (cap : Nat) (at' : Nat) : Value := .agg #[.int .i64 h.c, .int .u64 h.z, .int .u64 h.f, .slice A h.l.length cap, .int .i64 (at' : Int)]
def encsP (h : He) (A : Option Addr) (cap : Nat) (x : Fin 14 × Nat) : Array Value := #[.int .i64 (x.1.1 : Int), .func (.func 42) #[encP h A cap x.2] #[]]

theorem results_c1 {fn : Func} {p : Tmp} {ty : TypeId} (h : fn.results = #[.cell p ty]) (tmps : Array Value) (P : Program) (w : World) :
    (results fn tmps).run P w = ((asAddr (tmps.getD p undef)).run P w).andThen fun a w₁ => (loadVar ty a).run P w₁ := by
  simp only [results, h]
  simp [Sem.run_bind, Result.andThen]
theorem cell_below {n b : Nat} {w w' : World} (h : Below n w w') (hb : b < n) (i : Nat) : w'.cell? ⟨b, i, none⟩ = w.cell? ⟨b, i, none⟩ := by
  simp only [World.cell?, h.block b hb]
set_option maxRecDepth 100000 in
set_option maxHeartbeats 1000000 in
theorem pvalue_any (h : He) (A : Option Addr) (cap k : Nat) (hk : k < h.l.length) (w : World) (hA : ValsAt w A (rowV h.l)) :
    Calls Tryd.prog 42 #[encP h A cap k] w fun e w' => e = .returned (encV h.l[k]) ∧ Below w.heap.size w w' := by
  obtain ⟨b, off, rfl, hlt, hc⟩ := vals_v hA (by omega)
  obtain ⟨c0, c1⟩ := hc k hk
  obtain ⟨c, z, f, l⟩ := h
  dsimp only at *
  unfold encP encV
  dsimp only
  generalize l[k] = v at c0 c1 ⊢
  obtain ⟨n, s⟩ := v
  dsimp only at *
  have d0 : ∀ o o', ((w.alloc o).alloc o').cell? ⟨b, off + k * 2, none⟩ = some (.int .u64 n) := fun o o' => by
    rw [← c0]
    exact cell_below (((Below.refl _ w).alloc (Nat.le_refl _) o).alloc (by simp) o') hlt _
  have d1 : ∀ o o', ((w.alloc o).alloc o').cell? ⟨b, off + k * 2 + 1, none⟩ = some (.string s) := fun o o' => by
    rw [← c1]
    exact cell_below (((Below.refl _ w).alloc (Nat.le_refl _) o).alloc (by simp) o') hlt _
  have hB : ∀ o o', Below w.heap.size w ((w.alloc o).alloc o') := fun o o' => ((Below.refl _ w).alloc (Nat.le_refl _) o).alloc (by simp) o'
  clear hc c0 c1
  go_enter Tryd.func42, Tryd.ntmps42
  go_wp2
  refine bodyPost_ret (v := .agg #[.int .u64 n, .string s]) ?_ rfl ⟨rfl, hB _ _⟩
  rw [results_c1 rfl]
  simp [asAddr, Result.andThen, go_sem]

theorem cells_grow {X Y : World} {row : Option Nat} {b B : Nat} {cs : Array Value} {t : TypeId} {fz : Nat × Nat} (h : X.heap[b]? = some (.cells cs t fz)) (hg : X.grownBy Y row) (hr : ∀ r, row = some r → B ≤ r ∧ ∃ o : Obj, X.heap[r]? = some o ∧ o.isCells = false) : Y.heap[b]? = some (.cells cs t fz) := by
  refine (hg.block b (Array.getElem?_eq_some_iff.1 h).1 (fun e => ?_)).trans h
  obtain ⟨-, o, ho, hc⟩ := hr b e.symm
  rw [h] at ho
  cases ho
  cases hc
theorem bx_other {W : World} {B b : Nat} {t : TypeId} {l : List Value} (h : Bx W B t l) (hne : B ≠ b) (v : Value) : Bx (W.setCell ⟨b, 0, none⟩ v) B t l := (Below.heap_setCell W ⟨b, 0, none⟩ v B hne).trans h
theorem zip_pre {α : Type} {l m : List α} (h : l <+: m) : l.zipIdx <+: m.zipIdx := by
  obtain ⟨t, rfl⟩ := h
  rw [List.zipIdx_append]
  exact List.prefix_append _ _
def notInt (t : TypeId) : Bool := t == 3
def itTypes (t : TypeId) : Bool := t == 95 || t == 27 || t == 3 || t == 25
def okP (h : He) (pre : List (Fin 14 × Nat)) (x : Fin 14 × Nat) : Prop := x.2 = pre.length ∧ x.2 < h.l.length

set_option maxRecDepth 100000 in
set_option maxHeartbeats 2000000 in
theorem props1_through (h : He) (A : Option Addr) (cap Bh : Nat) (w : World) (h0 : 0 ≤ h.f) (h1 : h.f < 18446744073709551616) (hlen : (wh h.f).length = h.l.length) (hb : Bx w Bh 27 (cellsH h A cap)) :
    Through Tryd.prog 40 #[.pointer (some ⟨Bh, 0, none⟩)] (encsP h A cap) notInt (fun B => Kept B itTypes) (okP h) (fun xs => xs = (wh h.f).zipIdx) (fun pre => pre <+: (wh h.f).zipIdx) w := by
  intro l J Jx W hW hJ hJx hY hJ0
  refine callsIn_room (n := 5) ?_
  have hbW := hb.kept hW
  have hx2 := hbW.cell 2 (by simp [cellsH])
  refine callsIn_of_wp_marks Tryd.func40 rfl trivial ?_ rfl
  simp only [Tryd.ntmps40, List.size_toArray, List.length_cons, List.length_nil, Nat.reduceAdd, Nat.reduceSub, Array.replicate_succ, Array.replicate_zero, List.push_toArray, List.append_toArray, List.nil_append, List.cons_append]
  simp only [cellsH, List.getElem_cons_zero, List.getElem_cons_succ] at hx2
  have hx2' : ∀ o o', ((W.alloc o).alloc o').cell? ⟨Bh, 2, none⟩ = some (.int .u64 h.f) := fun o o' => by
    rw [← hx2]
    exact cell_below (((Below.refl _ W).alloc (Nat.le_refl _) o).alloc (by simp) o') hbW.lt _
  gi_wp2_with fail
  refine ⟨trivial, (told_in 4 _ _).mono ?_⟩
  rintro e w' ⟨rfl, rfl⟩
  gi_wp2_with fail
  obtain ⟨w0, hw0⟩ : ∃ w0, ((W.alloc (.cells #[.func (.yield l) #[] #[]] 95)).alloc (.cells #[.int .i64 0] 3)).alloc (.cells #[.int .u64 h.f] 25) = w0 := ⟨_, rfl⟩
  have bY : Boxed w0 W.heap.size 95 (.func (.yield l) #[] #[]) := by rw [← hw0]; exact ((Boxed.new W _ _).alloc _).alloc _
  have bA : Boxed w0 (W.heap.size + 1) 3 (.int .i64 0) := by
    have h := (Boxed.new (W.alloc (.cells #[.func (.yield l) #[] #[]] 95)) 3 (.int .i64 0)).alloc (.cells #[.int .u64 h.f] 25)
    rw [World.size_alloc] at h
    rw [← hw0]; exact h
  have bF : Boxed w0 (W.heap.size + 1 + 1) 25 (.int .u64 h.f) := by
    have h := Boxed.new ((W.alloc (.cells #[.func (.yield l) #[] #[]] 95)).alloc (.cells #[.int .i64 0] 3)) 25 (.int .u64 h.f)
    rw [World.size_alloc, World.size_alloc] at h
    rw [← hw0]; exact h
  have hB0 : Below W.heap.size W w0 := by rw [← hw0]; exact (((Below.refl _ W).alloc (Nat.le_refl _) _).alloc (by simp) _).alloc (by simp; omega) _
  have bH := hbW.kept hB0
  have hj0 : J [] w0 := by rw [← hw0]; exact hJ.alloc _ (hJ.alloc _ (hJ.alloc _ hJ0))
  have hsz : w0.heap.size = W.heap.size + 3 := by rw [← hw0]; simp
  rw [hw0]
  clear hw0 hx2 hx2'
  have hmf : ∀ (v : Value) (w : World), (Instr.makeFunc (.func 42) #[v] #[]).run Tryd.prog w = .ok (.func (.func 42) #[v] #[]) w := fun _ _ => by kernel_rfl
  refine wpIn_rangeFunc_ownG rfl (by decide) (gf := 62) (lb := #[.pointer (some ⟨W.heap.size + 1 + 1, 0, none⟩)]) rfl trivial (enters_of Tryd.func62 (by kernel_rfl) rfl)
    (told_stops 4 (W.heap.size + 1 + 1) h.f h0 h1 _ bF) keepF_t (fun W l o o' _ h hc _ => keepF_b W l o o' h hc) (Below.refl _ _) (fun _ => rfl)
    (fun pre X => J pre.zipIdx X ∧ Boxed X W.heap.size 95 (.func (.yield l) #[] #[]) ∧ Boxed X (W.heap.size + 1) 3 (.int .i64 (pre.length : Nat)) ∧ Bx X Bh 27 (cellsH h A cap))
    (fun c pre X => c = .ret ∧ Jx pre.zipIdx X)
    (fun pre X Y row hs hg hr => ⟨(hJ.mono (by omega)).own _ X Y row hs.1 hg hr, cells_grow hs.2.1 hg hr, cells_grow hs.2.2.1 hg hr, cells_grow hs.2.2.2 hg hr⟩)
    (fun c pre X Y row hs hg hr => ⟨hs.1, (hJx.mono (by omega)).own _ X Y row hs.2 hg hr⟩)
    ⟨hj0, bY, bA, bH⟩
    (fun x => { tmps := #[.func (.yield l) #[] #[], .pointer (some ⟨Bh, 0, none⟩), .pointer (some ⟨W.heap.size, 0, none⟩), .pointer (some ⟨W.heap.size + 1, 0, none⟩), .int .i64 (x.1 : Int), .pointer (some ⟨Bh, 2, none⟩), .int .u64 h.f, .func (.func 62) #[] #[.pointer (some ⟨W.heap.size + 1 + 1, 0, none⟩)], .int .i64 (x.1 : Int), undef, undef, undef, undef, undef, undef, undef, undef, undef, undef], defers := [] }) ?assign ?body ?done ?stop
  case assign =>
    intro l x W K hK
    gi_wp2
    exact hK
  case body =>
    rintro l' pre x X ⟨hj, hy, ha, hh⟩ hlt
    have hcy := hy.cell
    have hca := ha.cell
    have hc0 := hh.cell 0 (by simp [cellsH])
    have hc1 := hh.cell 1 (by simp [cellsH])
    have hc2 := hh.cell 2 (by simp [cellsH])
    have hc3 := hh.cell 3 (by simp [cellsH])
    simp only [cellsH, List.getElem_cons_zero, List.getElem_cons_succ] at hc0 hc1 hc2 hc3
    have HZ : Hid (pre.zipIdx ++ [(x, pre.length)] = (pre ++ [x]).zipIdx ∧ (pre ++ [x]).length = pre.length + 1) := Lib.hid (by simp [List.zipIdx_append])
    obtain ⟨fn, tmps, assign, body', hyl, hR⟩ := yield_room (m' := 2) (hY pre.zipIdx (x, pre.length) X hj ⟨by simp, by dsimp only; omega⟩)
    unfold encsP encP at hyl
    dsimp only at hyl
    have e1 : IntKind.i64.wrap ((pre.length : Int) + 1) = ((pre.length + 1 : Nat) : Int) := by
      have := wh_le h.f
      simp only [IntKind.wrap_i64]
      omega
    gi_wp2
    refine hR.mono ?_
    rintro e W3 (⟨rfl, hJ3, hk3⟩ | ⟨rfl, hJx3, hk3⟩)
    · have ha3 := hk3.boxed ha rfl
      have hc3a := ha3.cell
      have hf3a := ha3.frozen
      have hy3 := hk3.boxed hy rfl
      have hh3 := hk3.bx hh rfl
      rw [HZ.out.1] at hJ3
      have hne : W.heap.size ≠ W.heap.size + 1 := by omega
      have hne2 : W.heap.size + 1 + 1 ≠ W.heap.size + 1 := by omega
      have hneB : Bh ≠ W.heap.size + 1 := by have := hbW.lt; omega
      clear hcy hca hc0 hc1 hc2 hc3
      gi_wp2
      refine ⟨(hk3.from (by omega)).trans (KeepsFrom.of_grownBy (grownBy_setCell' W3 _ _) (fun j e => ?_)), fun v hv => (hk3.boxed hv rfl).other hne2 _, hJ.set hJ3 ha3 (by omega) rfl _, hy3.other hne _, ?_, ?_⟩
      · obtain rfl : W.heap.size + 1 = j := by simpa using e
        omega
      · rw [HZ.out.2]
        exact ha3.set _
      · exact bx_other hh3 hneB _
    · rw [HZ.out.1] at hJx3
      gi_wp2
      exact ⟨hk3.from (by omega), rfl, hJx3⟩
  case done =>
    rintro D ys X hD rfl ⟨hj, -, -, -⟩ hK
    gi_wp2
    refine ⟨by simp, .inl ⟨_, _, rfl, run_takeDeferred hK, ?_⟩⟩
    exact ⟨_, results_none rfl _ _ _, ⟨_, rfl⟩, .inl ⟨_, rfl, (hJ.mono (by omega)).own.putObj (B := w0.heap.size) _ hj hD hK rfl⟩⟩
  case stop =>
    rintro D c pre X hD hSp ⟨rfl, hx⟩ hK
    gi_wp2
    refine ⟨by simp, .inl ⟨_, _, rfl, run_takeDeferred hK, ?_⟩⟩
    exact ⟨_, results_none rfl _ _ _, ⟨_, rfl⟩, .inr ⟨_, zip_pre hSp, (hJx.mono (by omega)).own.putObj (B := w0.heap.size) _ hx hD hK rfl⟩⟩
/-- props.properties: the head is boxed; the function that it answers holds the box -/
theorem properties_in (n : Nat) (h : He) (A : Option Addr) (cap : Nat) (w : World) :
    CallsIn Fence.wide n Tryd.prog 28 #[encH h A cap] w fun e w' => e = .returned (.func (.func 40) #[] #[.pointer (some ⟨w.heap.size, 0, none⟩)]) ∧ w' = w.alloc (.cells (cellsH h A cap).toArray 27) := by
  have hmf : ∀ (p : Value) (w : World), (Instr.makeFunc (.func 40) #[] #[p]).run Tryd.prog w = .ok (.func (.func 40) #[] #[p]) w := fun _ _ => by kernel_rfl
  unfold encH cellsH
  refine callsIn_of_wp Tryd.func28 rfl trivial ?_ rfl
  simp only [Tryd.ntmps28, List.size_toArray, List.length_cons, List.length_nil, Nat.reduceAdd, Nat.reduceSub, Array.replicate_succ, Array.replicate_zero, List.push_toArray, List.append_toArray, List.nil_append, List.cons_append]
  gi_wp2
  go_ret
  exact ⟨rfl, rfl⟩
end Go.Proofs.YtdgidbiolklneaaDoor
