/-
  ContentFew's walk: no frame of a command is greater than may be; a greater most never needs more frames. Conditions: the tables of widths and of contents are as their texts lay them; the values lie in old memory, each number a uint64, each text shorter than 2^47 bytes.
-/
import Derived.Deep.DeepCutAuto
import Derived.Test.YtdgidbiolklneaaDoorJC1
import Derived.Test.YtdgidbiolklneaaDoorWCShown
namespace Go.Proofs.YtdgidbiolklneaaDoor
open Go.RowKit

set_option maxRecDepth 100000 in
set_option maxHeartbeats 4000000 in
theorem contentFew_walk (c : Cm) (A B : Option Addr) (ca cb : Nat) (a b : Int) (w : World) (hw : Wid w) (hk : Con w) (hwf : wfC c) (hc : CmAt w c A B ca cb) (hl : shortC c) (hs : c.b.size < 4611686018427387904) :
    Calls Tryd.prog 3 #[encC c A B ca cb, .int .i64 a, .int .i64 b] w fun e w' => e = .returned (.bool true) ∧ Below w.heap.size w w' := by
  obtain ⟨W0, hW0⟩ : ∃ W0, W0 = w.alloc (.cells (cellsC c A B ca cb).toArray 29) := ⟨_, rfl⟩
  have hb0 : Below w.heap.size w W0 := by rw [hW0]; exact (Below.refl _ w).alloc (Nat.le_refl _) _
  have hx : Bx W0 w.heap.size 29 (cellsC c A B ca cb) := by rw [hW0]; exact Bx.new w 29 (cellsC c A B ca cb)
  have hSh := cshown_any W0 (hw.below hb0) (hk.below hb0)
  have hFa := fun W (h : Below w.heap.size w W) => frames_any c A B ca cb 1 a W (hw.below h) (hk.below h) hwf (hc.below h) hl hs
  have hFb := fun W (h : Below w.heap.size w W) => frames_any c A B ca cb 1 b W (hw.below h) (hk.below h) hwf (hc.below h) hl hs
  have hra := (room_is a).2
  have hrb := (room_is b).2
  have HM : Hid (cFrsE c 1 (roomN a) = 0 → a ≤ b → cFrsE c 1 (roomN b) = 0 ∧ (cFrs c 1 (roomN b)).length ≤ (cFrs c 1 (roomN a)).length) := Lib.hid (fun h1 h2 => ⟨frsE_mono h1 (room_mono h2), frs_mono h1 (by omega) (room_mono h2)⟩)
  have HS : Hid (∀ f ∈ cFrs c 1 (roomN a), (f.d.size : Int) + 8 ≤ max a 4096) := Lib.hid (fun f hf => by
    have h1 := frs_small (by omega) f hf
    have h2 := @room_max a
    omega)
  have hla : (cFrs c 1 (roomN a)).length ≤ 65538 := frs_len (by omega)
  have hlb : (cFrs c 1 (roomN b)).length ≤ 65538 := frs_len (by omega)
  have HSm : Hid (∀ f ∈ cFrs c 1 (roomN a), f.d.size ≤ 131064) := Lib.hid (fun f hf => Nat.le_trans (frs_small (by omega) f hf) hra.2)
  unfold FrPost at hFa hFb
  generalize cFrs c 1 (roomN a) = La at *
  generalize cFrs c 1 (roomN b) = Lb at *
  generalize cFrsE c 1 (roomN a) = ea at *
  generalize cFrsE c 1 (roomN b) = eb at *
  clear hra hrb hwf hc hl hs hw hk
  unfold encC at hFa hFb ⊢
  unfold cellsC at hx hW0
  obtain ⟨⟨mc, mi, ml⟩, ⟨hc', hz', hf, hl⟩, sb⟩ := c
  dsimp only at hFa hFb hx hW0 ⊢
  go_enter Tryd.func3, Tryd.ntmps3
  go_wp2_with fail
  rw [← hW0]
  clear hW0
  go_wp2_with fail
  with_reducible refine hSh.mono ?_
  rintro e w1 ⟨rfl, hb1⟩
  have hB1 := hb0.trans (hb1.mono hb0.size)
  have hx1 := hx.kept hb1
  clear hSh hx hb1 hb0
  obtain ⟨x0, x1, x2, x3, x4, x5, x6, x7⟩ := hx1.eight
  go_wp2_with fail
  with_reducible refine (hFa w1 hB1).mono ?_
  rintro e w2 ⟨v2, rfl, hr2, hb2⟩
  have hB2 := hB1.trans (hb2.mono hB1.size)
  have hx2 := hx1.kept hb2
  clear hFa hx1 hb2 hB1 x0 x1 x2 x3 x4 x5 x6 x7
  obtain ⟨x0, x1, x2, x3, x4, x5, x6, x7⟩ := hx2.eight
  go_wp2_with fail
  with_reducible refine (hFb w2 hB2).mono ?_
  rintro e w3 ⟨v3, rfl, hr3, hb3⟩
  have hB3 := hB2.trans (hb3.mono hB2.size)
  have hr2' := rowKept hr2 hb3
  obtain ⟨A2, c2, rfl, hv2, -, -⟩ := vals_of_row3 hr2'
  obtain ⟨A3, c3, rfl, -, -, -⟩ := vals_of_row3 hr3
  clear hFb hx2 hb3 hB2 x0 x1 x2 x3 x4 x5 x6 x7 hr2 hr2' hr3
  by_cases he : ea = 0
  · subst he
    by_cases hab : b < a
    · clear HM HS HSm hv2
      go_wp2
      go_ret
      exact ⟨rfl, hB3⟩
    · have HM2 := Lib.hid (HM.out rfl (by omega))
      have hlen := HM2.out.2
      obtain rfl : eb = 0 := HM2.out.1
      have HLen := Lib.hid hlen
      obtain ⟨n, hn⟩ : ∃ n, La.length = n := ⟨_, rfl⟩
      obtain ⟨n', hn'⟩ : ∃ n', Lb.length = n' := ⟨_, rfl⟩
      have HN := Lib.hid hn
      rw [hn] at hla hlen ⊢
      rw [hn'] at hlb hlen ⊢
      clear HM HM2 HLen hn hn'
      go_upto_if 46 with fail
      go_cut [12] (fun v wx => v = .int .i64 (max a 4096) ∧ wx = w3)
      case first =>
        by_cases h4 : a < 4096
        · have H : Hid (max a 4096 = 4096) := Lib.hid (by omega)
          clear HS HSm
          go_wp2
          go_meet
          case rel => exact ⟨by rw [H.out], rfl⟩
        · have H : Hid (max a 4096 = a) := Lib.hid (by omega)
          clear HS HSm
          go_wp2
          go_meet
          case rel => exact ⟨by rw [H.out], rfl⟩
      case rest =>
        obtain ⟨rfl, rfl⟩ := hcut
        generalize max a 4096 = mx at HS ⊢
        go_wp2_with fail
        go_loop [13] (fun v => ∃ k : Nat, k ≤ n ∧ v = .int .i64 k) (fun v => n - (intOf v).toNat)
        case atStart => exact ⟨0, Nat.zero_le _, rfl⟩
        case round =>
          obtain ⟨k, hk, rfl⟩ := hrel
          by_cases hlt : k < n
          · have hkl : k < La.length := by rw [HN.out]; exact hlt
            obtain ⟨b1, o1, rfl, -, g1⟩ := vals_frame hv2 k hkl
            obtain ⟨-, -, x2⟩ := g1 _ (Below.refl _ _)
            have hsz := HS.out La[k] (List.getElem_mem hkl)
            have hsm := HSm.out La[k] (List.getElem_mem hkl)
            have e1 : IntKind.i64.wrap ((k : Int) + 1) = ((k + 1 : Nat) : Int) := by simp only [IntKind.wrap_i64]; omega
            generalize La[k] = f at x2 hsz hsm
            obtain ⟨ft, fc, fd⟩ := f
            dsimp only at x2 hsz hsm
            clear hv2 g1
            go_wp2
            go_round
            case rel => exact ⟨k + 1, hlt, rfl⟩
            case measure => simp only [intOf]; omega
          · obtain rfl : k = n := by omega
            clear hv2
            go_wp2
            go_ret
            exact ⟨rfl, hB3⟩
  · have t : (ea != 0) = true := by simpa using he
    clear HM HS HSm hv2 he
    go_wp2
    go_ret
    exact ⟨rfl, hB3⟩
end Go.Proofs.YtdgidbiolklneaaDoor
