/-
  ContentKinds' walk: a command's frames are a method, then, if a content follows, a head, then bodies; of a body of nothing none; each is right. Conditions: the tables of widths and of contents are as their texts lay them; the values lie in old memory, each number a uint64, each text shorter than 2^47 bytes.
-/
import Derived.Deep.DeepCutAuto
import Derived.Test.YtdgidbiolklneaaDoorJC1
import Derived.Test.YtdgidbiolklneaaDoorWCShown
import Derived.Test.YtdgidbiolklneaaDoorRFRight
namespace Go.Proofs.YtdgidbiolklneaaDoor
open Go.RowKit

set_option maxRecDepth 100000 in
set_option maxHeartbeats 4000000 in
theorem contentKinds_walk (c : Cm) (A B : Option Addr) (ca cb : Nat) (ch most : Int) (w : World) (hw : Wid w) (hk : Con w) (hwf : wfC c) (hc : CmAt w c A B ca cb) (hl : shortC c) (hs : c.b.size < 4611686018427387904) :
    Calls Tryd.prog 4 #[encC c A B ca cb, .int .i64 ch, .int .i64 most] w fun e w' => e = .returned (.bool true) ∧ Below w.heap.size w w' := by
  obtain ⟨W0, hW0⟩ : ∃ W0, W0 = w.alloc (.cells (cellsC c A B ca cb).toArray 29) := ⟨_, rfl⟩
  have hb0 : Below w.heap.size w W0 := by rw [hW0]; exact (Below.refl _ w).alloc (Nat.le_refl _) _
  have hx : Bx W0 w.heap.size 29 (cellsC c A B ca cb) := by rw [hW0]; exact Bx.new w 29 (cellsC c A B ca cb)
  have hSh := cshown_any W0 (hw.below hb0) (hk.below hb0)
  have hFr := fun W (h : Below w.heap.size w W) => frames_any c A B ca cb ch most W (hw.below h) (hk.below h) hwf (hc.below h) hl hs
  have hR := fun W (h : Below w.heap.size w W) => cright_any c A B ca cb W (hw.below h) (hk.below h) hwf (hc.below h) hl hs
  have hr := (room_is most).2
  have HE : Hid (¬ cFrsE c ch (roomN most) = 0 → ¬ cE c = 0 ∨ ch < 1 ∨ 65535 < ch ∨ cFrsE c ch (roomN most) = 4) := Lib.hid (fun h => frsE_one h)
  have HK : Hid (cFrsE c ch (roomN most) = 0 → ∀ k (hk : k < (cFrs c ch (roomN most)).length), frRight (cFrs c ch (roomN most))[k] = true ∧ (cFrs c ch (roomN most))[k].t = (if 3 < (k : Int) + 1 then 3 else (k : Int) + 1) ∧ (cFrs c ch (roomN most))[k].c = ch) := Lib.hid (fun h k hk => frs_kind (by omega) hr.2 h hk)
  have HN0 : Hid (cFrsE c ch (roomN most) = 0 → bodyN (cFrs c ch (roomN most)) (cFrs c ch (roomN most)).length = c.b.size) := Lib.hid (fun h => bodyN_all (by omega) h)
  have hlen : (cFrs c ch (roomN most)).length ≤ 65538 := frs_len (by omega)
  unfold FrPost at hFr
  generalize cFrs c ch (roomN most) = L at *
  generalize cFrsE c ch (roomN most) = E at *
  generalize cE c = ce at hR HE
  clear hr hwf hc hl hw hk
  unfold encC at hFr hR ⊢
  unfold cellsC at hx hW0
  obtain ⟨⟨mc, mi, ml⟩, ⟨hc', hz', hf, hl⟩, sb⟩ := c
  dsimp only at hFr hR hx hW0 hs HN0 ⊢
  go_enter Tryd.func4, Tryd.ntmps4
  go_wp2_with fail
  rw [← hW0]
  clear hW0
  go_wp2_with fail
  with_reducible refine hSh.mono ?_
  rintro e w1 ⟨rfl, hb1⟩
  have hB1 := hb0.trans (hb1.mono hb0.size)
  have hx1 := hx.kept hb1
  clear hSh hx hb1 hb0
  obtain ⟨x0, x1, x2, x3, x4, x5, x6, x7⟩ := hx1.eight
  go_wp2_with fail
  with_reducible refine (hFr w1 hB1).mono ?_
  rintro e w2 ⟨v2, rfl, hr2, hb2⟩
  have hB2 := hB1.trans (hb2.mono hB1.size)
  have hx2 := hx1.kept hb2
  obtain ⟨A2, c2, rfl, hv2, -, -⟩ := vals_of_row3 hr2
  clear hFr hx1 hb2 hB1 x0 x1 x2 x3 x4 x5 x6 x7 hr2
  by_cases he : E = 0
  · subst he
    have HK2 := Lib.hid (HK.out rfl)
    have HN2 := Lib.hid (HN0.out rfl)
    obtain ⟨n, hn⟩ : ∃ n, L.length = n := ⟨_, rfl⟩
    have HN := Lib.hid hn
    rw [hn] at hlen ⊢
    clear HE HK HN0 hR hn
    go_wp2_with fail
    go_loopw [10, 11] (fun m v wr => ∃ k : Nat, k ≤ n ∧ v = .int .i64 k ∧ m = .int .i64 (bodyN L k : Nat) ∧ Below w2.heap.size w2 wr) (fun _ v _ => n - (intOf v).toNat)
    case atStart => exact ⟨0, Nat.zero_le _, rfl, by rw [bodyN_zero]; rfl, Below.refl _ _⟩
    case round =>
      obtain ⟨k, hk, rfl, rfl, hb⟩ := hrel
      by_cases hlt : k < n
      · have hkl : k < L.length := by rw [HN.out]; exact hlt
        obtain ⟨b1, o1, rfl, -, g1⟩ := vals_frame hv2 k hkl
        have hle1 := bodyN_le L k (by omega)
        have hle2 := bodyN_le L (k + 1) (by omega)
        rw [HN2.out] at hle1 hle2
        have hsu := bodyN_succ L k hkl
        obtain ⟨f1, f2, f3⟩ := HK2.out k hkl
        have hRi := rright_any L[k]
        have e1 : IntKind.i64.wrap ((k : Int) + 1) = ((k + 1 : Nat) : Int) := by simp only [IntKind.wrap_i64]; omega
        rw [f1] at hRi
        generalize L[k] = f at g1 hsu f2 f3 hRi
        obtain ⟨N1, hN1⟩ : ∃ N1, bodyN L (k + 1) = N1 := ⟨_, rfl⟩
        have HN1 := Lib.hid hN1
        rw [hN1] at hsu hle2
        clear hN1
        generalize bodyN L k = N0 at hsu hle1 ⊢
        obtain ⟨ft, fc, fd⟩ := f
        dsimp only at g1 hsu f2 f3
        unfold encFr at hRi
        dsimp only at hRi
        subst f3
        obtain ⟨x0, x1, x2⟩ := g1 wr hb
        have HF2 := Lib.hid f2
        have HSU := Lib.hid hsu
        clear f2 hsu
        go_wp2_with fail
        with_reducible refine (hRi wr).mono ?_
        rintro e w4 ⟨rfl, hb4⟩
        have hb5 := hb.trans (hb4.mono hb.size)
        obtain ⟨y0, y1, y2⟩ := g1 w4 hb5
        clear hRi hb4 g1 x0 x1 x2 hv2
        have f2 := HF2.out
        have hsu := HSU.out
        clear HF2 HSU
        by_cases h3 : 3 < (k : Int) + 1
        · have h1 : 1 < k := by omega
          have hs1 : N1 = N0 + fd.size := by rw [hsu, if_pos h1]
          obtain rfl : ft = 3 := by rw [f2, if_pos h3]
          have e2 : IntKind.i64.wrap ((N0 : Int) + (fd.size : Int)) = (N1 : Int) := by simp only [IntKind.wrap_i64]; omega
          clear hsu f2
          go_wp2
          go_roundw
          case rel => exact ⟨k + 1, hlt, rfl, by rw [HN1.out]; congr 1; omega, hb5⟩
          case measure => simp only [intOf]; omega
        · obtain rfl : ft = (k : Int) + 1 := by rw [f2, if_neg h3]
          clear f2
          by_cases h1 : 1 < k
          · have hs1 : N1 = N0 + fd.size := by rw [hsu, if_pos h1]
            have e2 : IntKind.i64.wrap ((N0 : Int) + (fd.size : Int)) = (N1 : Int) := by simp only [IntKind.wrap_i64]; omega
            clear hsu
            go_wp2
            go_roundw
            case rel => exact ⟨k + 1, hlt, rfl, by rw [HN1.out]; congr 1; omega, hb5⟩
            case measure => simp only [intOf]; omega
          · have hs1 : N0 = N1 := by rw [hsu, if_neg h1]; rfl
            subst hs1
            clear hsu
            go_wp2
            go_roundw
            case rel => exact ⟨k + 1, hlt, rfl, by rw [HN1.out], hb5⟩
            case measure => simp only [intOf]; omega
      · obtain rfl : k = n := by omega
        have hN : bodyN L k = sb.size := by rw [← HN.out]; exact HN2.out
        have z7 := (hx2.kept hb).eight.2.2.2.2.2.2.2
        rw [hN]
        clear hN hv2
        go_wp2
        go_ret
        exact ⟨rfl, hB2.trans (hb.mono hB2.size)⟩
  · have t : (E != 0) = true := by simpa using he
    have hE := HE.out he
    obtain ⟨x0, x1, x2, x3, x4, x5, x6, x7⟩ := hx2.eight
    clear HE HK HN0 hv2 he
    go_wp2_with fail
    with_reducible refine (hR w2 hB2).mono ?_
    rintro e w3 ⟨rfl, hb3⟩
    have hB3 := hB2.trans (hb3.mono hB2.size)
    clear hR hx2 hb3 hB2 x0 x1 x2 x3 x4 x5 x6 x7
    by_cases h0 : ce = 0
    · rcases hE with h | h | h | h
      · exact absurd h0 h
      · subst h0
        go_wp2
        go_ret
        exact ⟨rfl, hB3⟩
      · subst h0
        by_cases h1 : ch < 1
        · go_wp2
          go_ret
          exact ⟨rfl, hB3⟩
        · go_wp2
          go_ret
          exact ⟨rfl, hB3⟩
      · subst h0
        subst h
        by_cases h1 : ch < 1
        · go_wp2
          go_ret
          exact ⟨rfl, hB3⟩
        · by_cases h2 : 65535 < ch
          · go_wp2
            go_ret
            exact ⟨rfl, hB3⟩
          · go_wp2
            go_ret
            exact ⟨rfl, hB3⟩
    · have t2 : (ce != 0) = true := by simpa using h0
      clear hE h0
      go_wp2
      go_ret
      exact ⟨rfl, hB3⟩
end Go.Proofs.YtdgidbiolklneaaDoor
