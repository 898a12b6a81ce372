/-
  content.Frames answers a command's frames in a row of its own, or why there are none; nothing that was there is changed. Conditions: the tables of widths and of contents are as their texts lay them; the values lie in old memory, each number a uint64, each text shorter than 2^47 bytes.
-/
import Derived.WalkMore
import Derived.Deep.LoopGhost
import Derived.Deep.RegionHeld3
import Derived.Deep.DeepCutAuto
import Derived.Test.YtllgkohgcicbhaaGreatDoorJC1
import Derived.Test.YtllgkohgcicbhaaGreatDoorJC2
import Derived.Test.YtllgkohgcicbhaaGreatDoorZB
import Derived.Test.YtllgkohgcicbhaaGreatDoorZE
namespace Go.Proofs.YtllgkohgcicbhaaGreatDoor
open Go.RowKit

def FrPost (c : Cm) (ch : Int) (r : Nat) (w : World) (e : Ending) (w' : World) : Prop :=
  ∃ v, e = .returned (.tuple #[v, .int .i64 (cFrsE c ch r)]) ∧ w'.ownsRow w.heap.size 33 3 v (cFrs c ch r).length (rowFr (cFrs c ch r)) ∧ Below w.heap.size w w'
def notFr (t : TypeId) : Bool := t != 33
/-- what the outer loop holds -/
structure FrI (w : World) (D : Nat → List ByteArray) (r B1 B2 : Nat) (cs : List Value) (acc : List Fr) (k : Nat) (wr : World) (o : Value) : Prop where
  row : wr.ownsRow w.heap.size 33 3 o acc.length (rowFr acc)
  bx : Bx wr B1 29 cs
  by' : Boxed wr B2 3 (.int .i64 (r : Int))
  bel : Below w.heap.size w wr
  sz : ∀ i, i < k → ∀ p ∈ D i, p.size ≤ r
theorem rowFr_map (l : List Fr) (ch : Int) (k : Nat) (d : List ByteArray) (j : Nat) (hj : j < d.length) : rowFr (l ++ (d.take (j + 1)).map (frOf ch k)) = rowFr (l ++ (d.take j).map (frOf ch k)) ++ [.int .i64 ((k : Int) + 1), .int .i64 ch, .string d[j]] := by
  rw [List.take_add_one, List.getElem?_eq_getElem hj, Option.toList_some, List.map_append, ← List.append_assoc, List.map_cons, List.map_nil, rowFr_snoc]
  rfl
theorem strs_at {W : World} {N n c : Nat} {A : Option Addr} {d : List ByteArray} (h : W.ownsRow N 9 1 (.slice A n c) n (d.map Value.string)) {j : Nat} (hj : j < d.length) : ∃ b o, A = some ⟨b, o, none⟩ ∧ W.cell? ⟨b, o + j, none⟩ = some (.string d[j]) := by
  obtain ⟨A', c', e, hv, -⟩ := row_form h
  cases e
  obtain ⟨b, o, hA, -, hc⟩ := hv (by rw [List.length_map]; omega)
  exact ⟨b, o, hA, by rw [hc j (by rw [List.length_map]; exact hj), List.getElem_map]⟩
theorem idx3 (k : Nat) (hk : k < 3) (W : World) : (Instr.index 75 (.agg #[.int .i64 1, .int .i64 2, .int .i64 3]) (.int .i64 (k : Int))).run Tryz.prog W = .ok (.int .i64 ((k : Int) + 1)) W := by
  have a0 : (Instr.index 75 (.agg #[.int .i64 1, .int .i64 2, .int .i64 3]) (.int .i64 0)).run Tryz.prog W = .ok (.int .i64 1) W := by kernel_rfl
  have a1 : (Instr.index 75 (.agg #[.int .i64 1, .int .i64 2, .int .i64 3]) (.int .i64 1)).run Tryz.prog W = .ok (.int .i64 2) W := by kernel_rfl
  have a2 : (Instr.index 75 (.agg #[.int .i64 1, .int .i64 2, .int .i64 3]) (.int .i64 2)).run Tryz.prog W = .ok (.int .i64 3) W := by kernel_rfl
  match k, hk with
  | 0, _ => exact a0
  | 1, _ => exact a1
  | 2, _ => exact a2
/-- what the inner loop holds -/
structure FrJ (w w2 : World) (d : List ByteArray) (r : Nat) (ch : Int) (acc : List Fr) (k j : Nat) (wy : World) (o : Value) : Prop where
  row : wy.ownsRow w.heap.size 33 3 o (acc ++ (d.take j).map (frOf ch k)).length (rowFr (acc ++ (d.take j).map (frOf ch k)))
  kp : Keeps notFr w2 wy
  bel : Below w.heap.size w wy
  sz : ∀ p ∈ d.take j, p.size ≤ r
theorem take_mem {d : List ByteArray} {j : Nat} {q : ByteArray → Prop} (h : ∀ p ∈ d.take j, q p) (hj : j < d.length) (hq : q d[j]) : ∀ p ∈ d.take (j + 1), q p := by
  intro p hp
  rw [List.take_add_one, List.getElem?_eq_getElem hj, Option.toList_some, List.mem_append, List.mem_singleton] at hp
  rcases hp with hp | rfl
  · exact h p hp
  · exact hq

set_option maxRecDepth 100000 in
set_option maxHeartbeats 4000000 in
theorem frames_any (c : Cm) (A B : Option Addr) (ca cb : Nat) (ch most : Int) (w : World) (hw : Wid w) (hk : Con w) (hwf : wfC c) (hc : CmAt w c A B ca cb) (hl : shortC c) (hs : c.b.size < 4611686018427387904) :
    Calls Tryz.prog 10 #[encC c A B ca cb, .int .i64 ch, .int .i64 most] w (FrPost c ch (roomN most) w) := by
  obtain ⟨hro, hr1, hr2⟩ := room_is most
  obtain ⟨i0, hi, hz0, hz1, hz2⟩ := info_parts3 infoFrame
  obtain ⟨W0, hW0⟩ : ∃ W0, W0 = w.alloc (.cells (cellsC c A B ca cb).toArray 29) := ⟨_, rfl⟩
  have hb0 : Below w.heap.size w W0 := by rw [hW0]; exact (Below.refl _ w).alloc (Nat.le_refl _) _
  have hx : Bx W0 w.heap.size 29 (cellsC c A B ca cb) := by rw [hW0]; exact Bx.new w 29 (cellsC c A B ca cb)
  have hR := cright_any c A B ca cb W0 (hw.below hb0) (hk.below hb0) hwf (hc.below hb0) hl hs
  have hF := fun W hW => follows_any c.m A ca W hW
  have HRo : Hid (min (max most 4096) 131072 - 8 = ((roomN most : Nat) : Int)) := Lib.hid (by rw [hro]; rfl)
  generalize roomN most = r at hr1 hr2 HRo ⊢
  clear hro
  have hP := fun W => pieces_any c A B ca cb r W
  have HP1 : Hid (∀ B1 B2 (k : Nat) W, c.b.size ≤ 1048576 → Below w.heap.size w W → Bx W B1 29 (cellsC c A B ca cb) → Boxed W B2 3 (.int .i64 (r : Int)) → Calls Tryz.prog 50 #[.int .i64 ((k : Int) + 1), .pointer (some ⟨B1, 0, none⟩), .pointer (some ⟨B2, 0, none⟩)] W fun e w' => ∃ v, e = .returned v ∧ w'.ownsRow W.heap.size 9 1 v (frD c r k).length ((frD c r k).map Value.string) ∧ Below W.heap.size W w') :=
    Lib.hid (fun B1 B2 k W h1 h2 h3 h4 => piece_any c A B ca cb r B1 B2 ((k : Int) + 1) W (hw.below h2) hwf (hc.below h2) h1 (by omega) h3 h4)
  have HCmd : Hid (¬ cE c = 0 → cFrsE c ch r = cE c ∧ cFrs c ch r = []) := Lib.hid (fun h => by
    have e := frE_cmd (ch := ch) (r := r) h
    exact ⟨e, frs_none (by rw [e]; exact h)⟩)
  have HChn : Hid (cE c = 0 → (ch < 1 ∨ 65535 < ch) → cFrsE c ch r = 1 ∧ cFrs c ch r = []) := Lib.hid (fun h1 h2 => by
    have e := frE_chan (r := r) h1 h2
    exact ⟨e, frs_none (by rw [e]; decide)⟩)
  have HBad : Hid (cE c = 0 → (1 ≤ ch ∧ ch ≤ 65535) → ∀ k, k < 3 → (k = 0 ∨ fol c.m = true) → ∀ p ∈ frD c r k, r < p.size → cFrsE c ch r = 4 ∧ cFrs c ch r = []) := Lib.hid (fun h1 h2 k hk hf p hp hb => by
    have e := fr_bad (by omega) h1 h2 hk hf hp hb
    exact ⟨e, frs_none (by rw [e]; decide)⟩)
  have HEnd : Hid (cE c = 0 → (1 ≤ ch ∧ ch ≤ 65535) → fol c.m = true → (∀ i, i < 3 → ∀ p ∈ frD c r i, p.size ≤ r) → cFrsE c ch r = 0 ∧ cFrs c ch r = accF c ch r 3) := Lib.hid (fun h1 h2 hf h => by
    have e := fr_good h1 h2 (h 0 (by decide)) (fun _ => h 1 (by decide))
    exact ⟨e, by rw [frs_some e, acc_all ch r hf]⟩)
  have HOne : Hid (cE c = 0 → (1 ≤ ch ∧ ch ≤ 65535) → fol c.m = false → (∀ p ∈ frD c r 0, p.size ≤ r) → cFrsE c ch r = 0 ∧ cFrs c ch r = accF c ch r 0 ++ ((frD c r 0).take 1).map (frOf ch 0)) := Lib.hid (fun h1 h2 hf h => by
    have e := fr_good h1 h2 h (fun h' => by rw [hf] at h'; cases h')
    exact ⟨e, by rw [frs_some e, ← acc_one ch r hf, frD0]; rfl⟩)
  have HSm : Hid (cE c = 0 → c.b.size ≤ 65536) := Lib.hid (fun h => cE_small h)
  have HLen : Hid (c.b.size ≤ 65536 → ∀ k, k < 3 → (accF c ch r k).length + (frD c r k).length ≤ 65538) := Lib.hid (fun h k hk => fr_len ch (by omega) h hk)
  have HAcc : Hid (∀ k, accF c ch r (k + 1) = accF c ch r k ++ (frD c r k).map (frOf ch k)) := Lib.hid (fun _ => rfl)
  have HAcc0 : Hid (accF c ch r 0 = []) := Lib.hid rfl
  have HD0 : Hid ((frD c r 0).length = 1) := Lib.hid rfl
  unfold FrPost
  generalize cFrs c ch r = L at HCmd HChn HBad HEnd HOne ⊢
  generalize cFrsE c ch r = E at HCmd HChn HBad HEnd HOne ⊢
  generalize frD c r = D at HP1 HBad HEnd HOne HLen HAcc HD0
  generalize accF c ch r = acc at HEnd HOne HLen HAcc HAcc0
  generalize fol c.m = fl at hF HBad HEnd HOne
  generalize cE c = ce at hR HCmd HChn HBad HEnd HOne HSm
  have HWC : Hid (∀ W, Below w.heap.size w W → Con W) := Lib.hid (fun W h => hk.below h)
  unfold encM at hF
  unfold encC at hR hP ⊢
  obtain ⟨cs, hcs⟩ : ∃ cs, cs = cellsC c A B ca cb := ⟨_, rfl⟩
  have HCS := Lib.hid hcs
  rw [← hcs] at HP1 hP
  unfold cellsC at hx hW0
  clear hl hs hwf hc hcs hw hk
  obtain ⟨⟨mc, mi, ml⟩, ⟨hc', hz', hf, hl⟩, sb⟩ := c
  dsimp only at hR hP hF hx hW0 HP1 HSm HLen ⊢
  go_enter Tryz.func10, Tryz.ntmps10
  go_wp2_with fail
  rw [← hW0]
  clear hW0
  go_step3
  obtain ⟨x0, x1, x2, x3, x4, x5, x6, x7⟩ := hx.eight
  go_wp2_with fail
  with_reducible refine hR.mono ?_
  rintro e w1 ⟨rfl, hb1⟩
  have hB1 := hb0.trans (hb1.mono hb0.size)
  have hx1 := hx.kept hb1
  clear hR hx hb1 hb0 x0 x1 x2 x3 x4 x5 x6 x7
  by_cases hce : ce = 0
  · subst hce
    by_cases hc1 : ch < 1
    · have HF := Lib.hid (HChn.out rfl (.inl hc1))
      clear HCmd HChn HBad HEnd HOne HSm HLen HAcc HAcc0 HD0 HP1 hP hF hx1
      go_wp2
      rw [Exit.noGoto_ret]
      go_ret2
      exact ⟨_, by rw [HF.out.1]; rfl, by rw [HF.out.2]; exact World.ownsRow_nil _ _ _ _, hB1⟩
    · by_cases hc2 : 65535 < ch
      · have HF := Lib.hid (HChn.out rfl (.inr hc2))
        clear HCmd HChn HBad HEnd HOne HSm HLen HAcc HAcc0 HD0 HP1 hP hF hx1
        go_wp2
        rw [Exit.noGoto_ret]
        go_ret2
        exact ⟨_, by rw [HF.out.1]; rfl, by rw [HF.out.2]; exact World.ownsRow_nil _ _ _ _, hB1⟩
      · have hcc : 1 ≤ ch ∧ ch ≤ 65535 := ⟨by omega, by omega⟩
        have HBad2 := Lib.hid (HBad.out rfl hcc)
        have HEnd2 := Lib.hid (HEnd.out rfl hcc)
        have HOne2 := Lib.hid (HOne.out rfl hcc)
        have hsm := HSm.out rfl
        have HLen2 := Lib.hid (HLen.out hsm)
        have HP2 := Lib.hid (fun B1 B2 k W => HP1.out B1 B2 k W (by omega))
        have HCC := Lib.hid hcc
        clear HCmd HChn HBad HEnd HOne HSm HLen HP1 hsm hcc
        go_upto_region 7 with fail
        rw [HRo.out]
        clear HRo
        have keep : ∀ w', Below w1.heap.size w1 w' → w'.cell? ⟨w.heap.size, 0, none⟩ = some (.int .i64 mc) ∧ w'.cell? ⟨w.heap.size, 1, none⟩ = some (.int .i64 mi) ∧ w'.cell? ⟨w.heap.size, 2, none⟩ = some (.slice A ml.length ca) ∧ w'.cell? ⟨w.heap.size, 3, none⟩ = some (.int .i64 hc') ∧ w'.cell? ⟨w.heap.size, 4, none⟩ = some (.int .u64 hz') ∧ w'.cell? ⟨w.heap.size, 5, none⟩ = some (.int .u64 hf) ∧ w'.cell? ⟨w.heap.size, 6, none⟩ = some (.slice B hl.length cb) ∧ w'.cell? ⟨w.heap.size, 7, none⟩ = some (.string sb) := fun w' h => (hx1.kept h).eight
        have con6 : ∀ w', Below w1.heap.size w1 w' → Con w' := fun w' h => HWC.out w' (hB1.trans (h.mono hB1.size))
        obtain ⟨x0, x1, x2, x3, x4, x5, x6, x7⟩ := keep w1 (Below.refl _ _)
        have hbs := hB1.size
        clear hx1
        go_region_held3 (fun w' => w'.cell? ⟨w.heap.size, 0, none⟩ = some (.int .i64 mc) ∧ w'.cell? ⟨w.heap.size, 1, none⟩ = some (.int .i64 mi) ∧ w'.cell? ⟨w.heap.size, 2, none⟩ = some (.slice A ml.length ca) ∧ w'.cell? ⟨w.heap.size, 3, none⟩ = some (.int .i64 hc') ∧ w'.cell? ⟨w.heap.size, 4, none⟩ = some (.int .u64 hz') ∧ w'.cell? ⟨w.heap.size, 5, none⟩ = some (.int .u64 hf) ∧ w'.cell? ⟨w.heap.size, 6, none⟩ = some (.slice B hl.length cb) ∧ w'.cell? ⟨w.heap.size, 7, none⟩ = some (.string sb)) (first | go_keep | (exact keep _ ⟨hq.os, hq.tape, hq.output, hq.size, hq.block⟩) | (exact keep _ (Below.trans ⟨hq.os, hq.tape, hq.output, hq.size, hq.block⟩ (hq2.mono hq.size)))) (first | (go_at_call 25; refine (hP _).mono ?_; rintro e w10 ⟨B1, B2, rfl, g1, g2, g3, g4, hq⟩) | (go_at_call 26; refine (hF _ (con6 _ ⟨hq.os, hq.tape, hq.output, hq.size, hq.block⟩)).mono ?_; rintro e w11 ⟨rfl, hq2⟩))
        have hf2 : Below w1.heap.size w1 w11 := Below.trans ⟨hq.os, hq.tape, hq.output, hq.size, hq.block⟩ (hq2.mono hq.size)
        have hB2 := hB1.trans (hf2.mono hbs)
        have k1 := g1.kept hq2
        have k2 := boxed_below g2 hq2 g2.lt
        have hI : FrI w D r B1 B2 cs (acc 0) 0 w11 (.slice none 0 0) := ⟨by rw [HAcc0.out]; exact World.ownsRow_nil _ _ _ _, k1, k2, hB2, fun i hi => absurd hi (Nat.not_lt_zero i)⟩
        clear keep con6 x0 x1 x2 x3 x4 x5 x6 x7 hP hF hq hq2 g1 g2 g3 g4 hf2 hbs k1 k2 hB1 hB2
        go_wp2_with fail
        go_step3
        go_wp2_with fail
        go_loopg [12, 40] 3 (fun g o x wr => ∃ k : Nat, k + g = 3 ∧ x = .int .i64 k ∧ (k = 0 ∨ fl = true) ∧ FrI w D r B1 B2 cs (acc k) k wr o)
        case atStart => exact ⟨0, rfl, rfl, .inl rfl, hI⟩
        case round =>
          obtain ⟨k, hkg, rfl, hkf, HI⟩ := hrel
          clear hI
          cases gk with
          | zero =>
            obtain rfl : k = 3 := by omega
            have hfl : fl = true := hkf.resolve_left (by decide)
            have HF := Lib.hid (HEnd2.out hfl HI.sz)
            have Hrow := Lib.hid HI.row
            have hbel := HI.bel
            clear HEnd2 HOne2 HBad2 HLen2 HI
            go_wp2
            go_ret2
            exact ⟨_, by rw [HF.out.1]; rfl, by rw [HF.out.2]; exact Hrow.out, hbel⟩
          | succ g =>
            have hk3 : k < 3 := by omega
            have hix := idx3 k hk3
            have hcall := HP2.out B1 B2 k wr HI.bel HI.bx HI.by'
            have hlen := HLen2.out k hk3
            have HBad3 := Lib.hid (HBad2.out k hk3 hkf)
            have HAk := Lib.hid (HAcc.out k)
            have e1 : IntKind.i64.wrap ((k : Int) + 1) = ((k + 1 : Nat) : Int) := by simp only [IntKind.wrap_i64]; omega
            have HD : Hid (k = 0 → (D k).length = 1) := Lib.hid (fun h => by rw [h]; exact HD0.out)
            have HO : Hid (k = 0 → fl = false → (∀ p ∈ D k, p.size ≤ r) → E = 0 ∧ L = acc k ++ ((D k).take 1).map (frOf ch k)) := Lib.hid (fun h hf hp => by subst h; exact HOne2.out hf hp)
            have HSZ := Lib.hid HI.sz
            generalize hd : D k = d at hcall hlen HBad3 HAk HD HO
            have HDk := Lib.hid hd
            clear hd HBad2 HLen2 HOne2 HD0
            go_wp2_with fail
            with_reducible refine hcall.mono ?_
            rintro e w2 ⟨v, rfl, hown, hb2⟩
            obtain ⟨A2, c2, rfl, -, -⟩ := row_form hown
            have hJ0 : FrJ w w2 d r ch (acc k) k 0 w2 u12 := ⟨by simpa using rowKept HI.row hb2, Keeps.refl _ _, HI.bel.trans (hb2.mono HI.bel.size), fun p hp => by simp at hp⟩
            have kx := HI.bx.kept hb2
            have ky := boxed_below HI.by' hb2 HI.by'.lt
            clear hcall HI hb2 hix
            obtain ⟨n, hn⟩ : ∃ n, d.length = n := ⟨_, rfl⟩
            have HN := Lib.hid hn
            rw [hn] at hown hlen HD ⊢
            clear hn
            go_wp2_with fail
            go_loopg [12, 47] n (fun g2 o x wy => ∃ j : Nat, j + g2 = n ∧ x = .int .i64 j ∧ (j = 0 ∨ fl = true) ∧ FrJ w w2 d r ch (acc k) k j wy o)
            case atStart => exact ⟨0, by omega, rfl, .inl rfl, hJ0⟩
            case round =>
              obtain ⟨j, hjg, rfl, hjf, HJ⟩ := hrel
              clear hJ0
              have hbz := HJ.bel.size
              cases gk with
              | zero =>
                obtain rfl : j = n := by omega
                have htk : d.take j = d := List.take_of_length_le (by rw [HN.out]; exact Nat.le_refl _)
                have hfl : fl = true := by
                  rcases hjf with h | h
                  · rcases hkf with h2 | h2
                    · have := HD.out h2; omega
                    · exact h2
                  · exact h
                have HI2 : FrI w D r B1 B2 cs (acc (k + 1)) (k + 1) wr u12 := ⟨by rw [HAk.out, ← htk]; exact HJ.row, HJ.kp.bx kx (by decide), HJ.kp.boxed ky (by decide), HJ.bel, fun i hi p hp => by
                  rcases Nat.lt_or_ge i k with h | h
                  · exact HSZ.out i h p hp
                  · obtain rfl : i = k := by omega
                    rw [HDk.out, ← htk] at hp
                    exact HJ.sz p hp⟩
                clear HJ hown kx ky hlen
                go_wp2
                go_roundg g
                case measure => omega
                case rel => exact ⟨k + 1, by omega, rfl, .inr hfl, HI2⟩
              | succ g2 =>
                have hjn : j < d.length := by rw [HN.out]; omega
                obtain ⟨b, off, rfl, hcell⟩ := strs_at (HJ.kp.row hown (by decide)) hjn
                have e2 : IntKind.i64.wrap ((j : Int) + 1) = ((j + 1 : Nat) : Int) := by simp only [IntKind.wrap_i64]; omega
                have hmem : d[j] ∈ d := List.getElem_mem hjn
                have HB3 := Lib.hid (HBad3.out d[j] hmem)
                have HT := Lib.hid (fun (h : (d[j]).size ≤ r) => take_mem HJ.sz hjn h)
                have HRow := Lib.hid (rowFr_map (acc k) ch k d j hjn)
                have HLn : Hid ((acc k ++ (d.take (j + 1)).map (frOf ch k)).length = (acc k ++ (d.take j).map (frOf ch k)).length + 1) := Lib.hid (by
                  rw [List.length_append, List.length_append, List.length_map, List.length_map, List.length_take, List.length_take]; omega)
                have hln : (acc k ++ (d.take j).map (frOf ch k)).length + 1 ≤ 65539 := by
                  rw [List.length_append, List.length_map, List.length_take]; omega
                generalize d[j] = p at hcell HB3 HT HRow
                clear hmem HBad3
                by_cases hbig : r < p.size
                · have HF := Lib.hid (HB3.out hbig)
                  have hbel := HJ.bel
                  clear HB3 HT HRow HJ hown kx ky HLn
                  go_wp2
                  rw [Exit.noGoto_ret]
                  go_ret2
                  exact ⟨_, by rw [HF.out.1]; rfl, by rw [HF.out.2]; exact World.ownsRow_nil _ _ _ _, hbel⟩
                · have HT2 := Lib.hid (HT.out (by omega))
                  have hrow := HJ.row
                  generalize acc k ++ (d.take j).map (frOf ch k) = pre at hrow hln HLn HRow
                  clear HB3 HT
                  go_wp2_with (first
                    | (at_builtin; refine wpList_append_own _ rfl _ _ 42 rfl w.heap.size 33 i0 (.agg #[.int .i64 0, .int .i64 0, .string ⟨#[]⟩]) 3 32 Tryz.underlying42 hi hz0 hz1 hz2 rfl (by decide) _ _ _ rfl (hrow.alloc _) ⟨wr.heap.size, 0, none⟩ 1 1 [.int .i64 ((k : Int) + 1), .int .i64 ch, .string p] rfl rfl ?cells (by simp [Value.oneCell']) (by unfold maxLen; omega) (by omega) (by simp at hbz ⊢; omega) ?_))
                  case cells => exact cell_three_new wr _ _ _ _
                  intro o' w4 hown' hgrow _
                  have hb4 := rowBelow (Nat.le_refl _) hrow HJ.bel hgrow
                  have kp4 := (HJ.kp.trans (Keeps.below ((Below.refl _ wr).alloc (Nat.le_refl _) (.cells #[.int .i64 ((k : Int) + 1), .int .i64 ch, .string p] 33)))).trans (Keeps.grown (hrow.alloc _) hgrow (by decide))
                  have HJ2 : FrJ w w2 d r ch (acc k) k (j + 1) w4 o' := ⟨by rw [HRow.out, HLn.out]; exact hown', kp4, hb4, HT2.out⟩
                  clear HJ hown' hgrow hb4 kp4 HRow HLn HT2 hln hown kx ky hrow
                  cases fl
                  · have hk0 : k = 0 := hkf.resolve_right (by decide)
                    have hj0 : j = 0 := hjf.resolve_right (by decide)
                    have hbel := HJ2.bel
                    have HF := Lib.hid (HO.out hk0 rfl (fun q hq => HJ2.sz q (by rw [hj0, List.take_of_length_le (by rw [HN.out, HD.out hk0]; exact Nat.le_refl _)]; exact hq)))
                    have HR : Hid (w4.ownsRow w.heap.size 33 3 o' L.length (rowFr L)) := Lib.hid (by
                      have := HJ2.row
                      rw [hj0] at this
                      rw [HF.out.2]
                      exact this)
                    clear HJ2 hk0 hj0
                    go_wp2
                    go_ret2
                    exact ⟨_, by rw [HF.out.1]; rfl, HR.out, hbel⟩
                  · go_wp2
                    go_roundg g2
                    case measure => omega
                    case rel => exact ⟨j + 1, by omega, rfl, .inr trivial, HJ2⟩
  · have HF := Lib.hid (HCmd.out hce)
    have t : (ce != 0) = true := by simpa using hce
    clear HCmd HChn HBad HEnd HOne HSm HLen HAcc HAcc0 HD0 HP1 hP hF hce hx1
    go_wp2
    rw [Exit.noGoto_ret]
    go_ret2
    exact ⟨_, by rw [HF.out.1]; rfl, by rw [HF.out.2]; exact World.ownsRow_nil _ _ _ _, hB1⟩
end Go.Proofs.YtllgkohgcicbhaaGreatDoor
