/-
  ContentOnly's walk: what comes out whole is right; with an error, and behind a whole command, nothing is left. Conditions: the tables of widths and of contents are as their texts lay them; the frames lie in old memory, each of fewer than 2^62 bytes.
-/
import Derived.Deep.RegionHeld3
import Derived.Deep.DeepCutAuto
import Derived.Test.YtllgkohgcicbhaaGreatDoorMTwo
import Derived.Test.YtllgkohgcicbhaaGreatDoorWFeedC
import Derived.Test.YtllgkohgcicbhaaGreatDoorWIdle
import Derived.Test.YtllgkohgcicbhaaGreatDoorWCShown
import Derived.Test.YtllgkohgcicbhaaGreatDoorRCRight
import Derived.Test.YtllgkohgcicbhaaGreatDoorWLSame
namespace Go.Proofs.YtllgkohgcicbhaaGreatDoor
open Go.RowKit

set_option maxRecDepth 100000 in
set_option maxHeartbeats 8000000 in
theorem contentOnly_walk (l : List Fr) (A : Option Addr) (cap : Nat) (w : World) (hw : Wid w) (hk : Con w) (hv : ValsAt w A (rowFr l)) (hs : ∀ f ∈ l, f.d.size < 2305843009213693952) :
    Calls Tryz.prog 5 #[.slice A l.length cap] w fun e w' => e = .returned (.bool true) ∧ Below w.heap.size w w' := by
  have hSh := cshown_any w hw hk
  have HFd : Hid (∀ (a : As) QA QB qa qb (f : Fr) W, Below w.heap.size w W → CInvS a → f.d.size < 2305843009213693952 → CmAt W a.c QA QB qa qb → Calls Tryz.prog 8 #[encAs a QA QB qa qb, encFr f] W (FdPost (feed a f.t f.d) W)) := Lib.hid (fun a QA QB qa qb f W h1 h2 h4 h5 => by
    obtain ⟨g1, g2, g3, g4⟩ := inv_small h2
    exact feed_any a QA QB qa qb f.t f.c f.d W (hw.below h1) (hk.below h1) ⟨by omega, by omega⟩ h5 (by omega) (by omega) (by omega) (by omega))
  have HSz : Hid (∀ k (hk : k < l.length), (l[k]).d.size < 2305843009213693952) := Lib.hid (fun k hk => hs _ (List.getElem_mem hk))
  have HS : Hid (∀ (a : As) QA QB qa qb W, CInvS a → CmAt W a.c QA QB qa qb → Calls Tryz.prog 12 #[encAs a QA QB qa qb, encAs as0 none none 0 0] W fun e w' => e = .returned (.bool (sameA a as0)) ∧ Below W.heap.size W w') := Lib.hid (fun a QA QB qa qb W h1 h2 => by
    obtain ⟨g1, g2, g3, g4⟩ := inv_small h1
    exact lsame_any a as0 QA QB none none qa qb 0 0 W h2 (cmAt0 W) ⟨by omega, by omega⟩)
  have HI : Hid (∀ (a : As) QA QB qa qb W, Calls Tryz.prog 18 #[encAs a QA QB qa qb] W fun e w' => e = .returned (.bool (a.st == 0)) ∧ Below W.heap.size W w') := Lib.hid (fun a QA QB qa qb W => idle_any a QA QB qa qb W)
  have HS0 : Hid (∀ QA QB qa qb W, CmAt W cm0 QA QB qa qb → Calls Tryz.prog 13 #[encC cm0 QA QB qa qb, encC cm0 none none 0 0] W fun e w' => e = .returned (.bool true) ∧ Below W.heap.size W w') := Lib.hid (fun QA QB qa qb W h => by
    have h := rcsame_any cm0 cm0 QA QB none none qa qb 0 0 W h (cmAt0 W) ⟨by decide, by decide⟩
    rw [(sameC_iff cm0 cm0).2 rfl] at h
    exact h)
  have HRt : Hid (∀ (c : Cm) QA QB qa qb W, wfC c → cE c = 0 → c.b.size ≤ 65536 → CmAt W c QA QB qa qb → Calls Tryz.prog 16 #[encC c QA QB qa qb] W fun e w' => e = .returned (.int .i64 0) ∧ Below W.heap.size W w') := Lib.hid (fun c QA QB qa qb W h1 h2 h3 h4 => by
    have g1 : c.m.l.length ≤ 16 := mE_short (cE_parts h2).1
    have g2 : c.h.l.length ≤ 16 := by
      obtain ⟨-, ⟨-, g, -⟩ | ⟨-, g, -⟩⟩ := cE_parts h2
      · exact Nat.le_trans (hE_short g) (by decide)
      · rw [g]; exact Nat.zero_le _
    have h := rright8_any c QA QB qa qb W h1 h4 ⟨by omega, by omega⟩ (by omega)
    rw [h2] at h
    exact h)
  clear hw hk hs
  obtain ⟨n, hn⟩ : ∃ n, l.length = n := ⟨_, rfl⟩
  have HN := Lib.hid hn
  rw [hn]
  clear hn
  go_enter Tryz.func5, Tryz.ntmps5
  go_wp2_with fail
  with_reducible refine hSh.mono ?_
  rintro e w2 ⟨rfl, hB2⟩
  have hv2 := hv.below hB2
  clear hSh hv
  by_cases h100 : (100 : Int) < (n : Int)
  · clear HFd HS HI HS0 HRt hv2
    go_wp2
    go_ret
    exact ⟨rfl, hB2⟩
  · obtain ⟨W3, hW3⟩ : ∃ W3, W3 = w2.alloc (.cells #[.int .i64 0, .int .i64 0, .int .i64 0, .slice none 0 0, .int .i64 0, .int .u64 0, .int .u64 0, .slice none 0 0, .string ⟨#[]⟩] 31) := ⟨_, rfl⟩
    have hb3 : Below w2.heap.size w2 W3 := by rw [hW3]; exact (Below.refl _ w2).alloc (Nat.le_refl _) _
    have ha3 : Bx W3 w2.heap.size 31 [.int .i64 0, .int .i64 0, .int .i64 0, .slice none 0 0, .int .i64 0, .int .u64 0, .int .u64 0, .slice none 0 0, .string ⟨#[]⟩] := by rw [hW3]; exact Bx.new w2 _ _
    go_upto_region 5 with fail
    rw [← hW3]
    clear hW3
    go_wp2_with fail
    go_loopw [5] (fun v wr => ∃ (k : Nat) (a : As) (QA QB : Option Addr) (qa qb : Nat), k ≤ n ∧ v = .int .i64 k ∧ Bx wr w2.heap.size 31 (cellsAs a QA QB qa qb) ∧ CmAt wr a.c QA QB qa qb ∧ Hid (CInvS a) ∧ Below w2.heap.size w2 wr) (fun v _ => n - (intOf v).toNat)
    case atStart => exact ⟨0, as0, none, none, 0, 0, Nat.zero_le _, rfl, ha3, cmAt0 _, Lib.hid invS0, hb3⟩
    case round =>
      obtain ⟨k, a, QA, QB, qa, qb, hk, rfl, hbx, hcm, Ha, hb⟩ := hrel
      clear ha3 hb3
      by_cases hlt : k < n
      · have hkl : k < l.length := by rw [HN.out]; exact hlt
        obtain ⟨b1, off, rfl, hbl, g1⟩ := vals_frame hv2 k hkl
        have f3 := HSz.out k hkl
        have hT := fun W (h : Below wr.heap.size wr W) => HFd.out a QA QB qa qb l[k] W (hB2.trans ((hb.trans (h.mono hb.size)).mono hB2.size)) Ha.out f3 (hcm.below h)
        obtain ⟨-, hw3, h3⟩ := feed_inv Ha.out.1 (l[k]).t (l[k]).d (fun m hm => tm_wf hm)
        have H3 := Lib.hid h3
        have HWf := Lib.hid hw3
        have HIn := Lib.hid (feed_invS Ha.out (l[k]).t (l[k]).d)
        generalize feed a (l[k]).t (l[k]).d = fdv at hT H3 HWf HIn
        generalize l[k] = f at g1 hT
        clear f3 Ha h3 hw3
        obtain ⟨ft, fc, fd⟩ := f
        obtain ⟨q0, ⟨⟨q1, q2, ql⟩, ⟨q4, q5, q6, qm⟩, q8⟩⟩ := a
        obtain ⟨⟨s0, ⟨⟨s1, s2, sl⟩, ⟨s4, s5, s6, sm⟩, s8⟩⟩, ⟨⟨o1, o2, ol⟩, ⟨o4, o5, o6, om⟩, o8⟩, ob, oe⟩ := fdv
        unfold FdPost encAs encFr encC at hT
        unfold cellsAs at hbx
        dsimp only at hT hbx g1 hcm H3 HWf HIn
        have hbs := hb.size
        have keep : ∀ w', Below wr.heap.size wr w' → w'.cell? ⟨w2.heap.size, 0, none⟩ = some (.int .i64 q0) ∧ w'.cell? ⟨w2.heap.size, 1, none⟩ = some (.int .i64 q1) ∧ w'.cell? ⟨w2.heap.size, 2, none⟩ = some (.int .i64 q2) ∧ w'.cell? ⟨w2.heap.size, 3, none⟩ = some (.slice QA ql.length qa) ∧ w'.cell? ⟨w2.heap.size, 4, none⟩ = some (.int .i64 q4) ∧ w'.cell? ⟨w2.heap.size, 5, none⟩ = some (.int .u64 q5) ∧ w'.cell? ⟨w2.heap.size, 6, none⟩ = some (.int .u64 q6) ∧ w'.cell? ⟨w2.heap.size, 7, none⟩ = some (.slice QB qm.length qb) ∧ w'.cell? ⟨w2.heap.size, 8, none⟩ = some (.string q8) ∧ w'.cell? ⟨b1, off + k * 3, none⟩ = some (.int .i64 ft) ∧ w'.cell? ⟨b1, off + k * 3 + 1, none⟩ = some (.int .i64 fc) ∧ w'.cell? ⟨b1, off + k * 3 + 2, none⟩ = some (.string fd) := fun w' h => by
          obtain ⟨e0, e1, e2, e3, e4, e5, e6, e7, e8⟩ := (hbx.kept h).nine
          obtain ⟨z0, z1, z2⟩ := g1 w' (hb.trans (h.mono hb.size))
          exact ⟨e0, e1, e2, e3, e4, e5, e6, e7, e8, z0, z1, z2⟩
        have i0 : (0 : Int) ≤ (k : Int) := by omega
        have i1 : (k : Int) < (n : Int) := by omega
        have hq0 : Below wr.heap.size wr wr.drew := (Below.refl _ wr).drew
        have hT0 := hT _ hq0
        have hqa : Below wr.heap.size wr (wr.alloc (.cells #[.int .i64 0, .int .i64 0, .int .i64 0, .slice none 0 0, .int .i64 0, .int .u64 0, .int .u64 0, .slice none 0 0, .string ⟨#[]⟩] 31)).drew := ((Below.refl _ wr).alloc (Nat.le_refl _) _).drew
        have hTa := hT _ hqa
        have hqb : Below wr.heap.size wr (wr.alloc (.cells #[.int .i64 0, .int .i64 0, .slice none 0 0, .int .i64 0, .int .u64 0, .int .u64 0, .slice none 0 0, .string ⟨#[]⟩] 29)).drew := ((Below.refl _ wr).alloc (Nat.le_refl _) _).drew
        have hTb := hT _ hqb
        have hqab : Below wr.heap.size wr ((wr.alloc (.cells #[.int .i64 0, .int .i64 0, .int .i64 0, .slice none 0 0, .int .i64 0, .int .u64 0, .int .u64 0, .slice none 0 0, .string ⟨#[]⟩] 31)).alloc (.cells #[.int .i64 0, .int .i64 0, .slice none 0 0, .int .i64 0, .int .u64 0, .int .u64 0, .slice none 0 0, .string ⟨#[]⟩] 29)).drew := (((Below.refl _ wr).alloc (Nat.le_refl _) _).alloc (by simp) _).drew
        have hTab := hT _ hqab
        have hqba : Below wr.heap.size wr ((wr.alloc (.cells #[.int .i64 0, .int .i64 0, .slice none 0 0, .int .i64 0, .int .u64 0, .int .u64 0, .slice none 0 0, .string ⟨#[]⟩] 29)).alloc (.cells #[.int .i64 0, .int .i64 0, .int .i64 0, .slice none 0 0, .int .i64 0, .int .u64 0, .int .u64 0, .slice none 0 0, .string ⟨#[]⟩] 31)).drew := (((Below.refl _ wr).alloc (Nat.le_refl _) _).alloc (by simp) _).drew
        have hTba := hT _ hqba
        have bxa : Bx (wr.alloc (.cells #[.int .i64 0, .int .i64 0, .int .i64 0, .slice none 0 0, .int .i64 0, .int .u64 0, .int .u64 0, .slice none 0 0, .string ⟨#[]⟩] 31)).drew wr.heap.size 31 [.int .i64 0, .int .i64 0, .int .i64 0, .slice none 0 0, .int .i64 0, .int .u64 0, .int .u64 0, .slice none 0 0, .string ⟨#[]⟩] := Bx.new wr 31 [.int .i64 0, .int .i64 0, .int .i64 0, .slice none 0 0, .int .i64 0, .int .u64 0, .int .u64 0, .slice none 0 0, .string ⟨#[]⟩]
        have bxb : Bx (wr.alloc (.cells #[.int .i64 0, .int .i64 0, .slice none 0 0, .int .i64 0, .int .u64 0, .int .u64 0, .slice none 0 0, .string ⟨#[]⟩] 29)).drew wr.heap.size 29 [.int .i64 0, .int .i64 0, .slice none 0 0, .int .i64 0, .int .u64 0, .int .u64 0, .slice none 0 0, .string ⟨#[]⟩] := Bx.new wr 29 [.int .i64 0, .int .i64 0, .slice none 0 0, .int .i64 0, .int .u64 0, .int .u64 0, .slice none 0 0, .string ⟨#[]⟩]
        have bxab1 : Bx ((wr.alloc (.cells #[.int .i64 0, .int .i64 0, .int .i64 0, .slice none 0 0, .int .i64 0, .int .u64 0, .int .u64 0, .slice none 0 0, .string ⟨#[]⟩] 31)).alloc (.cells #[.int .i64 0, .int .i64 0, .slice none 0 0, .int .i64 0, .int .u64 0, .int .u64 0, .slice none 0 0, .string ⟨#[]⟩] 29)).drew wr.heap.size 31 [.int .i64 0, .int .i64 0, .int .i64 0, .slice none 0 0, .int .i64 0, .int .u64 0, .int .u64 0, .slice none 0 0, .string ⟨#[]⟩] := (Bx.new wr 31 [.int .i64 0, .int .i64 0, .int .i64 0, .slice none 0 0, .int .i64 0, .int .u64 0, .int .u64 0, .slice none 0 0, .string ⟨#[]⟩]).alloc _
        have bxab2 : Bx ((wr.alloc (.cells #[.int .i64 0, .int .i64 0, .int .i64 0, .slice none 0 0, .int .i64 0, .int .u64 0, .int .u64 0, .slice none 0 0, .string ⟨#[]⟩] 31)).alloc (.cells #[.int .i64 0, .int .i64 0, .slice none 0 0, .int .i64 0, .int .u64 0, .int .u64 0, .slice none 0 0, .string ⟨#[]⟩] 29)).drew (wr.heap.size + 1) 29 [.int .i64 0, .int .i64 0, .slice none 0 0, .int .i64 0, .int .u64 0, .int .u64 0, .slice none 0 0, .string ⟨#[]⟩] := by have h := Bx.new (wr.alloc (.cells #[.int .i64 0, .int .i64 0, .int .i64 0, .slice none 0 0, .int .i64 0, .int .u64 0, .int .u64 0, .slice none 0 0, .string ⟨#[]⟩] 31)) 29 [.int .i64 0, .int .i64 0, .slice none 0 0, .int .i64 0, .int .u64 0, .int .u64 0, .slice none 0 0, .string ⟨#[]⟩]; rw [World.size_alloc] at h; exact h
        have bxba1 : Bx ((wr.alloc (.cells #[.int .i64 0, .int .i64 0, .slice none 0 0, .int .i64 0, .int .u64 0, .int .u64 0, .slice none 0 0, .string ⟨#[]⟩] 29)).alloc (.cells #[.int .i64 0, .int .i64 0, .int .i64 0, .slice none 0 0, .int .i64 0, .int .u64 0, .int .u64 0, .slice none 0 0, .string ⟨#[]⟩] 31)).drew wr.heap.size 29 [.int .i64 0, .int .i64 0, .slice none 0 0, .int .i64 0, .int .u64 0, .int .u64 0, .slice none 0 0, .string ⟨#[]⟩] := (Bx.new wr 29 [.int .i64 0, .int .i64 0, .slice none 0 0, .int .i64 0, .int .u64 0, .int .u64 0, .slice none 0 0, .string ⟨#[]⟩]).alloc _
        have bxba2 : Bx ((wr.alloc (.cells #[.int .i64 0, .int .i64 0, .slice none 0 0, .int .i64 0, .int .u64 0, .int .u64 0, .slice none 0 0, .string ⟨#[]⟩] 29)).alloc (.cells #[.int .i64 0, .int .i64 0, .int .i64 0, .slice none 0 0, .int .i64 0, .int .u64 0, .int .u64 0, .slice none 0 0, .string ⟨#[]⟩] 31)).drew (wr.heap.size + 1) 31 [.int .i64 0, .int .i64 0, .int .i64 0, .slice none 0 0, .int .i64 0, .int .u64 0, .int .u64 0, .slice none 0 0, .string ⟨#[]⟩] := by have h := Bx.new (wr.alloc (.cells #[.int .i64 0, .int .i64 0, .slice none 0 0, .int .i64 0, .int .u64 0, .int .u64 0, .slice none 0 0, .string ⟨#[]⟩] 29)) 31 [.int .i64 0, .int .i64 0, .int .i64 0, .slice none 0 0, .int .i64 0, .int .u64 0, .int .u64 0, .slice none 0 0, .string ⟨#[]⟩]; rw [World.size_alloc] at h; exact h
        clear hT
        go_upto_region 8 with fail
        go_cut [6, 7, 8, 9] from 17 to 79 (fun p q b e wx => TwoAt wr.heap.size wx p q ⟨s0, ⟨⟨s1, s2, sl⟩, ⟨s4, s5, s6, sm⟩, s8⟩⟩ ⟨⟨o1, o2, ol⟩, ⟨o4, o5, o6, om⟩, o8⟩ ∧ b = .bool ob ∧ e = .int .i64 oe ∧ Below wr.heap.size wr wx)
        case first =>
          go_region_held3 (fun w' => w'.cell? ⟨w2.heap.size, 0, none⟩ = some (.int .i64 q0) ∧ w'.cell? ⟨w2.heap.size, 1, none⟩ = some (.int .i64 q1) ∧ w'.cell? ⟨w2.heap.size, 2, none⟩ = some (.int .i64 q2) ∧ w'.cell? ⟨w2.heap.size, 3, none⟩ = some (.slice QA ql.length qa) ∧ w'.cell? ⟨w2.heap.size, 4, none⟩ = some (.int .i64 q4) ∧ w'.cell? ⟨w2.heap.size, 5, none⟩ = some (.int .u64 q5) ∧ w'.cell? ⟨w2.heap.size, 6, none⟩ = some (.int .u64 q6) ∧ w'.cell? ⟨w2.heap.size, 7, none⟩ = some (.slice QB qm.length qb) ∧ w'.cell? ⟨w2.heap.size, 8, none⟩ = some (.string q8) ∧ w'.cell? ⟨b1, off + k * 3, none⟩ = some (.int .i64 ft) ∧ w'.cell? ⟨b1, off + k * 3 + 1, none⟩ = some (.int .i64 fc) ∧ w'.cell? ⟨b1, off + k * 3 + 2, none⟩ = some (.string fd)) (first | (with_reducible exact keep _ hfU) | (with_reducible exact keep _ hfT) | (with_reducible exact keep _ (hfS.alloc hfS.size _)) | (with_reducible exact keep _ hfS) | (with_reducible exact keep _ ((hf.alloc hf.size _).alloc (hf.alloc hf.size _).size _)) | (with_reducible exact keep _ (hf.alloc hf.size _)) | (with_reducible exact keep _ hf) | (with_reducible exact keep _ hqba) | (with_reducible exact keep _ hqab) | (with_reducible exact keep _ hqb) | (with_reducible exact keep _ hqa) | (with_reducible exact keep _ hq0)) (first | (go_at_call 8; with_reducible refine hT0.mono ?_; rintro e w9 ⟨A1, B1, A2, B2, c1, c2, c3, c4, rfl, hc1, hc2, hr9⟩; have hf : Below wr.heap.size wr w9 := hq0.trans (hr9.mono hq0.size); have hzz := hf.size; have hm0 := hf) | (go_at_call 8; with_reducible refine hTa.mono ?_; rintro e w9 ⟨A1, B1, A2, B2, c1, c2, c3, c4, rfl, hc1, hc2, hr9⟩; have hf : Below wr.heap.size wr w9 := hqa.trans (hr9.mono hqa.size); have hzz := hf.size; have ba := bxa.kept hr9; have bla := bxa.lt; obtain ⟨xa0, xf0, xa1, xf1, xa2, xf2, xa3, xf3, xa4, xf4, xa5, xf5, xa6, xf6, xa7, xf7, xa8, xf8, bS⟩ := ba.store9 (.int .i64 s0) (.int .i64 s1) (.int .i64 s2) (.slice A1 sl.length c1) (.int .i64 s4) (.int .u64 s5) (.int .u64 s6) (.slice B1 sm.length c2) (.string s8); have hfS := below_store9 hf (B := wr.heap.size) (Nat.le_refl _) (.int .i64 s0) (.int .i64 s1) (.int .i64 s2) (.slice A1 sl.length c1) (.int .i64 s4) (.int .u64 s5) (.int .u64 s6) (.slice B1 sm.length c2) (.string s8); have bb := ba.alloc (.cells #[.int .i64 0, .int .i64 0, .slice none 0 0, .int .i64 0, .int .u64 0, .int .u64 0, .slice none 0 0, .string ⟨#[]⟩] 29); obtain ⟨ya0, yf0, ya1, yf1, ya2, yf2, ya3, yf3, ya4, yf4, ya5, yf5, ya6, yf6, ya7, yf7, ya8, yf8, bT⟩ := bb.store9 (.int .i64 s0) (.int .i64 s1) (.int .i64 s2) (.slice A1 sl.length c1) (.int .i64 s4) (.int .u64 s5) (.int .u64 s6) (.slice B1 sm.length c2) (.string s8); have hfT := below_store9 (hf.alloc hf.size (.cells #[.int .i64 0, .int .i64 0, .slice none 0 0, .int .i64 0, .int .u64 0, .int .u64 0, .slice none 0 0, .string ⟨#[]⟩] 29)) (B := wr.heap.size) (Nat.le_refl _) (.int .i64 s0) (.int .i64 s1) (.int .i64 s2) (.slice A1 sl.length c1) (.int .i64 s4) (.int .u64 s5) (.int .u64 s6) (.slice B1 sm.length c2) (.string s8); have bn := ((((((((((Bx.new w9 29 [.int .i64 0, .int .i64 0, .slice none 0 0, .int .i64 0, .int .u64 0, .int .u64 0, .slice none 0 0, .string ⟨#[]⟩]).other (B' := wr.heap.size) (by have := hr9.size; simp at this ⊢; omega) 0 (.int .i64 s0)).other (B' := wr.heap.size) (by have := hr9.size; simp at this ⊢; omega) 1 (.int .i64 s1)).other (B' := wr.heap.size) (by have := hr9.size; simp at this ⊢; omega) 2 (.int .i64 s2)).other (B' := wr.heap.size) (by have := hr9.size; simp at this ⊢; omega) 3 (.slice A1 sl.length c1)).other (B' := wr.heap.size) (by have := hr9.size; simp at this ⊢; omega) 4 (.int .i64 s4)).other (B' := wr.heap.size) (by have := hr9.size; simp at this ⊢; omega) 5 (.int .u64 s5)).other (B' := wr.heap.size) (by have := hr9.size; simp at this ⊢; omega) 6 (.int .u64 s6)).other (B' := wr.heap.size) (by have := hr9.size; simp at this ⊢; omega) 7 (.slice B1 sm.length c2)).other (B' := wr.heap.size) (by have := hr9.size; simp at this ⊢; omega) 8 (.string s8)); obtain ⟨yc0, yg0, yc1, yg1, yc2, yg2, yc3, yg3, yc4, yg4, yc5, yg5, yc6, yg6, yc7, yg7, bU⟩ := bn.store8 (.int .i64 o1) (.int .i64 o2) (.slice A2 ol.length c3) (.int .i64 o4) (.int .u64 o5) (.int .u64 o6) (.slice B2 om.length c4) (.string o8); have hfU := below_store8 hfT (B := w9.heap.size) hf.size (.int .i64 o1) (.int .i64 o2) (.slice A2 ol.length c3) (.int .i64 o4) (.int .u64 o5) (.int .u64 o6) (.slice B2 om.length c4) (.string o8); have bT2 := ((((((((bT.other (B' := w9.heap.size) (by have := hr9.size; simp at this ⊢; omega) 0 (.int .i64 o1)).other (B' := w9.heap.size) (by have := hr9.size; simp at this ⊢; omega) 1 (.int .i64 o2)).other (B' := w9.heap.size) (by have := hr9.size; simp at this ⊢; omega) 2 (.slice A2 ol.length c3)).other (B' := w9.heap.size) (by have := hr9.size; simp at this ⊢; omega) 3 (.int .i64 o4)).other (B' := w9.heap.size) (by have := hr9.size; simp at this ⊢; omega) 4 (.int .u64 o5)).other (B' := w9.heap.size) (by have := hr9.size; simp at this ⊢; omega) 5 (.int .u64 o6)).other (B' := w9.heap.size) (by have := hr9.size; simp at this ⊢; omega) 6 (.slice B2 om.length c4)).other (B' := w9.heap.size) (by have := hr9.size; simp at this ⊢; omega) 7 (.string o8))) | (go_at_call 8; with_reducible refine hTb.mono ?_; rintro e w9 ⟨A1, B1, A2, B2, c1, c2, c3, c4, rfl, hc1, hc2, hr9⟩; have hf : Below wr.heap.size wr w9 := hqb.trans (hr9.mono hqb.size); have hzz := hf.size; have bb := (bxb.kept hr9).alloc (.cells #[.int .i64 s0, .int .i64 s1, .int .i64 s2, .slice A1 sl.length c1, .int .i64 s4, .int .u64 s5, .int .u64 s6, .slice B1 sm.length c2, .string s8] 31); obtain ⟨zc0, zg0, zc1, zg1, zc2, zg2, zc3, zg3, zc4, zg4, zc5, zg5, zc6, zg6, zc7, zg7, bU⟩ := bb.store8 (.int .i64 o1) (.int .i64 o2) (.slice A2 ol.length c3) (.int .i64 o4) (.int .u64 o5) (.int .u64 o6) (.slice B2 om.length c4) (.string o8); have hfU := below_store8 (hf.alloc hf.size (.cells #[.int .i64 s0, .int .i64 s1, .int .i64 s2, .slice A1 sl.length c1, .int .i64 s4, .int .u64 s5, .int .u64 s6, .slice B1 sm.length c2, .string s8] 31)) (B := wr.heap.size) (Nat.le_refl _) (.int .i64 o1) (.int .i64 o2) (.slice A2 ol.length c3) (.int .i64 o4) (.int .u64 o5) (.int .u64 o6) (.slice B2 om.length c4) (.string o8); have bT2 := (((((((((Bx.new w9 31 [.int .i64 s0, .int .i64 s1, .int .i64 s2, .slice A1 sl.length c1, .int .i64 s4, .int .u64 s5, .int .u64 s6, .slice B1 sm.length c2, .string s8]).other (B' := wr.heap.size) (by have := hr9.size; simp at this ⊢; omega) 0 (.int .i64 o1)).other (B' := wr.heap.size) (by have := hr9.size; simp at this ⊢; omega) 1 (.int .i64 o2)).other (B' := wr.heap.size) (by have := hr9.size; simp at this ⊢; omega) 2 (.slice A2 ol.length c3)).other (B' := wr.heap.size) (by have := hr9.size; simp at this ⊢; omega) 3 (.int .i64 o4)).other (B' := wr.heap.size) (by have := hr9.size; simp at this ⊢; omega) 4 (.int .u64 o5)).other (B' := wr.heap.size) (by have := hr9.size; simp at this ⊢; omega) 5 (.int .u64 o6)).other (B' := wr.heap.size) (by have := hr9.size; simp at this ⊢; omega) 6 (.slice B2 om.length c4)).other (B' := wr.heap.size) (by have := hr9.size; simp at this ⊢; omega) 7 (.string o8))) | (go_at_call 8; with_reducible refine hTab.mono ?_; rintro e w9 ⟨A1, B1, A2, B2, c1, c2, c3, c4, rfl, hc1, hc2, hr9⟩; have hf : Below wr.heap.size wr w9 := hqab.trans (hr9.mono hqab.size); have hzz := hf.size; have b1 := bxab1.kept hr9; have b2 := bxab2.kept hr9; obtain ⟨ua0, uf0, ua1, uf1, ua2, uf2, ua3, uf3, ua4, uf4, ua5, uf5, ua6, uf6, ua7, uf7, ua8, uf8, bS⟩ := b1.store9 (.int .i64 s0) (.int .i64 s1) (.int .i64 s2) (.slice A1 sl.length c1) (.int .i64 s4) (.int .u64 s5) (.int .u64 s6) (.slice B1 sm.length c2) (.string s8); have hfS := below_store9 hf (B := wr.heap.size) (Nat.le_refl _) (.int .i64 s0) (.int .i64 s1) (.int .i64 s2) (.slice A1 sl.length c1) (.int .i64 s4) (.int .u64 s5) (.int .u64 s6) (.slice B1 sm.length c2) (.string s8); have b3 := (((((((((b2.other (B' := wr.heap.size) (by omega) 0 (.int .i64 s0)).other (B' := wr.heap.size) (by omega) 1 (.int .i64 s1)).other (B' := wr.heap.size) (by omega) 2 (.int .i64 s2)).other (B' := wr.heap.size) (by omega) 3 (.slice A1 sl.length c1)).other (B' := wr.heap.size) (by omega) 4 (.int .i64 s4)).other (B' := wr.heap.size) (by omega) 5 (.int .u64 s5)).other (B' := wr.heap.size) (by omega) 6 (.int .u64 s6)).other (B' := wr.heap.size) (by omega) 7 (.slice B1 sm.length c2)).other (B' := wr.heap.size) (by omega) 8 (.string s8)); obtain ⟨uc0, ug0, uc1, ug1, uc2, ug2, uc3, ug3, uc4, ug4, uc5, ug5, uc6, ug6, uc7, ug7, bU⟩ := b3.store8 (.int .i64 o1) (.int .i64 o2) (.slice A2 ol.length c3) (.int .i64 o4) (.int .u64 o5) (.int .u64 o6) (.slice B2 om.length c4) (.string o8); have hfU := below_store8 hfS (B := wr.heap.size + 1) (by omega) (.int .i64 o1) (.int .i64 o2) (.slice A2 ol.length c3) (.int .i64 o4) (.int .u64 o5) (.int .u64 o6) (.slice B2 om.length c4) (.string o8); have bT2 := ((((((((bS.other (B' := (wr.heap.size + 1)) (by omega) 0 (.int .i64 o1)).other (B' := (wr.heap.size + 1)) (by omega) 1 (.int .i64 o2)).other (B' := (wr.heap.size + 1)) (by omega) 2 (.slice A2 ol.length c3)).other (B' := (wr.heap.size + 1)) (by omega) 3 (.int .i64 o4)).other (B' := (wr.heap.size + 1)) (by omega) 4 (.int .u64 o5)).other (B' := (wr.heap.size + 1)) (by omega) 5 (.int .u64 o6)).other (B' := (wr.heap.size + 1)) (by omega) 6 (.slice B2 om.length c4)).other (B' := (wr.heap.size + 1)) (by omega) 7 (.string o8))) | (go_at_call 8; with_reducible refine hTba.mono ?_; rintro e w9 ⟨A1, B1, A2, B2, c1, c2, c3, c4, rfl, hc1, hc2, hr9⟩; have hf : Below wr.heap.size wr w9 := hqba.trans (hr9.mono hqba.size); have hzz := hf.size; have b1 := bxba2.kept hr9; have b2 := bxba1.kept hr9; obtain ⟨ta0, tf0, ta1, tf1, ta2, tf2, ta3, tf3, ta4, tf4, ta5, tf5, ta6, tf6, ta7, tf7, ta8, tf8, bS⟩ := b1.store9 (.int .i64 s0) (.int .i64 s1) (.int .i64 s2) (.slice A1 sl.length c1) (.int .i64 s4) (.int .u64 s5) (.int .u64 s6) (.slice B1 sm.length c2) (.string s8); have hfS := below_store9 hf (B := wr.heap.size + 1) (by omega) (.int .i64 s0) (.int .i64 s1) (.int .i64 s2) (.slice A1 sl.length c1) (.int .i64 s4) (.int .u64 s5) (.int .u64 s6) (.slice B1 sm.length c2) (.string s8); have b3 := (((((((((b2.other (B' := (wr.heap.size + 1)) (by omega) 0 (.int .i64 s0)).other (B' := (wr.heap.size + 1)) (by omega) 1 (.int .i64 s1)).other (B' := (wr.heap.size + 1)) (by omega) 2 (.int .i64 s2)).other (B' := (wr.heap.size + 1)) (by omega) 3 (.slice A1 sl.length c1)).other (B' := (wr.heap.size + 1)) (by omega) 4 (.int .i64 s4)).other (B' := (wr.heap.size + 1)) (by omega) 5 (.int .u64 s5)).other (B' := (wr.heap.size + 1)) (by omega) 6 (.int .u64 s6)).other (B' := (wr.heap.size + 1)) (by omega) 7 (.slice B1 sm.length c2)).other (B' := (wr.heap.size + 1)) (by omega) 8 (.string s8)); obtain ⟨tc0, tg0, tc1, tg1, tc2, tg2, tc3, tg3, tc4, tg4, tc5, tg5, tc6, tg6, tc7, tg7, bU⟩ := b3.store8 (.int .i64 o1) (.int .i64 o2) (.slice A2 ol.length c3) (.int .i64 o4) (.int .u64 o5) (.int .u64 o6) (.slice B2 om.length c4) (.string o8); have hfU := below_store8 hfS (B := wr.heap.size) (Nat.le_refl _) (.int .i64 o1) (.int .i64 o2) (.slice A2 ol.length c3) (.int .i64 o4) (.int .u64 o5) (.int .u64 o6) (.slice B2 om.length c4) (.string o8); have bT2 := ((((((((bS.other (B' := wr.heap.size) (by omega) 0 (.int .i64 o1)).other (B' := wr.heap.size) (by omega) 1 (.int .i64 o2)).other (B' := wr.heap.size) (by omega) 2 (.slice A2 ol.length c3)).other (B' := wr.heap.size) (by omega) 3 (.int .i64 o4)).other (B' := wr.heap.size) (by omega) 4 (.int .u64 o5)).other (B' := wr.heap.size) (by omega) 5 (.int .u64 o6)).other (B' := wr.heap.size) (by omega) 6 (.slice B2 om.length c4)).other (B' := wr.heap.size) (by omega) 7 (.string o8))))
          all_goals
            go_wp2_with fail
            go_meet
            case rel => first | (obtain ⟨h1, h2⟩ := two_0a hc1 hc2 hf; with_reducible exact ⟨h1, rfl, rfl, h2⟩) | (obtain ⟨h1, h2⟩ := two_0b hc1 hc2 hf; with_reducible exact ⟨h1, rfl, rfl, h2⟩) | (obtain ⟨h1, h2⟩ := two_a1 hc1 hc2 hf hr9; with_reducible exact ⟨h1, rfl, rfl, h2⟩) | (obtain ⟨h1, h2⟩ := two_a2 hc1 hc2 hf hr9; with_reducible exact ⟨h1, rfl, rfl, h2⟩) | (obtain ⟨h1, h2⟩ := two_b hc1 hc2 hf hr9; with_reducible exact ⟨h1, rfl, rfl, h2⟩) | (obtain ⟨h1, h2⟩ := two_ab hc1 hc2 hf hr9; with_reducible exact ⟨h1, rfl, rfl, h2⟩) | (obtain ⟨h1, h2⟩ := two_ba hc1 hc2 hf hr9; with_reducible exact ⟨h1, rfl, rfl, h2⟩)
        case rest =>
          obtain ⟨⟨n1, n2, A1, B1, A2, B2, c1, c2, c3, c4, rfl, rfl, hn1', hn2', hp, hq, hc1, hc2⟩, rfl, rfl, hcc⟩ := hcut
          have hlt2 := hbx.lt
          have hB3 := hb.trans (hcc.mono hb.size)
          have hbx2 := hbx.kept hcc
          clear keep hbx hcc hbs g1 hq0 hT0 hqa hTa hqb hTb hqab hTab hqba hTba bxa bxb bxab1 bxab2 bxba1 bxba2
          have hSm := HS.out ⟨s0, ⟨⟨s1, s2, sl⟩, ⟨s4, s5, s6, sm⟩, s8⟩⟩ A1 B1 c1 c2 wc HIn.out hc1
          have hIl := HI.out ⟨s0, ⟨⟨s1, s2, sl⟩, ⟨s4, s5, s6, sm⟩, s8⟩⟩ A1 B1 c1 c2
          unfold cellsAs at hp
          unfold cellsC at hq
          unfold encAs at hSm hIl
          dsimp only [as0, cm0, noH, List.length_nil] at hp hq hc1 hc2 hSm hIl
          obtain ⟨qs, hqs⟩ : ∃ qs, sameA ⟨s0, ⟨⟨s1, s2, sl⟩, ⟨s4, s5, s6, sm⟩, s8⟩⟩ ⟨0, ⟨⟨0, 0, []⟩, ⟨0, 0, 0, []⟩, ⟨#[]⟩⟩⟩ = qs := ⟨_, rfl⟩
          rw [hqs] at hSm
          have HQ := Lib.hid hqs
          clear hqs
          obtain ⟨y0, y1, y2, y3, y4, y5, y6, y7, y8⟩ := hp.nine
          go_wp2_with fail
          with_reducible refine hSm.mono ?_
          rintro e w7 ⟨rfl, hb7⟩
          have hB7 := hB3.trans (hb7.mono hB3.size)
          have hp7 := hp.kept hb7
          have hq7 := hq.kept hb7
          have hbx7 := hbx2.kept hb7
          have hc7 := hc1.below hb7
          have hd7 := hc2.below hb7
          clear hSm hb7 hp hq hc1 hc2 hbx2 hB3 y0 y1 y2 y3 y4 y5 y6 y7 y8
          rcases H3.out with ⟨rfl, rfl, h0, hcE, hbz⟩ | ⟨rfl, hne, h0, hc0⟩ | ⟨rfl, rfl, hne, hc0⟩
          · have hq1 : qs = true := by
              rw [← HQ.out]
              exact (sameA_iff _ _).2 h0
            subst hq1
            have hRg := HRt.out ⟨⟨o1, o2, ol⟩, ⟨o4, o5, o6, om⟩, o8⟩ A2 B2 c3 c4 w7 HWf.out hcE hbz hd7
            unfold encC at hRg
            dsimp only at hRg
            have HIn2 := HIn
            clear HQ H3 HWf hcE h0 hbz hIl
            obtain ⟨x0, x1, x2, x3, x4, x5, x6, x7⟩ := hq7.eight
            go_wp2_with fail
            with_reducible refine hRg.mono ?_
            rintro e w8 ⟨rfl, hb8⟩
            have hB8 := hB7.trans (hb8.mono hB7.size)
            have hp8 := hp7.kept hb8
            have hbx8 := hbx7.kept hb8
            have hc8 := hc7.below hb8
            clear hRg hb8 hp7 hq7 hbx7 hc7 hd7 hB7 x0 x1 x2 x3 x4 x5 x6 x7
            obtain ⟨y0, y1, y2, y3, y4, y5, y6, y7, y8⟩ := hp8.nine
            obtain ⟨a0, f0, a1, f1, a2, f2, a3, f3, a4, f4, a5, f5, a6, f6, a7, f7, a8, f8, bR⟩ := hbx8.store9 (.int .i64 s0) (.int .i64 s1) (.int .i64 s2) (.slice A1 sl.length c1) (.int .i64 s4) (.int .u64 s5) (.int .u64 s6) (.slice B1 sm.length c2) (.string s8)
            have hBz := below_store9 hB8 (B := w2.heap.size) (Nat.le_refl _) (.int .i64 s0) (.int .i64 s1) (.int .i64 s2) (.slice A1 sl.length c1) (.int .i64 s4) (.int .u64 s5) (.int .u64 s6) (.slice B1 sm.length c2) (.string s8)
            have hcz := Lib.hid (hc8.store9 hbx8 (noVal_asm _ _ _ _ _ _ _ _ _ (fun r h => by cases h) (fun k n h => by cases h)) (.int .i64 s0) (.int .i64 s1) (.int .i64 s2) (.slice A1 sl.length c1) (.int .i64 s4) (.int .u64 s5) (.int .u64 s6) (.slice B1 sm.length c2) (.string s8))
            clear hp8 hbx8 hc8 hB8 hv2
            go_wp2
            go_roundw
            case rel => exact ⟨k + 1, ⟨s0, ⟨⟨s1, s2, sl⟩, ⟨s4, s5, s6, sm⟩, s8⟩⟩, A1, B1, c1, c2, hlt, by rw [show ((k + 1 : Nat) : Int) = (k : Int) + 1 by omega], by unfold cellsAs; (try dsimp only); with_reducible exact bR, hcz.out, HIn2, by with_reducible exact hBz⟩
            case measure => simp only [intOf]; omega
          · have hq1 : qs = true := by
              rw [← HQ.out]
              exact (sameA_iff _ _).2 h0
            subst hq1
            simp only [cm0, noH] at hc0
            cases hc0
            have e1 : (oe != 0) = true := by simpa using hne
            have e2 : (oe == 0) = false := by simpa using hne
            have hS0 := HS0.out A2 B2 c3 c4 w7 hd7
            unfold encC at hS0
            dsimp only [cm0, noH, List.length_nil] at hS0
            have HIn2 := HIn
            clear HQ H3 HWf h0 hIl hne
            obtain ⟨x0, x1, x2, x3, x4, x5, x6, x7⟩ := hq7.eight
            try dsimp only [List.length_nil] at x2 x6
            go_wp2_with fail
            with_reducible refine hS0.mono ?_
            rintro e w8 ⟨rfl, hb8⟩
            have hB8 := hB7.trans (hb8.mono hB7.size)
            have hp8 := hp7.kept hb8
            have hbx8 := hbx7.kept hb8
            have hc8 := hc7.below hb8
            clear hS0 hb8 hp7 hq7 hbx7 hc7 hd7 hB7 x0 x1 x2 x3 x4 x5 x6 x7
            obtain ⟨y0, y1, y2, y3, y4, y5, y6, y7, y8⟩ := hp8.nine
            obtain ⟨a0, f0, a1, f1, a2, f2, a3, f3, a4, f4, a5, f5, a6, f6, a7, f7, a8, f8, bR⟩ := hbx8.store9 (.int .i64 s0) (.int .i64 s1) (.int .i64 s2) (.slice A1 sl.length c1) (.int .i64 s4) (.int .u64 s5) (.int .u64 s6) (.slice B1 sm.length c2) (.string s8)
            have hBz := below_store9 hB8 (B := w2.heap.size) (Nat.le_refl _) (.int .i64 s0) (.int .i64 s1) (.int .i64 s2) (.slice A1 sl.length c1) (.int .i64 s4) (.int .u64 s5) (.int .u64 s6) (.slice B1 sm.length c2) (.string s8)
            have hcz := Lib.hid (hc8.store9 hbx8 (noVal_asm _ _ _ _ _ _ _ _ _ (fun r h => by cases h) (fun k n h => by cases h)) (.int .i64 s0) (.int .i64 s1) (.int .i64 s2) (.slice A1 sl.length c1) (.int .i64 s4) (.int .u64 s5) (.int .u64 s6) (.slice B1 sm.length c2) (.string s8))
            clear hp8 hbx8 hc8 hB8 hv2
            go_wp2
            go_roundw
            case rel => exact ⟨k + 1, ⟨s0, ⟨⟨s1, s2, sl⟩, ⟨s4, s5, s6, sm⟩, s8⟩⟩, A1, B1, c1, c2, hlt, by rw [show ((k + 1 : Nat) : Int) = (k : Int) + 1 by omega], by unfold cellsAs; (try dsimp only); with_reducible exact bR, hcz.out, HIn2, by with_reducible exact hBz⟩
            case measure => simp only [intOf]; omega
          · simp only [cm0, noH] at hc0
            cases hc0
            have e2 : (s0 == 0) = false := by simpa using hne
            rw [e2] at hIl
            have hS0 := HS0.out A2 B2 c3 c4 w7 hd7
            unfold encC at hS0
            dsimp only [cm0, noH, List.length_nil] at hS0
            have HIn2 := HIn
            clear HQ H3 HWf hne e2
            obtain ⟨x0, x1, x2, x3, x4, x5, x6, x7⟩ := hq7.eight
            try dsimp only [List.length_nil] at x2 x6
            go_wp2_with fail
            with_reducible refine hS0.mono ?_
            rintro e w8 ⟨rfl, hb8⟩
            have hB8 := hB7.trans (hb8.mono hB7.size)
            have hp8 := hp7.kept hb8
            have hbx8 := hbx7.kept hb8
            have hc8 := hc7.below hb8
            clear hS0 hb8 hp7 hq7 hbx7 hc7 hd7 hB7 x0 x1 x2 x3 x4 x5 x6 x7
            obtain ⟨y0, y1, y2, y3, y4, y5, y6, y7, y8⟩ := hp8.nine
            go_wp2_with fail
            with_reducible refine (hIl _).mono ?_
            rintro e w9 ⟨rfl, hb9⟩
            have hB9 := hB8.trans (hb9.mono hB8.size)
            have hp9 := hp8.kept hb9
            have hbx9 := hbx8.kept hb9
            have hc9 := hc8.below hb9
            clear hIl hb9 hp8 hbx8 hc8 hB8 y0 y1 y2 y3 y4 y5 y6 y7 y8
            obtain ⟨y0, y1, y2, y3, y4, y5, y6, y7, y8⟩ := hp9.nine
            obtain ⟨a0, f0, a1, f1, a2, f2, a3, f3, a4, f4, a5, f5, a6, f6, a7, f7, a8, f8, bR⟩ := hbx9.store9 (.int .i64 s0) (.int .i64 s1) (.int .i64 s2) (.slice A1 sl.length c1) (.int .i64 s4) (.int .u64 s5) (.int .u64 s6) (.slice B1 sm.length c2) (.string s8)
            have hBz := below_store9 hB9 (B := w2.heap.size) (Nat.le_refl _) (.int .i64 s0) (.int .i64 s1) (.int .i64 s2) (.slice A1 sl.length c1) (.int .i64 s4) (.int .u64 s5) (.int .u64 s6) (.slice B1 sm.length c2) (.string s8)
            have hcz := Lib.hid (hc9.store9 hbx9 (noVal_asm _ _ _ _ _ _ _ _ _ (fun r h => by cases h) (fun k n h => by cases h)) (.int .i64 s0) (.int .i64 s1) (.int .i64 s2) (.slice A1 sl.length c1) (.int .i64 s4) (.int .u64 s5) (.int .u64 s6) (.slice B1 sm.length c2) (.string s8))
            clear hp9 hbx9 hc9 hB9 hv2
            go_wp2
            go_roundw
            case rel => exact ⟨k + 1, ⟨s0, ⟨⟨s1, s2, sl⟩, ⟨s4, s5, s6, sm⟩, s8⟩⟩, A1, B1, c1, c2, hlt, by rw [show ((k + 1 : Nat) : Int) = (k : Int) + 1 by omega], by unfold cellsAs; (try dsimp only); with_reducible exact bR, hcz.out, HIn2, by with_reducible exact hBz⟩
            case measure => simp only [intOf]; omega
      · obtain rfl : k = n := by omega
        have hBw := hB2.trans (hb.mono hB2.size)
        clear hv2 hbx hcm Ha HFd HS HI HS0 HRt
        go_wp2
        go_ret
        exact ⟨rfl, hBw⟩
end Go.Proofs.YtllgkohgcicbhaaGreatDoor
