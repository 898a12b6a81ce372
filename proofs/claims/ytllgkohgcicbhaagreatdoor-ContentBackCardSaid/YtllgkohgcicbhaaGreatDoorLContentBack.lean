/-
  ContentBack's walk: what was cut into frames comes out whole at the last one, and not ahead of it, whichever most it was; nothing is left. Conditions: the tables of widths and of contents are as their texts lay them; the values lie in old memory, of at most 2^47 bytes, each number a uint64, each text shorter than 2^47 bytes.
-/
import Derived.Deep.RegionHeld3
import Derived.Deep.DeepCutAuto
import Derived.Test.YtllgkohgcicbhaaGreatDoorMTwo
import Derived.Test.YtllgkohgcicbhaaGreatDoorWFeedC
import Derived.Test.YtllgkohgcicbhaaGreatDoorJC1
import Derived.Test.YtllgkohgcicbhaaGreatDoorWIdle
import Derived.Test.YtllgkohgcicbhaaGreatDoorWCShown
import Derived.Test.YtllgkohgcicbhaaGreatDoorZH
namespace Go.Proofs.YtllgkohgcicbhaaGreatDoor
open Go.RowKit

/-- each of a command's frames is taken as feed_at says; what it is fed to is as small as the command -/
theorem back_step {c : Cm} {ch : Int} {r k : Nat} (hr : 0 < r) (hw : wfC c) (he : cFrsE c ch r = 0) (hk : k < (cFrs c ch r).length) :
    feed (stAt c r k) ((cFrs c ch r)[k]).t ((cFrs c ch r)[k]).d = (if k + 1 = (cFrs c ch r).length then fWhole c else ⟨stAt c r (k + 1), cm0, false, 0⟩) ∧ ((cFrs c ch r)[k]).c = ch ∧ ((cFrs c ch r)[k]).d.size ≤ r := by
  have h := frs_some he
  have hk2 : k < (cFrsL c ch r).length := by rw [← h]; exact hk
  have e : (cFrs c ch r)[k] = (cFrsL c ch r)[k] := by congr 1
  obtain ⟨h1, h2⟩ := feed_at hr hw he hk2
  rw [e, h1, h]
  refine ⟨rfl, h2, ?_⟩
  exact frs_small hr _ (by rw [← e]; exact List.getElem_mem hk)
theorem frs_pos {c : Cm} {ch : Int} {r : Nat} (he : cFrsE c ch r = 0) : 1 ≤ (cFrs c ch r).length := by
  rw [frs_some he, cFrsL, List.length_cons]; omega

set_option maxRecDepth 100000 in
set_option maxHeartbeats 8000000 in
theorem contentBack_walk (c : Cm) (A B : Option Addr) (ca cb : Nat) (ch most : Int) (w : World) (hw : Wid w) (hk : Con w) (hwf : wfC c) (hc : CmAt w c A B ca cb) (hl : shortC c) (hs : c.b.size < 4611686018427387904) (hl1 : c.m.l.length * 24 ≤ 140737488355328) (hl2 : c.h.l.length * 24 ≤ 140737488355328) :
    Calls Tryz.prog 4 #[encC c A B ca cb, .int .i64 ch, .int .i64 most] w fun e w' => e = .returned (.bool true) ∧ Below w.heap.size w w' := by
  obtain ⟨W0, hW0⟩ : ∃ W0, W0 = w.alloc (.cells (cellsC c A B ca cb).toArray 29) := ⟨_, rfl⟩
  have hb0 : Below w.heap.size w W0 := by rw [hW0]; exact (Below.refl _ w).alloc (Nat.le_refl _) _
  have hx : Bx W0 w.heap.size 29 (cellsC c A B ca cb) := by rw [hW0]; exact Bx.new w 29 (cellsC c A B ca cb)
  have hSh := cshown_any W0 (hw.below hb0) (hk.below hb0)
  have hFr := fun W (h : Below w.heap.size w W) => frames_any c A B ca cb ch most W (hw.below h) (hk.below h) hwf (hc.below h) hl hs
  have hr := (room_is most).2
  have HSt : Hid (∀ k, (0 ≤ (stAt c (roomN most) k).st ∧ (stAt c (roomN most) k).st ≤ 2) ∧ (stAt c (roomN most) k).c.m.l.length ≤ c.m.l.length ∧ (stAt c (roomN most) k).c.h.l.length ≤ c.h.l.length ∧ (stAt c (roomN most) k).c.b.size ≤ c.b.size) := Lib.hid (fun k => stAt_small (by omega) k)
  have H0 : Hid (stAt c (roomN most) 0 = as0) := Lib.hid rfl
  have HStep : Hid (cFrsE c ch (roomN most) = 0 → 1 ≤ (cFrs c ch (roomN most)).length ∧ c.b.size ≤ 65536 ∧ ∀ k (hk : k < (cFrs c ch (roomN most)).length), feed (stAt c (roomN most) k) ((cFrs c ch (roomN most))[k]).t ((cFrs c ch (roomN most))[k]).d = (if k + 1 = (cFrs c ch (roomN most)).length then fWhole c else ⟨stAt c (roomN most) (k + 1), cm0, false, 0⟩) ∧ ((cFrs c ch (roomN most))[k]).c = ch ∧ ((cFrs c ch (roomN most))[k]).d.size ≤ 131064) := Lib.hid (fun h => ⟨frs_pos h, cE_small (cFrsE_parts h).1, fun k hk => by
    obtain ⟨h1, h2, h3⟩ := back_step (by omega) hwf h hk
    exact ⟨h1, h2, by omega⟩⟩)
  have HNil : Hid (¬ cFrsE c ch (roomN most) = 0 → (cFrs c ch (roomN most)).length = 0) := Lib.hid (fun h => by rw [frs_none h]; rfl)
  have hlen : (cFrs c ch (roomN most)).length ≤ 65538 := frs_len (by omega)
  have HS : Hid (∀ A' B' ca' cb' W, Below w.heap.size w W → CmAt W c A' B' ca' cb' → Calls Tryz.prog 13 #[encC c A' B' ca' cb', encC c A B ca cb] W fun e w' => e = .returned (.bool true) ∧ Below W.heap.size W w') := Lib.hid (fun A' B' ca' cb' W h1 h2 => by
    have h := rcsame_any c c A' B' A B ca' cb' ca cb W h2 (hc.below h1) hl
    rw [(sameC_iff c c).2 rfl] at h
    exact h)
  have HFd : Hid (∀ (a : As) QA QB qa qb (f : Fr) W, Below w.heap.size w W → ((0 ≤ a.st ∧ a.st ≤ 2) ∧ a.c.m.l.length ≤ c.m.l.length ∧ a.c.h.l.length ≤ c.h.l.length ∧ a.c.b.size ≤ c.b.size) → c.b.size ≤ 65536 → f.d.size ≤ 131064 → CmAt W a.c QA QB qa qb → Calls Tryz.prog 8 #[encAs a QA QB qa qb, encFr f] W (FdPost (feed a f.t f.d) W)) := Lib.hid (fun a QA QB qa qb f W h1 h2 h3 h4 h5 => feed_any a QA QB qa qb f.t f.c f.d W (hw.below h1) (hk.below h1) ⟨by omega, by omega⟩ h5 (by omega) (by omega) (by omega) (by omega))
  unfold FrPost at hFr
  generalize cFrs c ch (roomN most) = L at *
  generalize cFrsE c ch (roomN most) = E at *
  generalize stAt c (roomN most) = sA at *
  clear hr hwf hc hl hw hk hl1 hl2
  unfold encC at hFr HS ⊢
  unfold cellsC at hx hW0
  obtain ⟨⟨mc, mi, ml⟩, ⟨hc', hz', hf, hl⟩, sb⟩ := c
  dsimp only at hFr hx hW0 hs HS HSt HFd ⊢
  go_enter Tryz.func4, Tryz.ntmps4
  go_wp2_with fail
  rw [← hW0]
  clear hW0
  go_wp2_with fail
  with_reducible refine hSh.mono ?_
  rintro e w1 ⟨rfl, hb1⟩
  have hB1 := hb0.trans (hb1.mono hb0.size)
  have hx1 := hx.kept hb1
  clear hSh hx hb1 hb0
  obtain ⟨x0, x1, x2, x3, x4, x5, x6, x7⟩ := hx1.eight
  go_wp2_with fail
  with_reducible refine (hFr w1 hB1).mono ?_
  rintro e w2 ⟨v2, rfl, hr2, hb2⟩
  have hB2 := hB1.trans (hb2.mono hB1.size)
  have hx2 := hx1.kept hb2
  obtain ⟨A2', c2', rfl, hv2, -, -⟩ := vals_of_row3 hr2
  clear hFr hx1 hb2 hB1 x0 x1 x2 x3 x4 x5 x6 x7 hr2
  by_cases he : E = 0
  · subst he
    obtain ⟨hn1, hsb, hst⟩ := HStep.out rfl
    have HStep2 := Lib.hid hst
    obtain ⟨n, hn⟩ : ∃ n, L.length = n := ⟨_, rfl⟩
    have HN := Lib.hid hn
    rw [hn] at hlen hn1 ⊢
    clear HStep HNil hn hst
    obtain ⟨W3, hW3⟩ : ∃ W3, W3 = w2.alloc (.cells #[.int .i64 0, .int .i64 0, .int .i64 0, .slice none 0 0, .int .i64 0, .int .u64 0, .int .u64 0, .slice none 0 0, .string ⟨#[]⟩] 31) := ⟨_, rfl⟩
    have hb3 : Below w2.heap.size w2 W3 := by rw [hW3]; exact (Below.refl _ w2).alloc (Nat.le_refl _) _
    have ha3 : Bx W3 w2.heap.size 31 [.int .i64 0, .int .i64 0, .int .i64 0, .slice none 0 0, .int .i64 0, .int .u64 0, .int .u64 0, .slice none 0 0, .string ⟨#[]⟩] := by rw [hW3]; exact Bx.new w2 _ _
    go_upto_region 6 with fail
    rw [← hW3]
    clear hW3
    go_wp2_with fail
    go_loopw [11] (fun v wr => ∃ (k : Nat) (a : As) (QA QB : Option Addr) (qa qb : Nat), k ≤ n ∧ v = .int .i64 k ∧ Bx wr w2.heap.size 31 (cellsAs a QA QB qa qb) ∧ CmAt wr a.c QA QB qa qb ∧ Hid (k < n → a = sA k) ∧ Below w2.heap.size w2 wr) (fun v _ => n - (intOf v).toNat)
    case atStart => exact ⟨0, as0, none, none, 0, 0, Nat.zero_le _, rfl, ha3, cmAt0 _, Lib.hid (fun _ => H0.out.symm), hb3⟩
    case round =>
      obtain ⟨k, a, QA, QB, qa, qb, hk, rfl, hbx, hcm, Ha, hb⟩ := hrel
      clear ha3 hb3
      by_cases hlt : k < n
      · have hkl : k < L.length := by rw [HN.out]; exact hlt
        obtain ⟨b1, off, rfl, hbl, g1⟩ := vals_frame hv2 k hkl
        obtain ⟨f1, f2, f3⟩ := HStep2.out k hkl
        have hea := Ha.out hlt
        rw [← hea] at f1
        have hT := fun W (h : Below wr.heap.size wr W) => HFd.out a QA QB qa qb L[k] W (hB2.trans ((hb.trans (h.mono hb.size)).mono hB2.size)) (by rw [hea]; exact HSt.out k) hsb f3 (hcm.below h)
        rw [f1] at hT
        have HR : Hid ((k + 1 = n ∧ (if k + 1 = L.length then fWhole ⟨⟨mc, mi, ml⟩, ⟨hc', hz', hf, hl⟩, sb⟩ else ⟨sA (k + 1), cm0, false, 0⟩) = fWhole ⟨⟨mc, mi, ml⟩, ⟨hc', hz', hf, hl⟩, sb⟩) ∨ (k + 1 < n ∧ (if k + 1 = L.length then fWhole ⟨⟨mc, mi, ml⟩, ⟨hc', hz', hf, hl⟩, sb⟩ else ⟨sA (k + 1), cm0, false, 0⟩) = ⟨sA (k + 1), cm0, false, 0⟩)) := Lib.hid (by
          by_cases h : k + 1 = L.length
          · rw [if_pos h]; exact .inl ⟨h.trans HN.out, rfl⟩
          · rw [if_neg h]; exact .inr ⟨by have := HN.out; omega, rfl⟩)
        generalize (if k + 1 = L.length then fWhole ⟨⟨mc, mi, ml⟩, ⟨hc', hz', hf, hl⟩, sb⟩ else ⟨sA (k + 1), cm0, false, 0⟩) = fdv at hT HR
        generalize L[k] = f at g1 f1 f2 f3 hT
        clear f1 f3 hea Ha
        obtain ⟨ft, fc, fd⟩ := f
        obtain ⟨q0, ⟨⟨q1, q2, ql⟩, ⟨q4, q5, q6, qm⟩, q8⟩⟩ := a
        obtain ⟨⟨s0, ⟨⟨s1, s2, sl⟩, ⟨s4, s5, s6, sm⟩, s8⟩⟩, ⟨⟨o1, o2, ol⟩, ⟨o4, o5, o6, om⟩, o8⟩, ob, oe⟩ := fdv
        unfold FdPost encAs encFr encC at hT
        unfold cellsAs at hbx
        dsimp only at hT hbx g1 f2 hcm
        subst f2
        have hbs := hb.size
        have keep : ∀ w', Below wr.heap.size wr w' → w'.cell? ⟨w2.heap.size, 0, none⟩ = some (.int .i64 q0) ∧ w'.cell? ⟨w2.heap.size, 1, none⟩ = some (.int .i64 q1) ∧ w'.cell? ⟨w2.heap.size, 2, none⟩ = some (.int .i64 q2) ∧ w'.cell? ⟨w2.heap.size, 3, none⟩ = some (.slice QA ql.length qa) ∧ w'.cell? ⟨w2.heap.size, 4, none⟩ = some (.int .i64 q4) ∧ w'.cell? ⟨w2.heap.size, 5, none⟩ = some (.int .u64 q5) ∧ w'.cell? ⟨w2.heap.size, 6, none⟩ = some (.int .u64 q6) ∧ w'.cell? ⟨w2.heap.size, 7, none⟩ = some (.slice QB qm.length qb) ∧ w'.cell? ⟨w2.heap.size, 8, none⟩ = some (.string q8) ∧ w'.cell? ⟨b1, off + k * 3, none⟩ = some (.int .i64 ft) ∧ w'.cell? ⟨b1, off + k * 3 + 1, none⟩ = some (.int .i64 fc) ∧ w'.cell? ⟨b1, off + k * 3 + 2, none⟩ = some (.string fd) := fun w' h => by
          obtain ⟨e0, e1, e2, e3, e4, e5, e6, e7, e8⟩ := (hbx.kept h).nine
          obtain ⟨z0, z1, z2⟩ := g1 w' (hb.trans (h.mono hb.size))
          exact ⟨e0, e1, e2, e3, e4, e5, e6, e7, e8, z0, z1, z2⟩
        have i0 : (0 : Int) ≤ (k : Int) := by omega
        have i1 : (k : Int) < (n : Int) := by omega
        have hq0 : Below wr.heap.size wr wr.drew := (Below.refl _ wr).drew
        have hT0 := hT _ hq0
        have hqa : Below wr.heap.size wr (wr.alloc (.cells #[.int .i64 0, .int .i64 0, .int .i64 0, .slice none 0 0, .int .i64 0, .int .u64 0, .int .u64 0, .slice none 0 0, .string ⟨#[]⟩] 31)).drew := ((Below.refl _ wr).alloc (Nat.le_refl _) _).drew
        have hTa := hT _ hqa
        have hqb : Below wr.heap.size wr (wr.alloc (.cells #[.int .i64 0, .int .i64 0, .slice none 0 0, .int .i64 0, .int .u64 0, .int .u64 0, .slice none 0 0, .string ⟨#[]⟩] 29)).drew := ((Below.refl _ wr).alloc (Nat.le_refl _) _).drew
        have hTb := hT _ hqb
        have hqab : Below wr.heap.size wr ((wr.alloc (.cells #[.int .i64 0, .int .i64 0, .int .i64 0, .slice none 0 0, .int .i64 0, .int .u64 0, .int .u64 0, .slice none 0 0, .string ⟨#[]⟩] 31)).alloc (.cells #[.int .i64 0, .int .i64 0, .slice none 0 0, .int .i64 0, .int .u64 0, .int .u64 0, .slice none 0 0, .string ⟨#[]⟩] 29)).drew := (((Below.refl _ wr).alloc (Nat.le_refl _) _).alloc (by simp) _).drew
        have hTab := hT _ hqab
        have hqba : Below wr.heap.size wr ((wr.alloc (.cells #[.int .i64 0, .int .i64 0, .slice none 0 0, .int .i64 0, .int .u64 0, .int .u64 0, .slice none 0 0, .string ⟨#[]⟩] 29)).alloc (.cells #[.int .i64 0, .int .i64 0, .int .i64 0, .slice none 0 0, .int .i64 0, .int .u64 0, .int .u64 0, .slice none 0 0, .string ⟨#[]⟩] 31)).drew := (((Below.refl _ wr).alloc (Nat.le_refl _) _).alloc (by simp) _).drew
        have hTba := hT _ hqba
        have bxa : Bx (wr.alloc (.cells #[.int .i64 0, .int .i64 0, .int .i64 0, .slice none 0 0, .int .i64 0, .int .u64 0, .int .u64 0, .slice none 0 0, .string ⟨#[]⟩] 31)).drew wr.heap.size 31 [.int .i64 0, .int .i64 0, .int .i64 0, .slice none 0 0, .int .i64 0, .int .u64 0, .int .u64 0, .slice none 0 0, .string ⟨#[]⟩] := Bx.new wr 31 [.int .i64 0, .int .i64 0, .int .i64 0, .slice none 0 0, .int .i64 0, .int .u64 0, .int .u64 0, .slice none 0 0, .string ⟨#[]⟩]
        have bxb : Bx (wr.alloc (.cells #[.int .i64 0, .int .i64 0, .slice none 0 0, .int .i64 0, .int .u64 0, .int .u64 0, .slice none 0 0, .string ⟨#[]⟩] 29)).drew wr.heap.size 29 [.int .i64 0, .int .i64 0, .slice none 0 0, .int .i64 0, .int .u64 0, .int .u64 0, .slice none 0 0, .string ⟨#[]⟩] := Bx.new wr 29 [.int .i64 0, .int .i64 0, .slice none 0 0, .int .i64 0, .int .u64 0, .int .u64 0, .slice none 0 0, .string ⟨#[]⟩]
        have bxab1 : Bx ((wr.alloc (.cells #[.int .i64 0, .int .i64 0, .int .i64 0, .slice none 0 0, .int .i64 0, .int .u64 0, .int .u64 0, .slice none 0 0, .string ⟨#[]⟩] 31)).alloc (.cells #[.int .i64 0, .int .i64 0, .slice none 0 0, .int .i64 0, .int .u64 0, .int .u64 0, .slice none 0 0, .string ⟨#[]⟩] 29)).drew wr.heap.size 31 [.int .i64 0, .int .i64 0, .int .i64 0, .slice none 0 0, .int .i64 0, .int .u64 0, .int .u64 0, .slice none 0 0, .string ⟨#[]⟩] := (Bx.new wr 31 [.int .i64 0, .int .i64 0, .int .i64 0, .slice none 0 0, .int .i64 0, .int .u64 0, .int .u64 0, .slice none 0 0, .string ⟨#[]⟩]).alloc _
        have bxab2 : Bx ((wr.alloc (.cells #[.int .i64 0, .int .i64 0, .int .i64 0, .slice none 0 0, .int .i64 0, .int .u64 0, .int .u64 0, .slice none 0 0, .string ⟨#[]⟩] 31)).alloc (.cells #[.int .i64 0, .int .i64 0, .slice none 0 0, .int .i64 0, .int .u64 0, .int .u64 0, .slice none 0 0, .string ⟨#[]⟩] 29)).drew (wr.heap.size + 1) 29 [.int .i64 0, .int .i64 0, .slice none 0 0, .int .i64 0, .int .u64 0, .int .u64 0, .slice none 0 0, .string ⟨#[]⟩] := by have h := Bx.new (wr.alloc (.cells #[.int .i64 0, .int .i64 0, .int .i64 0, .slice none 0 0, .int .i64 0, .int .u64 0, .int .u64 0, .slice none 0 0, .string ⟨#[]⟩] 31)) 29 [.int .i64 0, .int .i64 0, .slice none 0 0, .int .i64 0, .int .u64 0, .int .u64 0, .slice none 0 0, .string ⟨#[]⟩]; rw [World.size_alloc] at h; exact h
        have bxba1 : Bx ((wr.alloc (.cells #[.int .i64 0, .int .i64 0, .slice none 0 0, .int .i64 0, .int .u64 0, .int .u64 0, .slice none 0 0, .string ⟨#[]⟩] 29)).alloc (.cells #[.int .i64 0, .int .i64 0, .int .i64 0, .slice none 0 0, .int .i64 0, .int .u64 0, .int .u64 0, .slice none 0 0, .string ⟨#[]⟩] 31)).drew wr.heap.size 29 [.int .i64 0, .int .i64 0, .slice none 0 0, .int .i64 0, .int .u64 0, .int .u64 0, .slice none 0 0, .string ⟨#[]⟩] := (Bx.new wr 29 [.int .i64 0, .int .i64 0, .slice none 0 0, .int .i64 0, .int .u64 0, .int .u64 0, .slice none 0 0, .string ⟨#[]⟩]).alloc _
        have bxba2 : Bx ((wr.alloc (.cells #[.int .i64 0, .int .i64 0, .slice none 0 0, .int .i64 0, .int .u64 0, .int .u64 0, .slice none 0 0, .string ⟨#[]⟩] 29)).alloc (.cells #[.int .i64 0, .int .i64 0, .int .i64 0, .slice none 0 0, .int .i64 0, .int .u64 0, .int .u64 0, .slice none 0 0, .string ⟨#[]⟩] 31)).drew (wr.heap.size + 1) 31 [.int .i64 0, .int .i64 0, .int .i64 0, .slice none 0 0, .int .i64 0, .int .u64 0, .int .u64 0, .slice none 0 0, .string ⟨#[]⟩] := by have h := Bx.new (wr.alloc (.cells #[.int .i64 0, .int .i64 0, .slice none 0 0, .int .i64 0, .int .u64 0, .int .u64 0, .slice none 0 0, .string ⟨#[]⟩] 29)) 31 [.int .i64 0, .int .i64 0, .int .i64 0, .slice none 0 0, .int .i64 0, .int .u64 0, .int .u64 0, .slice none 0 0, .string ⟨#[]⟩]; rw [World.size_alloc] at h; exact h
        clear hT
        go_upto_region 9 with fail
        go_cut [12, 13, 14, 15] from 33 to 82 (fun p q b e wx => TwoAt wr.heap.size wx p q ⟨s0, ⟨⟨s1, s2, sl⟩, ⟨s4, s5, s6, sm⟩, s8⟩⟩ ⟨⟨o1, o2, ol⟩, ⟨o4, o5, o6, om⟩, o8⟩ ∧ b = .bool ob ∧ e = .int .i64 oe ∧ Below wr.heap.size wr wx)
        case first =>
          go_region_held3 (fun w' => w'.cell? ⟨w2.heap.size, 0, none⟩ = some (.int .i64 q0) ∧ w'.cell? ⟨w2.heap.size, 1, none⟩ = some (.int .i64 q1) ∧ w'.cell? ⟨w2.heap.size, 2, none⟩ = some (.int .i64 q2) ∧ w'.cell? ⟨w2.heap.size, 3, none⟩ = some (.slice QA ql.length qa) ∧ w'.cell? ⟨w2.heap.size, 4, none⟩ = some (.int .i64 q4) ∧ w'.cell? ⟨w2.heap.size, 5, none⟩ = some (.int .u64 q5) ∧ w'.cell? ⟨w2.heap.size, 6, none⟩ = some (.int .u64 q6) ∧ w'.cell? ⟨w2.heap.size, 7, none⟩ = some (.slice QB qm.length qb) ∧ w'.cell? ⟨w2.heap.size, 8, none⟩ = some (.string q8) ∧ w'.cell? ⟨b1, off + k * 3, none⟩ = some (.int .i64 ft) ∧ w'.cell? ⟨b1, off + k * 3 + 1, none⟩ = some (.int .i64 fc) ∧ w'.cell? ⟨b1, off + k * 3 + 2, none⟩ = some (.string fd)) (first | (with_reducible exact keep _ hfU) | (with_reducible exact keep _ hfT) | (with_reducible exact keep _ (hfS.alloc hfS.size _)) | (with_reducible exact keep _ hfS) | (with_reducible exact keep _ ((hf.alloc hf.size _).alloc (hf.alloc hf.size _).size _)) | (with_reducible exact keep _ (hf.alloc hf.size _)) | (with_reducible exact keep _ hf) | (with_reducible exact keep _ hqba) | (with_reducible exact keep _ hqab) | (with_reducible exact keep _ hqb) | (with_reducible exact keep _ hqa) | (with_reducible exact keep _ hq0)) (first | (go_at_call 8; with_reducible refine hT0.mono ?_; rintro e w9 ⟨A1, B1, A2, B2, c1, c2, c3, c4, rfl, hc1, hc2, hr9⟩; have hf : Below wr.heap.size wr w9 := hq0.trans (hr9.mono hq0.size); have hzz := hf.size; have hm0 := hf) | (go_at_call 8; with_reducible refine hTa.mono ?_; rintro e w9 ⟨A1, B1, A2, B2, c1, c2, c3, c4, rfl, hc1, hc2, hr9⟩; have hf : Below wr.heap.size wr w9 := hqa.trans (hr9.mono hqa.size); have hzz := hf.size; have ba := bxa.kept hr9; have bla := bxa.lt; obtain ⟨xa0, xf0, xa1, xf1, xa2, xf2, xa3, xf3, xa4, xf4, xa5, xf5, xa6, xf6, xa7, xf7, xa8, xf8, bS⟩ := ba.store9 (.int .i64 s0) (.int .i64 s1) (.int .i64 s2) (.slice A1 sl.length c1) (.int .i64 s4) (.int .u64 s5) (.int .u64 s6) (.slice B1 sm.length c2) (.string s8); have hfS := below_store9 hf (B := wr.heap.size) (Nat.le_refl _) (.int .i64 s0) (.int .i64 s1) (.int .i64 s2) (.slice A1 sl.length c1) (.int .i64 s4) (.int .u64 s5) (.int .u64 s6) (.slice B1 sm.length c2) (.string s8); have bb := ba.alloc (.cells #[.int .i64 0, .int .i64 0, .slice none 0 0, .int .i64 0, .int .u64 0, .int .u64 0, .slice none 0 0, .string ⟨#[]⟩] 29); obtain ⟨ya0, yf0, ya1, yf1, ya2, yf2, ya3, yf3, ya4, yf4, ya5, yf5, ya6, yf6, ya7, yf7, ya8, yf8, bT⟩ := bb.store9 (.int .i64 s0) (.int .i64 s1) (.int .i64 s2) (.slice A1 sl.length c1) (.int .i64 s4) (.int .u64 s5) (.int .u64 s6) (.slice B1 sm.length c2) (.string s8); have hfT := below_store9 (hf.alloc hf.size (.cells #[.int .i64 0, .int .i64 0, .slice none 0 0, .int .i64 0, .int .u64 0, .int .u64 0, .slice none 0 0, .string ⟨#[]⟩] 29)) (B := wr.heap.size) (Nat.le_refl _) (.int .i64 s0) (.int .i64 s1) (.int .i64 s2) (.slice A1 sl.length c1) (.int .i64 s4) (.int .u64 s5) (.int .u64 s6) (.slice B1 sm.length c2) (.string s8); have bn := ((((((((((Bx.new w9 29 [.int .i64 0, .int .i64 0, .slice none 0 0, .int .i64 0, .int .u64 0, .int .u64 0, .slice none 0 0, .string ⟨#[]⟩]).other (B' := wr.heap.size) (by have := hr9.size; simp at this ⊢; omega) 0 (.int .i64 s0)).other (B' := wr.heap.size) (by have := hr9.size; simp at this ⊢; omega) 1 (.int .i64 s1)).other (B' := wr.heap.size) (by have := hr9.size; simp at this ⊢; omega) 2 (.int .i64 s2)).other (B' := wr.heap.size) (by have := hr9.size; simp at this ⊢; omega) 3 (.slice A1 sl.length c1)).other (B' := wr.heap.size) (by have := hr9.size; simp at this ⊢; omega) 4 (.int .i64 s4)).other (B' := wr.heap.size) (by have := hr9.size; simp at this ⊢; omega) 5 (.int .u64 s5)).other (B' := wr.heap.size) (by have := hr9.size; simp at this ⊢; omega) 6 (.int .u64 s6)).other (B' := wr.heap.size) (by have := hr9.size; simp at this ⊢; omega) 7 (.slice B1 sm.length c2)).other (B' := wr.heap.size) (by have := hr9.size; simp at this ⊢; omega) 8 (.string s8)); obtain ⟨yc0, yg0, yc1, yg1, yc2, yg2, yc3, yg3, yc4, yg4, yc5, yg5, yc6, yg6, yc7, yg7, bU⟩ := bn.store8 (.int .i64 o1) (.int .i64 o2) (.slice A2 ol.length c3) (.int .i64 o4) (.int .u64 o5) (.int .u64 o6) (.slice B2 om.length c4) (.string o8); have hfU := below_store8 hfT (B := w9.heap.size) hf.size (.int .i64 o1) (.int .i64 o2) (.slice A2 ol.length c3) (.int .i64 o4) (.int .u64 o5) (.int .u64 o6) (.slice B2 om.length c4) (.string o8); have bT2 := ((((((((bT.other (B' := w9.heap.size) (by have := hr9.size; simp at this ⊢; omega) 0 (.int .i64 o1)).other (B' := w9.heap.size) (by have := hr9.size; simp at this ⊢; omega) 1 (.int .i64 o2)).other (B' := w9.heap.size) (by have := hr9.size; simp at this ⊢; omega) 2 (.slice A2 ol.length c3)).other (B' := w9.heap.size) (by have := hr9.size; simp at this ⊢; omega) 3 (.int .i64 o4)).other (B' := w9.heap.size) (by have := hr9.size; simp at this ⊢; omega) 4 (.int .u64 o5)).other (B' := w9.heap.size) (by have := hr9.size; simp at this ⊢; omega) 5 (.int .u64 o6)).other (B' := w9.heap.size) (by have := hr9.size; simp at this ⊢; omega) 6 (.slice B2 om.length c4)).other (B' := w9.heap.size) (by have := hr9.size; simp at this ⊢; omega) 7 (.string o8))) | (go_at_call 8; with_reducible refine hTb.mono ?_; rintro e w9 ⟨A1, B1, A2, B2, c1, c2, c3, c4, rfl, hc1, hc2, hr9⟩; have hf : Below wr.heap.size wr w9 := hqb.trans (hr9.mono hqb.size); have hzz := hf.size; have bb := (bxb.kept hr9).alloc (.cells #[.int .i64 s0, .int .i64 s1, .int .i64 s2, .slice A1 sl.length c1, .int .i64 s4, .int .u64 s5, .int .u64 s6, .slice B1 sm.length c2, .string s8] 31); obtain ⟨zc0, zg0, zc1, zg1, zc2, zg2, zc3, zg3, zc4, zg4, zc5, zg5, zc6, zg6, zc7, zg7, bU⟩ := bb.store8 (.int .i64 o1) (.int .i64 o2) (.slice A2 ol.length c3) (.int .i64 o4) (.int .u64 o5) (.int .u64 o6) (.slice B2 om.length c4) (.string o8); have hfU := below_store8 (hf.alloc hf.size (.cells #[.int .i64 s0, .int .i64 s1, .int .i64 s2, .slice A1 sl.length c1, .int .i64 s4, .int .u64 s5, .int .u64 s6, .slice B1 sm.length c2, .string s8] 31)) (B := wr.heap.size) (Nat.le_refl _) (.int .i64 o1) (.int .i64 o2) (.slice A2 ol.length c3) (.int .i64 o4) (.int .u64 o5) (.int .u64 o6) (.slice B2 om.length c4) (.string o8); have bT2 := (((((((((Bx.new w9 31 [.int .i64 s0, .int .i64 s1, .int .i64 s2, .slice A1 sl.length c1, .int .i64 s4, .int .u64 s5, .int .u64 s6, .slice B1 sm.length c2, .string s8]).other (B' := wr.heap.size) (by have := hr9.size; simp at this ⊢; omega) 0 (.int .i64 o1)).other (B' := wr.heap.size) (by have := hr9.size; simp at this ⊢; omega) 1 (.int .i64 o2)).other (B' := wr.heap.size) (by have := hr9.size; simp at this ⊢; omega) 2 (.slice A2 ol.length c3)).other (B' := wr.heap.size) (by have := hr9.size; simp at this ⊢; omega) 3 (.int .i64 o4)).other (B' := wr.heap.size) (by have := hr9.size; simp at this ⊢; omega) 4 (.int .u64 o5)).other (B' := wr.heap.size) (by have := hr9.size; simp at this ⊢; omega) 5 (.int .u64 o6)).other (B' := wr.heap.size) (by have := hr9.size; simp at this ⊢; omega) 6 (.slice B2 om.length c4)).other (B' := wr.heap.size) (by have := hr9.size; simp at this ⊢; omega) 7 (.string o8))) | (go_at_call 8; with_reducible refine hTab.mono ?_; rintro e w9 ⟨A1, B1, A2, B2, c1, c2, c3, c4, rfl, hc1, hc2, hr9⟩; have hf : Below wr.heap.size wr w9 := hqab.trans (hr9.mono hqab.size); have hzz := hf.size; have b1 := bxab1.kept hr9; have b2 := bxab2.kept hr9; obtain ⟨ua0, uf0, ua1, uf1, ua2, uf2, ua3, uf3, ua4, uf4, ua5, uf5, ua6, uf6, ua7, uf7, ua8, uf8, bS⟩ := b1.store9 (.int .i64 s0) (.int .i64 s1) (.int .i64 s2) (.slice A1 sl.length c1) (.int .i64 s4) (.int .u64 s5) (.int .u64 s6) (.slice B1 sm.length c2) (.string s8); have hfS := below_store9 hf (B := wr.heap.size) (Nat.le_refl _) (.int .i64 s0) (.int .i64 s1) (.int .i64 s2) (.slice A1 sl.length c1) (.int .i64 s4) (.int .u64 s5) (.int .u64 s6) (.slice B1 sm.length c2) (.string s8); have b3 := (((((((((b2.other (B' := wr.heap.size) (by omega) 0 (.int .i64 s0)).other (B' := wr.heap.size) (by omega) 1 (.int .i64 s1)).other (B' := wr.heap.size) (by omega) 2 (.int .i64 s2)).other (B' := wr.heap.size) (by omega) 3 (.slice A1 sl.length c1)).other (B' := wr.heap.size) (by omega) 4 (.int .i64 s4)).other (B' := wr.heap.size) (by omega) 5 (.int .u64 s5)).other (B' := wr.heap.size) (by omega) 6 (.int .u64 s6)).other (B' := wr.heap.size) (by omega) 7 (.slice B1 sm.length c2)).other (B' := wr.heap.size) (by omega) 8 (.string s8)); obtain ⟨uc0, ug0, uc1, ug1, uc2, ug2, uc3, ug3, uc4, ug4, uc5, ug5, uc6, ug6, uc7, ug7, bU⟩ := b3.store8 (.int .i64 o1) (.int .i64 o2) (.slice A2 ol.length c3) (.int .i64 o4) (.int .u64 o5) (.int .u64 o6) (.slice B2 om.length c4) (.string o8); have hfU := below_store8 hfS (B := wr.heap.size + 1) (by omega) (.int .i64 o1) (.int .i64 o2) (.slice A2 ol.length c3) (.int .i64 o4) (.int .u64 o5) (.int .u64 o6) (.slice B2 om.length c4) (.string o8); have bT2 := ((((((((bS.other (B' := (wr.heap.size + 1)) (by omega) 0 (.int .i64 o1)).other (B' := (wr.heap.size + 1)) (by omega) 1 (.int .i64 o2)).other (B' := (wr.heap.size + 1)) (by omega) 2 (.slice A2 ol.length c3)).other (B' := (wr.heap.size + 1)) (by omega) 3 (.int .i64 o4)).other (B' := (wr.heap.size + 1)) (by omega) 4 (.int .u64 o5)).other (B' := (wr.heap.size + 1)) (by omega) 5 (.int .u64 o6)).other (B' := (wr.heap.size + 1)) (by omega) 6 (.slice B2 om.length c4)).other (B' := (wr.heap.size + 1)) (by omega) 7 (.string o8))) | (go_at_call 8; with_reducible refine hTba.mono ?_; rintro e w9 ⟨A1, B1, A2, B2, c1, c2, c3, c4, rfl, hc1, hc2, hr9⟩; have hf : Below wr.heap.size wr w9 := hqba.trans (hr9.mono hqba.size); have hzz := hf.size; have b1 := bxba2.kept hr9; have b2 := bxba1.kept hr9; obtain ⟨ta0, tf0, ta1, tf1, ta2, tf2, ta3, tf3, ta4, tf4, ta5, tf5, ta6, tf6, ta7, tf7, ta8, tf8, bS⟩ := b1.store9 (.int .i64 s0) (.int .i64 s1) (.int .i64 s2) (.slice A1 sl.length c1) (.int .i64 s4) (.int .u64 s5) (.int .u64 s6) (.slice B1 sm.length c2) (.string s8); have hfS := below_store9 hf (B := wr.heap.size + 1) (by omega) (.int .i64 s0) (.int .i64 s1) (.int .i64 s2) (.slice A1 sl.length c1) (.int .i64 s4) (.int .u64 s5) (.int .u64 s6) (.slice B1 sm.length c2) (.string s8); have b3 := (((((((((b2.other (B' := (wr.heap.size + 1)) (by omega) 0 (.int .i64 s0)).other (B' := (wr.heap.size + 1)) (by omega) 1 (.int .i64 s1)).other (B' := (wr.heap.size + 1)) (by omega) 2 (.int .i64 s2)).other (B' := (wr.heap.size + 1)) (by omega) 3 (.slice A1 sl.length c1)).other (B' := (wr.heap.size + 1)) (by omega) 4 (.int .i64 s4)).other (B' := (wr.heap.size + 1)) (by omega) 5 (.int .u64 s5)).other (B' := (wr.heap.size + 1)) (by omega) 6 (.int .u64 s6)).other (B' := (wr.heap.size + 1)) (by omega) 7 (.slice B1 sm.length c2)).other (B' := (wr.heap.size + 1)) (by omega) 8 (.string s8)); obtain ⟨tc0, tg0, tc1, tg1, tc2, tg2, tc3, tg3, tc4, tg4, tc5, tg5, tc6, tg6, tc7, tg7, bU⟩ := b3.store8 (.int .i64 o1) (.int .i64 o2) (.slice A2 ol.length c3) (.int .i64 o4) (.int .u64 o5) (.int .u64 o6) (.slice B2 om.length c4) (.string o8); have hfU := below_store8 hfS (B := wr.heap.size) (Nat.le_refl _) (.int .i64 o1) (.int .i64 o2) (.slice A2 ol.length c3) (.int .i64 o4) (.int .u64 o5) (.int .u64 o6) (.slice B2 om.length c4) (.string o8); have bT2 := ((((((((bS.other (B' := wr.heap.size) (by omega) 0 (.int .i64 o1)).other (B' := wr.heap.size) (by omega) 1 (.int .i64 o2)).other (B' := wr.heap.size) (by omega) 2 (.slice A2 ol.length c3)).other (B' := wr.heap.size) (by omega) 3 (.int .i64 o4)).other (B' := wr.heap.size) (by omega) 4 (.int .u64 o5)).other (B' := wr.heap.size) (by omega) 5 (.int .u64 o6)).other (B' := wr.heap.size) (by omega) 6 (.slice B2 om.length c4)).other (B' := wr.heap.size) (by omega) 7 (.string o8))))
          all_goals
            go_wp2_with fail
            go_meet
            case rel => first | (obtain ⟨h1, h2⟩ := two_0a hc1 hc2 hf; with_reducible exact ⟨h1, rfl, rfl, h2⟩) | (obtain ⟨h1, h2⟩ := two_0b hc1 hc2 hf; with_reducible exact ⟨h1, rfl, rfl, h2⟩) | (obtain ⟨h1, h2⟩ := two_a1 hc1 hc2 hf hr9; with_reducible exact ⟨h1, rfl, rfl, h2⟩) | (obtain ⟨h1, h2⟩ := two_a2 hc1 hc2 hf hr9; with_reducible exact ⟨h1, rfl, rfl, h2⟩) | (obtain ⟨h1, h2⟩ := two_b hc1 hc2 hf hr9; with_reducible exact ⟨h1, rfl, rfl, h2⟩) | (obtain ⟨h1, h2⟩ := two_ab hc1 hc2 hf hr9; with_reducible exact ⟨h1, rfl, rfl, h2⟩) | (obtain ⟨h1, h2⟩ := two_ba hc1 hc2 hf hr9; with_reducible exact ⟨h1, rfl, rfl, h2⟩)
        case rest =>
          obtain ⟨⟨n1, n2, A1, B1, A2, B2, c1, c2, c3, c4, rfl, rfl, hn1', hn2', hp, hq, hc1, hc2⟩, rfl, rfl, hcc⟩ := hcut
          obtain ⟨-, -, -, -, -, -, -, -, -, z0, z1, z2⟩ := keep wc hcc
          have hlt2 := hbx.lt
          have hB3 := hb.trans (hcc.mono hb.size)
          have hbx2 := hbx.kept hcc
          clear keep hbx hcc hbs hq0 hT0 hqa hTa hqb hTb hqab hTab hqba hTba bxa bxb bxab1 bxab2 bxba1 bxba2
          unfold cellsAs at hp
          unfold cellsC at hq
          dsimp only at hp hq hc1 hc2
          have e1 : IntKind.i64.wrap ((n : Int) - 1) = (n : Int) - 1 := by simp only [IntKind.wrap_i64]; omega
          rcases HR.out with ⟨hlast, he⟩ | ⟨hlast, he⟩
          · simp only [fWhole, as0, cm0, noH] at he
            cases he
            have t1 : ((k : Int) == (n : Int) - 1) = true := by simp; omega
            have hx3 := hx2.kept hB3
            have hBw := hB2.trans (hB3.mono hB2.size)
            obtain ⟨x0, x1, x2, x3, x4, x5, x6, x7⟩ := hx3.eight
            obtain ⟨y0, y1, y2, y3, y4, y5, y6, y7⟩ := hq.eight
            have hSm := HS.out A2 B2 c3 c4 wc hBw hc2
            have hI := fun W => idle_any as0 A1 B1 c1 c2 W
            rw [show (as0.st == 0) = true from rfl] at hI
            unfold encAs at hI
            dsimp only [as0, cm0, noH, List.length_nil] at hI
            go_wp2_with fail
            with_reducible refine hSm.mono ?_
            rintro e w7 ⟨rfl, hb7⟩
            have hB7 := hB3.trans (hb7.mono hB3.size)
            have hp7 := hp.kept hb7
            have hbx7 := hbx2.kept hb7
            have hc7 := hc1.below hb7
            clear hSm hb7 hp hq hx3 hBw x0 x1 x2 x3 x4 x5 x6 x7 y0 y1 y2 y3 y4 y5 y6 y7 hc1 hc2 hbx2 hB3 z0 z1 z2
            obtain ⟨y0, y1, y2, y3, y4, y5, y6, y7, y8⟩ := hp7.nine
            go_wp2_with fail
            with_reducible refine (hI _).mono ?_
            rintro e w8 ⟨rfl, hb8⟩
            have hB8 := hB7.trans (hb8.mono hB7.size)
            have hp8 := hp7.kept hb8
            have hbx8 := hbx7.kept hb8
            have hc8 := hc7.below hb8
            clear hI hb8 hp7 hbx7 hc7 hB7 y0 y1 y2 y3 y4 y5 y6 y7 y8
            obtain ⟨y0, y1, y2, y3, y4, y5, y6, y7, y8⟩ := hp8.nine
            obtain ⟨a0, f0, a1, f1, a2, f2, a3, f3, a4, f4, a5, f5, a6, f6, a7, f7, a8, f8, bR⟩ := hbx8.store9 (.int .i64 0) (.int .i64 0) (.int .i64 0) (.slice A1 0 c1) (.int .i64 0) (.int .u64 0) (.int .u64 0) (.slice B1 0 c2) (.string ⟨#[]⟩)
            have hBz := below_store9 hB8 (B := w2.heap.size) (Nat.le_refl _) (.int .i64 0) (.int .i64 0) (.int .i64 0) (.slice A1 0 c1) (.int .i64 0) (.int .u64 0) (.int .u64 0) (.slice B1 0 c2) (.string ⟨#[]⟩)
            have hcz := Lib.hid (hc8.store9 hbx8 (noVal_asm _ _ _ _ _ _ _ _ _ (fun r h => by cases h) (fun k n h => by cases h)) (.int .i64 0) (.int .i64 0) (.int .i64 0) (.slice A1 0 c1) (.int .i64 0) (.int .u64 0) (.int .u64 0) (.slice B1 0 c2) (.string ⟨#[]⟩))
            clear hp8 hbx8 hc8 hB8 hx2 hv2
            go_wp2
            go_roundw
            case rel => exact ⟨k + 1, ⟨0, ⟨⟨0, 0, []⟩, ⟨0, 0, 0, []⟩, ⟨#[]⟩⟩⟩, A1, B1, c1, c2, hlt, by rw [show ((k + 1 : Nat) : Int) = (k : Int) + 1 by omega], by unfold cellsAs; (try dsimp only [List.length_nil]); with_reducible exact bR, hcz.out, Lib.hid (fun h => by omega), by with_reducible exact hBz⟩
            case measure => simp only [intOf]; omega
          · simp only [cm0, noH] at he
            generalize hsA : sA (k + 1) = sN at he
            have HsA := Lib.hid hsA
            clear hsA
            cases he
            have t1 : ((k : Int) == (n : Int) - 1) = false := by simp; omega
            obtain ⟨y0, y1, y2, y3, y4, y5, y6, y7, y8⟩ := hp.nine
            obtain ⟨a0, f0, a1, f1, a2, f2, a3, f3, a4, f4, a5, f5, a6, f6, a7, f7, a8, f8, bR⟩ := hbx2.store9 (.int .i64 s0) (.int .i64 s1) (.int .i64 s2) (.slice A1 sl.length c1) (.int .i64 s4) (.int .u64 s5) (.int .u64 s6) (.slice B1 sm.length c2) (.string s8)
            have hBz := below_store9 hB3 (B := w2.heap.size) (Nat.le_refl _) (.int .i64 s0) (.int .i64 s1) (.int .i64 s2) (.slice A1 sl.length c1) (.int .i64 s4) (.int .u64 s5) (.int .u64 s6) (.slice B1 sm.length c2) (.string s8)
            have hcz := Lib.hid (hc1.store9 hbx2 (noVal_asm _ _ _ _ _ _ _ _ _ (fun r h => by cases h) (fun k n h => by cases h)) (.int .i64 s0) (.int .i64 s1) (.int .i64 s2) (.slice A1 sl.length c1) (.int .i64 s4) (.int .u64 s5) (.int .u64 s6) (.slice B1 sm.length c2) (.string s8))
            clear hp hq hbx2 hc1 hc2 hB3 hx2 hv2
            go_wp2
            go_roundw
            case rel => exact ⟨k + 1, ⟨s0, ⟨⟨s1, s2, sl⟩, ⟨s4, s5, s6, sm⟩, s8⟩⟩, A1, B1, c1, c2, hlt, by rw [show ((k + 1 : Nat) : Int) = (k : Int) + 1 by omega], by unfold cellsAs; (try dsimp only [List.length_nil]); with_reducible exact bR, hcz.out, Lib.hid (fun _ => HsA.out.symm), by with_reducible exact hBz⟩
            case measure => simp only [intOf]; omega
      · obtain rfl : k = n := by omega
        have hBw := hB2.trans (hb.mono hB2.size)
        have t1 : decide ((1 : Int) ≤ (k : Int)) = true := decide_eq_true (by omega)
        clear hv2 hbx hcm Ha hx2
        go_wp2
        go_ret
        exact ⟨rfl, hBw⟩
  · have t : (E != 0) = true := by simpa using he
    have h0 := HNil.out he
    obtain ⟨n, hn⟩ : ∃ n, L.length = n := ⟨_, rfl⟩
    rw [hn] at h0 ⊢
    subst h0
    clear HStep HNil hv2 he hx2 HFd HS HSt H0 hn hlen
    go_wp2
    go_ret
    exact ⟨rfl, hB2⟩
end Go.Proofs.YtllgkohgcicbhaaGreatDoor
