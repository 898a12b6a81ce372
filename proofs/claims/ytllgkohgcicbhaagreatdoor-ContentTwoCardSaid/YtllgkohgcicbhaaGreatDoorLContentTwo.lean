/-
  ContentTwo's walk: two commands' frames, one behind the other, give the two commands, one behind the other. Conditions: the tables of widths and of contents are as their texts lay them; the values lie in old memory, of at most 2^47 bytes, each number a uint64, each text shorter than 2^47 bytes.
-/
import Derived.Deep.RegionHeld3
import Derived.Deep.DeepCutAuto
import Derived.Test.YtllgkohgcicbhaaGreatDoorMTwo
import Derived.Test.YtllgkohgcicbhaaGreatDoorMGot
import Derived.Test.YtllgkohgcicbhaaGreatDoorWFeedC
import Derived.Test.YtllgkohgcicbhaaGreatDoorJC1
import Derived.Test.YtllgkohgcicbhaaGreatDoorWCShown
import Derived.Test.YtllgkohgcicbhaaGreatDoorZH
namespace Go.Proofs.YtllgkohgcicbhaaGreatDoor
open Go.RowKit

theorem two_back {c : Cm} {ch : Int} {r k : Nat} (hr : 0 < r) (hw : wfC c) (he : cFrsE c ch r = 0) (hk : k < (cFrs c ch r).length) :
    feed (stAt c r k) ((cFrs c ch r)[k]).t ((cFrs c ch r)[k]).d = (if k + 1 = (cFrs c ch r).length then fWhole c else ⟨stAt c r (k + 1), cm0, false, 0⟩) ∧ ((cFrs c ch r)[k]).d.size ≤ r := by
  have h := frs_some he
  have hk2 : k < (cFrsL c ch r).length := by rw [← h]; exact hk
  have e : (cFrs c ch r)[k] = (cFrsL c ch r)[k] := by congr 1
  obtain ⟨h1, h2⟩ := feed_at hr hw he hk2
  rw [e, h1, h]
  refine ⟨rfl, ?_⟩
  exact frs_small hr _ (by rw [← e]; exact List.getElem_mem hk)
theorem two_pos {c : Cm} {ch : Int} {r : Nat} (he : cFrsE c ch r = 0) : 1 ≤ (cFrs c ch r).length := by
  rw [frs_some he, cFrsL, List.length_cons]; omega
/-- how far it has come behind k frames of both -/
def sTwo (c d : Cm) (r k : Nat) : As := if k < (cFrs c 1 r).length then stAt c r k else stAt d r (k - (cFrs c 1 r).length)
theorem two_step {c d : Cm} {r k : Nat} (hr : 0 < r) (hwc : wfC c) (hwd : wfC d) (hec : cFrsE c 1 r = 0) (hed : cFrsE d 1 r = 0) (hk : k < (cFrs c 1 r ++ cFrs d 1 r).length) :
    feed (sTwo c d r k) ((cFrs c 1 r ++ cFrs d 1 r)[k]).t ((cFrs c 1 r ++ cFrs d 1 r)[k]).d = (if k + 1 = (cFrs c 1 r).length then fWhole c else if k + 1 = (cFrs c 1 r ++ cFrs d 1 r).length then fWhole d else ⟨sTwo c d r (k + 1), cm0, false, 0⟩) ∧ ((cFrs c 1 r ++ cFrs d 1 r)[k]).d.size ≤ r := by
  have p1 := two_pos hec
  have p2 := two_pos hed
  have hlen : (cFrs c 1 r ++ cFrs d 1 r).length = (cFrs c 1 r).length + (cFrs d 1 r).length := List.length_append
  by_cases h : k < (cFrs c 1 r).length
  · have e : (cFrs c 1 r ++ cFrs d 1 r)[k] = (cFrs c 1 r)[k] := List.getElem_append_left h
    obtain ⟨h1, h2⟩ := two_back hr hwc hec h
    rw [e, sTwo, if_pos h, h1]
    refine ⟨?_, h2⟩
    by_cases g : k + 1 = (cFrs c 1 r).length
    · rw [if_pos g, if_pos g]
    · rw [if_neg g, if_neg g, if_neg (by omega), sTwo, if_pos (by omega)]
  · have hk2 : k - (cFrs c 1 r).length < (cFrs d 1 r).length := by omega
    have e : (cFrs c 1 r ++ cFrs d 1 r)[k] = (cFrs d 1 r)[k - (cFrs c 1 r).length] := List.getElem_append_right (by omega)
    obtain ⟨h1, h2⟩ := two_back hr hwd hed hk2
    rw [e, sTwo, if_neg h, h1]
    refine ⟨?_, h2⟩
    rw [if_neg (show ¬ (k + 1 = (cFrs c 1 r).length) by omega)]
    by_cases g : k - (cFrs c 1 r).length + 1 = (cFrs d 1 r).length
    · rw [if_pos g, if_pos (by omega)]
    · rw [if_neg g, if_neg (by omega), sTwo, if_neg (by omega), show k + 1 - (cFrs c 1 r).length = k - (cFrs c 1 r).length + 1 by omega]
theorem row_append2 (a b : List Fr) : rowFr (a ++ b) = rowFr a ++ rowFr b := by simp [rowFr]
theorem row_one2 (l : List Fr) : ∀ u ∈ rowFr l, u.oneCell' = true := by
  intro u hu
  simp only [rowFr, List.mem_flatMap, cellsFr] at hu
  obtain ⟨f, -, hf⟩ := hu
  simp at hf
  rcases hf with rfl | rfl | rfl <;> rfl
theorem got2_cells {W : World} {Y : Nat} {t : TypeId} {cs : List Value} {c d : Cm} {P1 P2 P3 P4 : Option Addr} {p1 p2 p3 p4 : Nat} (h : Bx W Y t cs) (ht : cs.take 16 = cellsC c P1 P2 p1 p2 ++ cellsC d P3 P4 p3 p4) (i : Nat) (v : Value) (hv : (cellsC c P1 P2 p1 p2 ++ cellsC d P3 P4 p3 p4)[i]? = some v) : W.cell? ⟨Y, i, none⟩ = some v := by
  rw [← ht, List.getElem?_take] at hv
  split at hv
  · obtain ⟨hlt, he⟩ := List.getElem?_eq_some_iff.1 hv
    rw [← he]; exact h.cell i hlt
  · cases hv

set_option maxRecDepth 100000 in
set_option maxHeartbeats 16000000 in
theorem contentTwo_walk (c d : Cm) (A B D F : Option Addr) (ca cb da db : Nat) (w : World) (hw : Wid w) (hk : Con w) (hwf : wfC c) (hwg : wfC d) (hc : CmAt w c A B ca cb) (hd : CmAt w d D F da db) (hl : shortC c) (hl' : shortC d) (hs : c.b.size < 4611686018427387904) (hs' : d.b.size < 4611686018427387904)
    (hl1 : c.m.l.length * 24 ≤ 140737488355328) (hl2 : c.h.l.length * 24 ≤ 140737488355328) (hl3 : d.m.l.length * 24 ≤ 140737488355328) (hl4 : d.h.l.length * 24 ≤ 140737488355328) :
    Calls Tryz.prog 6 #[encC c A B ca cb, encC d D F da db] w fun e w' => e = .returned (.bool true) ∧ Below w.heap.size w w' := by
  obtain ⟨W0, hW0⟩ : ∃ W0, W0 = (w.alloc (.cells (cellsC c A B ca cb).toArray 29)).alloc (.cells (cellsC d D F da db).toArray 29) := ⟨_, rfl⟩
  have hb0 : Below w.heap.size w W0 := by rw [hW0]; exact ((Below.refl _ w).alloc (Nat.le_refl _) _).alloc (by simp) _
  have hx : Bx W0 w.heap.size 29 (cellsC c A B ca cb) := by rw [hW0]; exact (Bx.new w 29 (cellsC c A B ca cb)).alloc _
  have hy : Bx W0 (w.heap.size + 1) 29 (cellsC d D F da db) := by
    have h := Bx.new (w.alloc (.cells (cellsC c A B ca cb).toArray 29)) 29 (cellsC d D F da db)
    rw [World.size_alloc] at h
    rw [hW0]; exact h
  have hSh := cshown_any W0 (hw.below hb0) (hk.below hb0)
  have hFr := fun W (h : Below w.heap.size w W) => frames_any c A B ca cb 1 0 W (hw.below h) (hk.below h) hwf (hc.below h) hl hs
  have hFs := fun W (h : Below w.heap.size w W) => frames_any d D F da db 1 0 W (hw.below h) (hk.below h) hwg (hd.below h) hl' hs'
  have hr := (room_is 0).2
  have HSt : Hid (cFrsE c 1 (roomN 0) = 0 → cFrsE d 1 (roomN 0) = 0 → ∀ k, (0 ≤ (sTwo c d (roomN 0) k).st ∧ (sTwo c d (roomN 0) k).st ≤ 2) ∧ (sTwo c d (roomN 0) k).c.m.l.length * 24 ≤ 140737488355328 ∧ (sTwo c d (roomN 0) k).c.h.l.length * 24 ≤ 140737488355328 ∧ (sTwo c d (roomN 0) k).c.b.size ≤ 65536) := Lib.hid (fun h1 h2 k => by
    have q1 := cE_small (cFrsE_parts h1).1
    have q2 := cE_small (cFrsE_parts h2).1
    rw [sTwo]
    split
    · obtain ⟨g1, g2, g3, g4⟩ := stAt_small (c := c) (r := roomN 0) (by omega) k
      exact ⟨g1, by omega, by omega, by omega⟩
    · obtain ⟨g1, g2, g3, g4⟩ := stAt_small (c := d) (r := roomN 0) (by omega) (k - (cFrs c 1 (roomN 0)).length)
      exact ⟨g1, by omega, by omega, by omega⟩)
  have HS0 : Hid (cFrsE c 1 (roomN 0) = 0 → sTwo c d (roomN 0) 0 = as0) := Lib.hid (fun h => by rw [sTwo, if_pos (show 0 < (cFrs c 1 (roomN 0)).length from two_pos h)]; rfl)
  have HS1 : Hid (sTwo c d (roomN 0) (cFrs c 1 (roomN 0)).length = as0) := Lib.hid (by rw [sTwo, if_neg (by omega), Nat.sub_self]; rfl)
  have HPos : Hid (cFrsE c 1 (roomN 0) = 0 → cFrsE d 1 (roomN 0) = 0 → 1 ≤ (cFrs c 1 (roomN 0)).length ∧ 1 ≤ (cFrs d 1 (roomN 0)).length) := Lib.hid (fun h1 h2 => ⟨two_pos h1, two_pos h2⟩)
  have HStep : Hid (cFrsE c 1 (roomN 0) = 0 → cFrsE d 1 (roomN 0) = 0 → ∀ n1 N LL, (cFrs c 1 (roomN 0)).length = n1 → cFrs c 1 (roomN 0) ++ cFrs d 1 (roomN 0) = LL → LL.length = N → ∀ k (hk : k < LL.length), feed (sTwo c d (roomN 0) k) (LL[k]).t (LL[k]).d = (if k + 1 = n1 then fWhole c else if k + 1 = N then fWhole d else ⟨sTwo c d (roomN 0) (k + 1), cm0, false, 0⟩) ∧ (LL[k]).d.size ≤ 131064) := Lib.hid (fun h1 h2 n1 N LL e1 e2 e3 k hk => by
    subst e2
    obtain ⟨g1, g2⟩ := two_step (by omega) hwf hwg h1 h2 hk
    rw [e1, e3] at g1
    exact ⟨g1, by omega⟩)
  have hlen1 : (cFrs c 1 (roomN 0)).length ≤ 65538 := frs_len (by omega)
  have hlen2 : (cFrs d 1 (roomN 0)).length ≤ 65538 := frs_len (by omega)
  have HSc : Hid (∀ A' B' ca' cb' W, Below w.heap.size w W → CmAt W c A' B' ca' cb' → Calls Tryz.prog 13 #[encC c A' B' ca' cb', encC c A B ca cb] W fun e w' => e = .returned (.bool true) ∧ Below W.heap.size W w') := Lib.hid (fun A' B' ca' cb' W h1 h2 => by
    have h := rcsame_any c c A' B' A B ca' cb' ca cb W h2 (hc.below h1) hl
    rw [(sameC_iff c c).2 rfl] at h
    exact h)
  have HSd : Hid (∀ A' B' ca' cb' W, Below w.heap.size w W → CmAt W d A' B' ca' cb' → Calls Tryz.prog 13 #[encC d A' B' ca' cb', encC d D F da db] W fun e w' => e = .returned (.bool true) ∧ Below W.heap.size W w') := Lib.hid (fun A' B' ca' cb' W h1 h2 => by
    have h := rcsame_any d d A' B' D F ca' cb' da db W h2 (hd.below h1) hl'
    rw [(sameC_iff d d).2 rfl] at h
    exact h)
  have HFd : Hid (∀ (a : As) QA QB qa qb (f : Fr) W, Below w.heap.size w W → ((0 ≤ a.st ∧ a.st ≤ 2) ∧ a.c.m.l.length * 24 ≤ 140737488355328 ∧ a.c.h.l.length * 24 ≤ 140737488355328 ∧ a.c.b.size ≤ 65536) → f.d.size ≤ 131064 → CmAt W a.c QA QB qa qb → Calls Tryz.prog 8 #[encAs a QA QB qa qb, encFr f] W (FdPost (feed a f.t f.d) W)) := Lib.hid (fun a QA QB qa qb f W h1 h2 h4 h5 => feed_any a QA QB qa qb f.t f.c f.d W (hw.below h1) (hk.below h1) ⟨by omega, by omega⟩ h5 (by omega) (by omega) (by omega) (by omega))
  unfold FrPost at hFr hFs
  generalize cFrs c 1 (roomN 0) = L1 at *
  generalize cFrs d 1 (roomN 0) = L2 at *
  generalize cFrsE c 1 (roomN 0) = E1 at *
  generalize cFrsE d 1 (roomN 0) = E2 at *
  generalize sTwo c d (roomN 0) = sT at *
  clear hr hwf hwg hc hd hl hl' hw hk hl1 hl2 hl3 hl4 hs hs'
  unfold encC at hFr hFs HSc HSd ⊢
  unfold cellsC at hx hy hW0
  obtain ⟨⟨mc, mi, ml⟩, ⟨hc', hz', hf', hl⟩, sb⟩ := c
  obtain ⟨⟨nc, ni, nl⟩, ⟨gc, gz, gf, gl⟩, tb⟩ := d
  dsimp only at hFr hFs hx hy hW0 HSc HSd HFd ⊢
  obtain ⟨i0, hi, hz0, hz1, hz2⟩ := info_parts3 infoFrame
  go_enter Tryz.func6, Tryz.ntmps6
  go_upto_region 1 with fail
  rw [← hW0]
  clear hW0
  go_wp2_with fail
  with_reducible refine hSh.mono ?_
  rintro e w1 ⟨rfl, hb1⟩
  have hB1 := hb0.trans (hb1.mono hb0.size)
  have hx1 := hx.kept hb1
  have hy1 := hy.kept hb1
  clear hSh hx hy hb1 hb0
  obtain ⟨x0, x1, x2, x3, x4, x5, x6, x7⟩ := hx1.eight
  go_wp2_with fail
  with_reducible refine (hFr w1 hB1).mono ?_
  rintro e w2 ⟨v2, rfl, hr2, hb2⟩
  have hB2 := hB1.trans (hb2.mono hB1.size)
  have hx2 := hx1.kept hb2
  have hy2 := hy1.kept hb2
  obtain ⟨A2', c2', rfl, hv2, hno2, -⟩ := vals_of_row3 hr2
  clear hFr hx1 hy1 hb2 hB1 x0 x1 x2 x3 x4 x5 x6 x7 hr2
  obtain ⟨x0, x1, x2, x3, x4, x5, x6, x7⟩ := hy2.eight
  go_wp2_with fail
  with_reducible refine (hFs w2 hB2).mono ?_
  rintro e w4 ⟨v3, rfl, hr3, hb4⟩
  have hB4 := hB2.trans (hb4.mono hB2.size)
  have hx4 := hx2.kept hb4
  have hy4 := hy2.kept hb4
  have va1 := hv2.below hb4
  obtain ⟨A3', c3', rfl, va3, hno3, -⟩ := vals_of_row3 hr3
  clear hFs hx2 hy2 hb4 hB2 x0 x1 x2 x3 x4 x5 x6 x7 hr3 hv2
  by_cases he1 : E1 = 0
  case neg =>
    have t : (E1 != 0) = true := by simpa using he1
    clear va1 va3 hno2 hno3 hx4 hy4 HFd HSc HSd HSt HS0 HS1 HPos HStep he1
    go_wp2
    go_ret
    exact ⟨rfl, hB4⟩
  subst he1
  by_cases he2 : E2 = 0
  case neg =>
    have t : (E2 != 0) = true := by simpa using he2
    clear va1 va3 hno2 hno3 hx4 hy4 HFd HSc HSd HSt HS0 HS1 HPos HStep he2
    go_wp2
    go_ret
    exact ⟨rfl, hB4⟩
  subst he2
  obtain ⟨n1, hn1⟩ : ∃ n, L1.length = n := ⟨_, rfl⟩
  obtain ⟨n2, hn2⟩ : ∃ n, L2.length = n := ⟨_, rfl⟩
  have hst := HStep.out rfl rfl
  have hss := HSt.out rfl rfl
  have hs0 := HS0.out rfl
  have hs1 := HS1.out
  obtain ⟨hp1, hp2⟩ := HPos.out rfl rfl
  clear HStep HSt HS0 HS1 HPos
  have HNo1 := Lib.hid hno2
  have HNo3 := Lib.hid hno3
  have H1 := Lib.hid hn1
  have H2 := Lib.hid hn2
  rw [hn1] at hs1 hp1 hlen1 ⊢
  rw [hn2] at hp2 hlen2 ⊢
  have HStA := Lib.hid hst
  have HSt := Lib.hid hss
  have HS0 := Lib.hid hs0
  have HS1 := Lib.hid hs1
  clear hst hss hs0 hs1 hn1 hn2 hno2 hno3
  have hrow0 := World.ownsRow_made (e := 33) (size := 3) (base := w4.heap.size) w4 #[] 0 (Nat.le_refl _) (by decide) rfl
  have bA : Below w4.heap.size w4 (w4.alloc (.cells #[] 33)) := (Below.refl _ _).alloc (Nat.le_refl _) _
  have va1 := va1.below bA
  have tok1 : True := trivial
  have tok2 : True := trivial
  have r1 : (rowFr L1).length = n1 * 3 := by rw [rowFr_length, H1.out]
  have r2 : (rowFr L2).length = n2 * 3 := by rw [rowFr_length, H2.out]
  have o1 := Lib.hid (row_one2 L1)
  have o2 := Lib.hid (row_one2 L2)
  have HNa : Hid (A2' = none → n1 = 0 ∧ c2' = 0) := Lib.hid (fun h => by rw [← H1.out]; exact HNo1.out h)
  have HNc : Hid (A3' = none → n2 = 0 ∧ c3' = 0) := Lib.hid (fun h => by rw [← H2.out]; exact HNo3.out h)
  go_wp2_with (at_builtin; have _t := tok1; refine wpList_append_row rfl _ _ 42 rfl w4.heap.size 33 i0 (.agg #[.int .i64 0, .int .i64 0, .string ⟨#[]⟩]) 3 32 Tryz.underlying42 hi hz0 hz1 hz2 rfl ?s0 (.slice (some ⟨w4.heap.size, 0, none⟩) 0 0) 0 [] rfl hrow0 A2' n1 c2' (rowFr L1) rfl ?s1 va1 HNa.out o1.out ?s4 ?s5 ?s6 ?s7)
  case s0 => decide
  case s1 => exact r1
  case s4 => unfold maxLen; omega
  case s5 => omega
  case s6 => simp
  case s7 =>
    intro v5 w5 row5 hg5
    clear tok1
    have bB := bA.grown hg5 bA.size (fun j ej => by
      obtain rfl : w4.heap.size = j := by simpa [Value.ownBlock] using ej
      exact Nat.le_refl _)
    have va3 := va3.below bB
    have bbs := bB.size
    go_wp2_with (at_builtin; have _t := tok2; refine wpList_append_row rfl _ _ 42 rfl w4.heap.size 33 i0 (.agg #[.int .i64 0, .int .i64 0, .string ⟨#[]⟩]) 3 32 Tryz.underlying42 hi hz0 hz1 hz2 rfl ?s0 v5 _ _ rfl row5 A3' n2 c3' (rowFr L2) rfl ?s1 va3 HNc.out o2.out ?s4 ?s5 bbs ?s7)
    case s0 => decide
    case s1 => exact r2
    case s4 => unfold maxLen; omega
    case s5 => omega
    case s7 =>
      intro v6 w6 row6 hg6
      clear tok2
      have bC := bB.grown hg6 bB.size (fun j ej => by
        obtain ⟨-, ⟨rfl, -⟩ | ⟨g, cap, cur, rfl, hbg, -, -⟩⟩ := row5
        · simp [Value.ownBlock] at ej
        · obtain rfl : g = j := by simpa [Value.ownBlock] using ej
          exact hbg)
      have hB6 := hB4.trans (bC.mono hB4.size)
      have hx6 := hx4.kept bC
      have hy6 := hy4.kept bC
      rw [← row_append2] at row6
      obtain ⟨A6, cq, rfl, hv6, -, -⟩ := vals_of_row3 row6
      clear row6 row5 bB hg6 hg5 va3 bbs hrow0 bA va1 bC hB4 hx4 hy4 r1 r2 o1 o2 HNa HNc HNo1 HNo3 hi hz0 hz1 hz2
      obtain ⟨LL, hLL⟩ : ∃ LL, L1 ++ L2 = LL := ⟨_, rfl⟩
      have hLn : LL.length = n1 + n2 := by rw [← hLL, List.length_append, H1.out, H2.out]
      obtain ⟨N, hN⟩ : ∃ N, n1 + n2 = N := ⟨_, rfl⟩
      rw [hN] at hLn ⊢
      rw [hLL] at hv6
      have HStep := Lib.hid (HStA.out n1 N LL H1.out hLL hLn)
      have HN := Lib.hid hLn
      have h1N : n1 < N := by omega
      have hNs : N ≤ 131076 := by omega
      clear HStA H1 H2 hLn hLL hN hlen1 hlen2
      obtain ⟨W3, hW3⟩ : ∃ W3, W3 = w6.alloc (.cells #[.int .i64 0, .int .i64 0, .int .i64 0, .slice none 0 0, .int .i64 0, .int .u64 0, .int .u64 0, .slice none 0 0, .string ⟨#[]⟩] 31) := ⟨_, rfl⟩
      have hb3 : Below w6.heap.size w6 W3 := by rw [hW3]; exact (Below.refl _ w6).alloc (Nat.le_refl _) _
      have ha3 : Bx W3 w6.heap.size 31 [.int .i64 0, .int .i64 0, .int .i64 0, .slice none 0 0, .int .i64 0, .int .u64 0, .int .u64 0, .slice none 0 0, .string ⟨#[]⟩] := by rw [hW3]; exact Bx.new w6 _ _
      go_upto_region 8 with fail
      rw [← hW3]
      clear hW3
      go_wp2_with fail
      go_loopw [12, 13] (fun p v wr => ∃ (k : Nat) (gv : Value) (a : As) (QA QB : Option Addr) (qa qb : Nat), gv = p ∧ k ≤ N ∧ v = .int .i64 k ∧ Bx wr w6.heap.size 31 (cellsAs a QA QB qa qb) ∧ CmAt wr a.c QA QB qa qb ∧ Hid (k < N → a = sT k) ∧ Hid (GotAt (w6.heap.size + 1) wr n1 N k ⟨⟨mc, mi, ml⟩, ⟨hc', hz', hf', hl⟩, sb⟩ ⟨⟨nc, ni, nl⟩, ⟨gc, gz, gf, gl⟩, tb⟩ gv) ∧ Below w6.heap.size w6 wr) (fun _ v _ => N - (intOf v).toNat)
      case atStart => exact ⟨0, _, as0, none, none, 0, 0, rfl, Nat.zero_le _, rfl, ha3, cmAt0 _, Lib.hid (fun _ => HS0.out.symm), Lib.hid ⟨fun _ => rfl, fun h _ => by omega, fun h => by omega⟩, hb3⟩
      case round =>
        obtain ⟨k, gv, a, QA, QB, qa, qb, rfl, hk, rfl, hbx, hcm, Ha, Hg, hb⟩ := hrel
        clear ha3 hb3
        by_cases hlt : k < N
        · have hkl : k < LL.length := by rw [HN.out]; exact hlt
          obtain ⟨b1, off, rfl, hbl, g1⟩ := vals_frame hv6 k hkl
          obtain ⟨f1, f3⟩ := HStep.out k (by first | exact hlt | exact hkl)
          have hea := Ha.out hlt
          rw [← hea] at f1
          have hT := fun W (h : Below wr.heap.size wr W) => HFd.out a QA QB qa qb LL[k] W (hB6.trans ((hb.trans (h.mono hb.size)).mono hB6.size)) (by rw [hea]; exact HSt.out k) f3 (hcm.below h)
          rw [f1] at hT
          have HR : Hid ((k + 1 = n1 ∧ (if k + 1 = n1 then fWhole ⟨⟨mc, mi, ml⟩, ⟨hc', hz', hf', hl⟩, sb⟩ else if k + 1 = N then fWhole ⟨⟨nc, ni, nl⟩, ⟨gc, gz, gf, gl⟩, tb⟩ else ⟨sT (k + 1), cm0, false, 0⟩) = fWhole ⟨⟨mc, mi, ml⟩, ⟨hc', hz', hf', hl⟩, sb⟩) ∨ (k + 1 = N ∧ n1 ≤ k ∧ (if k + 1 = n1 then fWhole ⟨⟨mc, mi, ml⟩, ⟨hc', hz', hf', hl⟩, sb⟩ else if k + 1 = N then fWhole ⟨⟨nc, ni, nl⟩, ⟨gc, gz, gf, gl⟩, tb⟩ else ⟨sT (k + 1), cm0, false, 0⟩) = fWhole ⟨⟨nc, ni, nl⟩, ⟨gc, gz, gf, gl⟩, tb⟩) ∨ (k + 1 < N ∧ k + 1 ≠ n1 ∧ (if k + 1 = n1 then fWhole ⟨⟨mc, mi, ml⟩, ⟨hc', hz', hf', hl⟩, sb⟩ else if k + 1 = N then fWhole ⟨⟨nc, ni, nl⟩, ⟨gc, gz, gf, gl⟩, tb⟩ else ⟨sT (k + 1), cm0, false, 0⟩) = ⟨sT (k + 1), cm0, false, 0⟩)) := Lib.hid (by
            by_cases h : k + 1 = n1
            · rw [if_pos h]; exact .inl ⟨h, rfl⟩
            · rw [if_neg h]
              by_cases h2 : k + 1 = N
              · rw [if_pos h2]; exact .inr (.inl ⟨h2, by omega, rfl⟩)
              · rw [if_neg h2]; exact .inr (.inr ⟨by omega, h, rfl⟩))
          generalize (if k + 1 = n1 then fWhole ⟨⟨mc, mi, ml⟩, ⟨hc', hz', hf', hl⟩, sb⟩ else if k + 1 = N then fWhole ⟨⟨nc, ni, nl⟩, ⟨gc, gz, gf, gl⟩, tb⟩ else ⟨sT (k + 1), cm0, false, 0⟩) = fdv at hT HR
          generalize LL[k] = f at g1 f1 f3 hT
          clear f1 f3 hea Ha
          obtain ⟨ft, fc, fd⟩ := f
          obtain ⟨q0, ⟨⟨q1, q2, ql⟩, ⟨q4, q5, q6, qm⟩, q8⟩⟩ := a
          obtain ⟨⟨s0, ⟨⟨s1, s2, sl⟩, ⟨s4, s5, s6, sm⟩, s8⟩⟩, ⟨⟨o1, o2, ol⟩, ⟨o4, o5, o6, om⟩, o8⟩, ob, oe⟩ := fdv
          unfold FdPost encAs encFr encC at hT
          unfold cellsAs at hbx
          dsimp only at hT hbx g1 hcm
          have hbs := hb.size
          have keep : ∀ w', Below wr.heap.size wr w' → w'.cell? ⟨w6.heap.size, 0, none⟩ = some (.int .i64 q0) ∧ w'.cell? ⟨w6.heap.size, 1, none⟩ = some (.int .i64 q1) ∧ w'.cell? ⟨w6.heap.size, 2, none⟩ = some (.int .i64 q2) ∧ w'.cell? ⟨w6.heap.size, 3, none⟩ = some (.slice QA ql.length qa) ∧ w'.cell? ⟨w6.heap.size, 4, none⟩ = some (.int .i64 q4) ∧ w'.cell? ⟨w6.heap.size, 5, none⟩ = some (.int .u64 q5) ∧ w'.cell? ⟨w6.heap.size, 6, none⟩ = some (.int .u64 q6) ∧ w'.cell? ⟨w6.heap.size, 7, none⟩ = some (.slice QB qm.length qb) ∧ w'.cell? ⟨w6.heap.size, 8, none⟩ = some (.string q8) ∧ w'.cell? ⟨b1, off + k * 3, none⟩ = some (.int .i64 ft) ∧ w'.cell? ⟨b1, off + k * 3 + 1, none⟩ = some (.int .i64 fc) ∧ w'.cell? ⟨b1, off + k * 3 + 2, none⟩ = some (.string fd) := fun w' h => by
            obtain ⟨e0, e1, e2, e3, e4, e5, e6, e7, e8⟩ := (hbx.kept h).nine
            obtain ⟨z0, z1, z2⟩ := g1 w' (hb.trans (h.mono hb.size))
            exact ⟨e0, e1, e2, e3, e4, e5, e6, e7, e8, z0, z1, z2⟩
          have i0 : (0 : Int) ≤ (k : Int) := by omega
          have i1 : (k : Int) < (N : Int) := by omega
          have tok : True := trivial
          have hq0 : Below wr.heap.size wr wr.drew := (Below.refl _ wr).drew
          have hT0 := hT _ hq0
          have hqa : Below wr.heap.size wr (wr.alloc (.cells #[.int .i64 0, .int .i64 0, .int .i64 0, .slice none 0 0, .int .i64 0, .int .u64 0, .int .u64 0, .slice none 0 0, .string ⟨#[]⟩] 31)).drew := ((Below.refl _ wr).alloc (Nat.le_refl _) _).drew
          have hTa := hT _ hqa
          have hqb : Below wr.heap.size wr (wr.alloc (.cells #[.int .i64 0, .int .i64 0, .slice none 0 0, .int .i64 0, .int .u64 0, .int .u64 0, .slice none 0 0, .string ⟨#[]⟩] 29)).drew := ((Below.refl _ wr).alloc (Nat.le_refl _) _).drew
          have hTb := hT _ hqb
          have hqab : Below wr.heap.size wr ((wr.alloc (.cells #[.int .i64 0, .int .i64 0, .int .i64 0, .slice none 0 0, .int .i64 0, .int .u64 0, .int .u64 0, .slice none 0 0, .string ⟨#[]⟩] 31)).alloc (.cells #[.int .i64 0, .int .i64 0, .slice none 0 0, .int .i64 0, .int .u64 0, .int .u64 0, .slice none 0 0, .string ⟨#[]⟩] 29)).drew := (((Below.refl _ wr).alloc (Nat.le_refl _) _).alloc (by simp) _).drew
          have hTab := hT _ hqab
          have hqba : Below wr.heap.size wr ((wr.alloc (.cells #[.int .i64 0, .int .i64 0, .slice none 0 0, .int .i64 0, .int .u64 0, .int .u64 0, .slice none 0 0, .string ⟨#[]⟩] 29)).alloc (.cells #[.int .i64 0, .int .i64 0, .int .i64 0, .slice none 0 0, .int .i64 0, .int .u64 0, .int .u64 0, .slice none 0 0, .string ⟨#[]⟩] 31)).drew := (((Below.refl _ wr).alloc (Nat.le_refl _) _).alloc (by simp) _).drew
          have hTba := hT _ hqba
          have bxa : Bx (wr.alloc (.cells #[.int .i64 0, .int .i64 0, .int .i64 0, .slice none 0 0, .int .i64 0, .int .u64 0, .int .u64 0, .slice none 0 0, .string ⟨#[]⟩] 31)).drew wr.heap.size 31 [.int .i64 0, .int .i64 0, .int .i64 0, .slice none 0 0, .int .i64 0, .int .u64 0, .int .u64 0, .slice none 0 0, .string ⟨#[]⟩] := Bx.new wr 31 [.int .i64 0, .int .i64 0, .int .i64 0, .slice none 0 0, .int .i64 0, .int .u64 0, .int .u64 0, .slice none 0 0, .string ⟨#[]⟩]
          have bxb : Bx (wr.alloc (.cells #[.int .i64 0, .int .i64 0, .slice none 0 0, .int .i64 0, .int .u64 0, .int .u64 0, .slice none 0 0, .string ⟨#[]⟩] 29)).drew wr.heap.size 29 [.int .i64 0, .int .i64 0, .slice none 0 0, .int .i64 0, .int .u64 0, .int .u64 0, .slice none 0 0, .string ⟨#[]⟩] := Bx.new wr 29 [.int .i64 0, .int .i64 0, .slice none 0 0, .int .i64 0, .int .u64 0, .int .u64 0, .slice none 0 0, .string ⟨#[]⟩]
          have bxab1 : Bx ((wr.alloc (.cells #[.int .i64 0, .int .i64 0, .int .i64 0, .slice none 0 0, .int .i64 0, .int .u64 0, .int .u64 0, .slice none 0 0, .string ⟨#[]⟩] 31)).alloc (.cells #[.int .i64 0, .int .i64 0, .slice none 0 0, .int .i64 0, .int .u64 0, .int .u64 0, .slice none 0 0, .string ⟨#[]⟩] 29)).drew wr.heap.size 31 [.int .i64 0, .int .i64 0, .int .i64 0, .slice none 0 0, .int .i64 0, .int .u64 0, .int .u64 0, .slice none 0 0, .string ⟨#[]⟩] := (Bx.new wr 31 [.int .i64 0, .int .i64 0, .int .i64 0, .slice none 0 0, .int .i64 0, .int .u64 0, .int .u64 0, .slice none 0 0, .string ⟨#[]⟩]).alloc _
          have bxab2 : Bx ((wr.alloc (.cells #[.int .i64 0, .int .i64 0, .int .i64 0, .slice none 0 0, .int .i64 0, .int .u64 0, .int .u64 0, .slice none 0 0, .string ⟨#[]⟩] 31)).alloc (.cells #[.int .i64 0, .int .i64 0, .slice none 0 0, .int .i64 0, .int .u64 0, .int .u64 0, .slice none 0 0, .string ⟨#[]⟩] 29)).drew (wr.heap.size + 1) 29 [.int .i64 0, .int .i64 0, .slice none 0 0, .int .i64 0, .int .u64 0, .int .u64 0, .slice none 0 0, .string ⟨#[]⟩] := by have h := Bx.new (wr.alloc (.cells #[.int .i64 0, .int .i64 0, .int .i64 0, .slice none 0 0, .int .i64 0, .int .u64 0, .int .u64 0, .slice none 0 0, .string ⟨#[]⟩] 31)) 29 [.int .i64 0, .int .i64 0, .slice none 0 0, .int .i64 0, .int .u64 0, .int .u64 0, .slice none 0 0, .string ⟨#[]⟩]; rw [World.size_alloc] at h; exact h
          have bxba1 : Bx ((wr.alloc (.cells #[.int .i64 0, .int .i64 0, .slice none 0 0, .int .i64 0, .int .u64 0, .int .u64 0, .slice none 0 0, .string ⟨#[]⟩] 29)).alloc (.cells #[.int .i64 0, .int .i64 0, .int .i64 0, .slice none 0 0, .int .i64 0, .int .u64 0, .int .u64 0, .slice none 0 0, .string ⟨#[]⟩] 31)).drew wr.heap.size 29 [.int .i64 0, .int .i64 0, .slice none 0 0, .int .i64 0, .int .u64 0, .int .u64 0, .slice none 0 0, .string ⟨#[]⟩] := (Bx.new wr 29 [.int .i64 0, .int .i64 0, .slice none 0 0, .int .i64 0, .int .u64 0, .int .u64 0, .slice none 0 0, .string ⟨#[]⟩]).alloc _
          have bxba2 : Bx ((wr.alloc (.cells #[.int .i64 0, .int .i64 0, .slice none 0 0, .int .i64 0, .int .u64 0, .int .u64 0, .slice none 0 0, .string ⟨#[]⟩] 29)).alloc (.cells #[.int .i64 0, .int .i64 0, .int .i64 0, .slice none 0 0, .int .i64 0, .int .u64 0, .int .u64 0, .slice none 0 0, .string ⟨#[]⟩] 31)).drew (wr.heap.size + 1) 31 [.int .i64 0, .int .i64 0, .int .i64 0, .slice none 0 0, .int .i64 0, .int .u64 0, .int .u64 0, .slice none 0 0, .string ⟨#[]⟩] := by have h := Bx.new (wr.alloc (.cells #[.int .i64 0, .int .i64 0, .slice none 0 0, .int .i64 0, .int .u64 0, .int .u64 0, .slice none 0 0, .string ⟨#[]⟩] 29)) 31 [.int .i64 0, .int .i64 0, .int .i64 0, .slice none 0 0, .int .i64 0, .int .u64 0, .int .u64 0, .slice none 0 0, .string ⟨#[]⟩]; rw [World.size_alloc] at h; exact h
          clear hT
          go_upto_region 12 with fail
          go_cut [14, 15, 16, 17] from 42 to 66 (fun p q b e wx => TwoAt wr.heap.size wx p q ⟨s0, ⟨⟨s1, s2, sl⟩, ⟨s4, s5, s6, sm⟩, s8⟩⟩ ⟨⟨o1, o2, ol⟩, ⟨o4, o5, o6, om⟩, o8⟩ ∧ b = .bool ob ∧ e = .int .i64 oe ∧ Below wr.heap.size wr wx)
          case first =>
            go_region_held3 (fun w' => w'.cell? ⟨w6.heap.size, 0, none⟩ = some (.int .i64 q0) ∧ w'.cell? ⟨w6.heap.size, 1, none⟩ = some (.int .i64 q1) ∧ w'.cell? ⟨w6.heap.size, 2, none⟩ = some (.int .i64 q2) ∧ w'.cell? ⟨w6.heap.size, 3, none⟩ = some (.slice QA ql.length qa) ∧ w'.cell? ⟨w6.heap.size, 4, none⟩ = some (.int .i64 q4) ∧ w'.cell? ⟨w6.heap.size, 5, none⟩ = some (.int .u64 q5) ∧ w'.cell? ⟨w6.heap.size, 6, none⟩ = some (.int .u64 q6) ∧ w'.cell? ⟨w6.heap.size, 7, none⟩ = some (.slice QB qm.length qb) ∧ w'.cell? ⟨w6.heap.size, 8, none⟩ = some (.string q8) ∧ w'.cell? ⟨b1, off + k * 3, none⟩ = some (.int .i64 ft) ∧ w'.cell? ⟨b1, off + k * 3 + 1, none⟩ = some (.int .i64 fc) ∧ w'.cell? ⟨b1, off + k * 3 + 2, none⟩ = some (.string fd)) (first | (with_reducible exact keep _ hfU) | (with_reducible exact keep _ hfT) | (with_reducible exact keep _ (hfS.alloc hfS.size _)) | (with_reducible exact keep _ hfS) | (with_reducible exact keep _ ((hf.alloc hf.size _).alloc (hf.alloc hf.size _).size _)) | (with_reducible exact keep _ (hf.alloc hf.size _)) | (with_reducible exact keep _ hf) | (with_reducible exact keep _ hqba) | (with_reducible exact keep _ hqab) | (with_reducible exact keep _ hqb) | (with_reducible exact keep _ hqa) | (with_reducible exact keep _ hq0)) (first | (go_at_call 8; with_reducible refine hT0.mono ?_; rintro e w9 ⟨A1, B1, A2, B2, c1, c2, c3, c4, rfl, hc1, hc2, hr9⟩; have hf : Below wr.heap.size wr w9 := hq0.trans (hr9.mono hq0.size); have hzz := hf.size; have hm0 := hf) | (go_at_call 8; with_reducible refine hTa.mono ?_; rintro e w9 ⟨A1, B1, A2, B2, c1, c2, c3, c4, rfl, hc1, hc2, hr9⟩; have hf : Below wr.heap.size wr w9 := hqa.trans (hr9.mono hqa.size); have hzz := hf.size; have ba := bxa.kept hr9; have bla := bxa.lt; obtain ⟨xa0, xf0, xa1, xf1, xa2, xf2, xa3, xf3, xa4, xf4, xa5, xf5, xa6, xf6, xa7, xf7, xa8, xf8, bS⟩ := ba.store9 (.int .i64 s0) (.int .i64 s1) (.int .i64 s2) (.slice A1 sl.length c1) (.int .i64 s4) (.int .u64 s5) (.int .u64 s6) (.slice B1 sm.length c2) (.string s8); have hfS := below_store9 hf (B := wr.heap.size) (Nat.le_refl _) (.int .i64 s0) (.int .i64 s1) (.int .i64 s2) (.slice A1 sl.length c1) (.int .i64 s4) (.int .u64 s5) (.int .u64 s6) (.slice B1 sm.length c2) (.string s8); have bb := ba.alloc (.cells #[.int .i64 0, .int .i64 0, .slice none 0 0, .int .i64 0, .int .u64 0, .int .u64 0, .slice none 0 0, .string ⟨#[]⟩] 29); obtain ⟨ya0, yf0, ya1, yf1, ya2, yf2, ya3, yf3, ya4, yf4, ya5, yf5, ya6, yf6, ya7, yf7, ya8, yf8, bT⟩ := bb.store9 (.int .i64 s0) (.int .i64 s1) (.int .i64 s2) (.slice A1 sl.length c1) (.int .i64 s4) (.int .u64 s5) (.int .u64 s6) (.slice B1 sm.length c2) (.string s8); have hfT := below_store9 (hf.alloc hf.size (.cells #[.int .i64 0, .int .i64 0, .slice none 0 0, .int .i64 0, .int .u64 0, .int .u64 0, .slice none 0 0, .string ⟨#[]⟩] 29)) (B := wr.heap.size) (Nat.le_refl _) (.int .i64 s0) (.int .i64 s1) (.int .i64 s2) (.slice A1 sl.length c1) (.int .i64 s4) (.int .u64 s5) (.int .u64 s6) (.slice B1 sm.length c2) (.string s8); have bn := ((((((((((Bx.new w9 29 [.int .i64 0, .int .i64 0, .slice none 0 0, .int .i64 0, .int .u64 0, .int .u64 0, .slice none 0 0, .string ⟨#[]⟩]).other (B' := wr.heap.size) (by have := hr9.size; simp at this ⊢; omega) 0 (.int .i64 s0)).other (B' := wr.heap.size) (by have := hr9.size; simp at this ⊢; omega) 1 (.int .i64 s1)).other (B' := wr.heap.size) (by have := hr9.size; simp at this ⊢; omega) 2 (.int .i64 s2)).other (B' := wr.heap.size) (by have := hr9.size; simp at this ⊢; omega) 3 (.slice A1 sl.length c1)).other (B' := wr.heap.size) (by have := hr9.size; simp at this ⊢; omega) 4 (.int .i64 s4)).other (B' := wr.heap.size) (by have := hr9.size; simp at this ⊢; omega) 5 (.int .u64 s5)).other (B' := wr.heap.size) (by have := hr9.size; simp at this ⊢; omega) 6 (.int .u64 s6)).other (B' := wr.heap.size) (by have := hr9.size; simp at this ⊢; omega) 7 (.slice B1 sm.length c2)).other (B' := wr.heap.size) (by have := hr9.size; simp at this ⊢; omega) 8 (.string s8)); obtain ⟨yc0, yg0, yc1, yg1, yc2, yg2, yc3, yg3, yc4, yg4, yc5, yg5, yc6, yg6, yc7, yg7, bU⟩ := bn.store8 (.int .i64 o1) (.int .i64 o2) (.slice A2 ol.length c3) (.int .i64 o4) (.int .u64 o5) (.int .u64 o6) (.slice B2 om.length c4) (.string o8); have hfU := below_store8 hfT (B := w9.heap.size) hf.size (.int .i64 o1) (.int .i64 o2) (.slice A2 ol.length c3) (.int .i64 o4) (.int .u64 o5) (.int .u64 o6) (.slice B2 om.length c4) (.string o8); have bT2 := ((((((((bT.other (B' := w9.heap.size) (by have := hr9.size; simp at this ⊢; omega) 0 (.int .i64 o1)).other (B' := w9.heap.size) (by have := hr9.size; simp at this ⊢; omega) 1 (.int .i64 o2)).other (B' := w9.heap.size) (by have := hr9.size; simp at this ⊢; omega) 2 (.slice A2 ol.length c3)).other (B' := w9.heap.size) (by have := hr9.size; simp at this ⊢; omega) 3 (.int .i64 o4)).other (B' := w9.heap.size) (by have := hr9.size; simp at this ⊢; omega) 4 (.int .u64 o5)).other (B' := w9.heap.size) (by have := hr9.size; simp at this ⊢; omega) 5 (.int .u64 o6)).other (B' := w9.heap.size) (by have := hr9.size; simp at this ⊢; omega) 6 (.slice B2 om.length c4)).other (B' := w9.heap.size) (by have := hr9.size; simp at this ⊢; omega) 7 (.string o8))) | (go_at_call 8; with_reducible refine hTb.mono ?_; rintro e w9 ⟨A1, B1, A2, B2, c1, c2, c3, c4, rfl, hc1, hc2, hr9⟩; have hf : Below wr.heap.size wr w9 := hqb.trans (hr9.mono hqb.size); have hzz := hf.size; have bb := (bxb.kept hr9).alloc (.cells #[.int .i64 s0, .int .i64 s1, .int .i64 s2, .slice A1 sl.length c1, .int .i64 s4, .int .u64 s5, .int .u64 s6, .slice B1 sm.length c2, .string s8] 31); obtain ⟨zc0, zg0, zc1, zg1, zc2, zg2, zc3, zg3, zc4, zg4, zc5, zg5, zc6, zg6, zc7, zg7, bU⟩ := bb.store8 (.int .i64 o1) (.int .i64 o2) (.slice A2 ol.length c3) (.int .i64 o4) (.int .u64 o5) (.int .u64 o6) (.slice B2 om.length c4) (.string o8); have hfU := below_store8 (hf.alloc hf.size (.cells #[.int .i64 s0, .int .i64 s1, .int .i64 s2, .slice A1 sl.length c1, .int .i64 s4, .int .u64 s5, .int .u64 s6, .slice B1 sm.length c2, .string s8] 31)) (B := wr.heap.size) (Nat.le_refl _) (.int .i64 o1) (.int .i64 o2) (.slice A2 ol.length c3) (.int .i64 o4) (.int .u64 o5) (.int .u64 o6) (.slice B2 om.length c4) (.string o8); have bT2 := (((((((((Bx.new w9 31 [.int .i64 s0, .int .i64 s1, .int .i64 s2, .slice A1 sl.length c1, .int .i64 s4, .int .u64 s5, .int .u64 s6, .slice B1 sm.length c2, .string s8]).other (B' := wr.heap.size) (by have := hr9.size; simp at this ⊢; omega) 0 (.int .i64 o1)).other (B' := wr.heap.size) (by have := hr9.size; simp at this ⊢; omega) 1 (.int .i64 o2)).other (B' := wr.heap.size) (by have := hr9.size; simp at this ⊢; omega) 2 (.slice A2 ol.length c3)).other (B' := wr.heap.size) (by have := hr9.size; simp at this ⊢; omega) 3 (.int .i64 o4)).other (B' := wr.heap.size) (by have := hr9.size; simp at this ⊢; omega) 4 (.int .u64 o5)).other (B' := wr.heap.size) (by have := hr9.size; simp at this ⊢; omega) 5 (.int .u64 o6)).other (B' := wr.heap.size) (by have := hr9.size; simp at this ⊢; omega) 6 (.slice B2 om.length c4)).other (B' := wr.heap.size) (by have := hr9.size; simp at this ⊢; omega) 7 (.string o8))) | (go_at_call 8; with_reducible refine hTab.mono ?_; rintro e w9 ⟨A1, B1, A2, B2, c1, c2, c3, c4, rfl, hc1, hc2, hr9⟩; have hf : Below wr.heap.size wr w9 := hqab.trans (hr9.mono hqab.size); have hzz := hf.size; have b1 := bxab1.kept hr9; have b2 := bxab2.kept hr9; obtain ⟨ua0, uf0, ua1, uf1, ua2, uf2, ua3, uf3, ua4, uf4, ua5, uf5, ua6, uf6, ua7, uf7, ua8, uf8, bS⟩ := b1.store9 (.int .i64 s0) (.int .i64 s1) (.int .i64 s2) (.slice A1 sl.length c1) (.int .i64 s4) (.int .u64 s5) (.int .u64 s6) (.slice B1 sm.length c2) (.string s8); have hfS := below_store9 hf (B := wr.heap.size) (Nat.le_refl _) (.int .i64 s0) (.int .i64 s1) (.int .i64 s2) (.slice A1 sl.length c1) (.int .i64 s4) (.int .u64 s5) (.int .u64 s6) (.slice B1 sm.length c2) (.string s8); have b3 := (((((((((b2.other (B' := wr.heap.size) (by omega) 0 (.int .i64 s0)).other (B' := wr.heap.size) (by omega) 1 (.int .i64 s1)).other (B' := wr.heap.size) (by omega) 2 (.int .i64 s2)).other (B' := wr.heap.size) (by omega) 3 (.slice A1 sl.length c1)).other (B' := wr.heap.size) (by omega) 4 (.int .i64 s4)).other (B' := wr.heap.size) (by omega) 5 (.int .u64 s5)).other (B' := wr.heap.size) (by omega) 6 (.int .u64 s6)).other (B' := wr.heap.size) (by omega) 7 (.slice B1 sm.length c2)).other (B' := wr.heap.size) (by omega) 8 (.string s8)); obtain ⟨uc0, ug0, uc1, ug1, uc2, ug2, uc3, ug3, uc4, ug4, uc5, ug5, uc6, ug6, uc7, ug7, bU⟩ := b3.store8 (.int .i64 o1) (.int .i64 o2) (.slice A2 ol.length c3) (.int .i64 o4) (.int .u64 o5) (.int .u64 o6) (.slice B2 om.length c4) (.string o8); have hfU := below_store8 hfS (B := wr.heap.size + 1) (by omega) (.int .i64 o1) (.int .i64 o2) (.slice A2 ol.length c3) (.int .i64 o4) (.int .u64 o5) (.int .u64 o6) (.slice B2 om.length c4) (.string o8); have bT2 := ((((((((bS.other (B' := (wr.heap.size + 1)) (by omega) 0 (.int .i64 o1)).other (B' := (wr.heap.size + 1)) (by omega) 1 (.int .i64 o2)).other (B' := (wr.heap.size + 1)) (by omega) 2 (.slice A2 ol.length c3)).other (B' := (wr.heap.size + 1)) (by omega) 3 (.int .i64 o4)).other (B' := (wr.heap.size + 1)) (by omega) 4 (.int .u64 o5)).other (B' := (wr.heap.size + 1)) (by omega) 5 (.int .u64 o6)).other (B' := (wr.heap.size + 1)) (by omega) 6 (.slice B2 om.length c4)).other (B' := (wr.heap.size + 1)) (by omega) 7 (.string o8))) | (go_at_call 8; with_reducible refine hTba.mono ?_; rintro e w9 ⟨A1, B1, A2, B2, c1, c2, c3, c4, rfl, hc1, hc2, hr9⟩; have hf : Below wr.heap.size wr w9 := hqba.trans (hr9.mono hqba.size); have hzz := hf.size; have b1 := bxba2.kept hr9; have b2 := bxba1.kept hr9; obtain ⟨ta0, tf0, ta1, tf1, ta2, tf2, ta3, tf3, ta4, tf4, ta5, tf5, ta6, tf6, ta7, tf7, ta8, tf8, bS⟩ := b1.store9 (.int .i64 s0) (.int .i64 s1) (.int .i64 s2) (.slice A1 sl.length c1) (.int .i64 s4) (.int .u64 s5) (.int .u64 s6) (.slice B1 sm.length c2) (.string s8); have hfS := below_store9 hf (B := wr.heap.size + 1) (by omega) (.int .i64 s0) (.int .i64 s1) (.int .i64 s2) (.slice A1 sl.length c1) (.int .i64 s4) (.int .u64 s5) (.int .u64 s6) (.slice B1 sm.length c2) (.string s8); have b3 := (((((((((b2.other (B' := (wr.heap.size + 1)) (by omega) 0 (.int .i64 s0)).other (B' := (wr.heap.size + 1)) (by omega) 1 (.int .i64 s1)).other (B' := (wr.heap.size + 1)) (by omega) 2 (.int .i64 s2)).other (B' := (wr.heap.size + 1)) (by omega) 3 (.slice A1 sl.length c1)).other (B' := (wr.heap.size + 1)) (by omega) 4 (.int .i64 s4)).other (B' := (wr.heap.size + 1)) (by omega) 5 (.int .u64 s5)).other (B' := (wr.heap.size + 1)) (by omega) 6 (.int .u64 s6)).other (B' := (wr.heap.size + 1)) (by omega) 7 (.slice B1 sm.length c2)).other (B' := (wr.heap.size + 1)) (by omega) 8 (.string s8)); obtain ⟨tc0, tg0, tc1, tg1, tc2, tg2, tc3, tg3, tc4, tg4, tc5, tg5, tc6, tg6, tc7, tg7, bU⟩ := b3.store8 (.int .i64 o1) (.int .i64 o2) (.slice A2 ol.length c3) (.int .i64 o4) (.int .u64 o5) (.int .u64 o6) (.slice B2 om.length c4) (.string o8); have hfU := below_store8 hfS (B := wr.heap.size) (Nat.le_refl _) (.int .i64 o1) (.int .i64 o2) (.slice A2 ol.length c3) (.int .i64 o4) (.int .u64 o5) (.int .u64 o6) (.slice B2 om.length c4) (.string o8); have bT2 := ((((((((bS.other (B' := wr.heap.size) (by omega) 0 (.int .i64 o1)).other (B' := wr.heap.size) (by omega) 1 (.int .i64 o2)).other (B' := wr.heap.size) (by omega) 2 (.slice A2 ol.length c3)).other (B' := wr.heap.size) (by omega) 3 (.int .i64 o4)).other (B' := wr.heap.size) (by omega) 4 (.int .u64 o5)).other (B' := wr.heap.size) (by omega) 5 (.int .u64 o6)).other (B' := wr.heap.size) (by omega) 6 (.slice B2 om.length c4)).other (B' := wr.heap.size) (by omega) 7 (.string o8))))
            all_goals
              go_wp2_with fail
              go_meet
              case rel => first | (obtain ⟨h1, h2⟩ := two_0a hc1 hc2 hf; with_reducible exact ⟨h1, rfl, rfl, h2⟩) | (obtain ⟨h1, h2⟩ := two_0b hc1 hc2 hf; with_reducible exact ⟨h1, rfl, rfl, h2⟩) | (obtain ⟨h1, h2⟩ := two_a1 hc1 hc2 hf hr9; with_reducible exact ⟨h1, rfl, rfl, h2⟩) | (obtain ⟨h1, h2⟩ := two_a2 hc1 hc2 hf hr9; with_reducible exact ⟨h1, rfl, rfl, h2⟩) | (obtain ⟨h1, h2⟩ := two_b hc1 hc2 hf hr9; with_reducible exact ⟨h1, rfl, rfl, h2⟩) | (obtain ⟨h1, h2⟩ := two_ab hc1 hc2 hf hr9; with_reducible exact ⟨h1, rfl, rfl, h2⟩) | (obtain ⟨h1, h2⟩ := two_ba hc1 hc2 hf hr9; with_reducible exact ⟨h1, rfl, rfl, h2⟩)
          case rest =>
            obtain ⟨⟨m1, m2, A1, B1, A2, B2, c1, c2, c3, c4, rfl, rfl, hm1', hm2', hp, hq, hc1, hc2⟩, rfl, rfl, hcc⟩ := hcut
            obtain ⟨-, -, -, -, -, -, -, -, -, z0, z1, z2⟩ := keep wc hcc
            have hlt2 := hbx.lt
            have hB3 := hb.trans (hcc.mono hb.size)
            have hbx2 := hbx.kept hcc
            unfold cellsAs at hp
            unfold cellsC at hq
            dsimp only at hp hq hc1 hc2
            rcases HR.out with ⟨hlast, he⟩ | ⟨hlast, hge, he⟩ | ⟨hlast, hne, he⟩
            · clear HR
              simp only [fWhole, as0, cm0, noH] at he
              cases he
              obtain rfl := Hg.out.1 (by omega)
              have hA := (Below.refl _ wc).alloc (Nat.le_refl _) (.cells #[.int .i64 mc, .int .i64 mi, .slice A2 ml.length c3, .int .i64 hc', .int .u64 hz', .int .u64 hf', .slice B2 hl.length c4, .string sb] 29)
              have hsz := hB3.size
              have hpA := hp.alloc (.cells #[.int .i64 mc, .int .i64 mi, .slice A2 ml.length c3, .int .i64 hc', .int .u64 hz', .int .u64 hf', .slice B2 hl.length c4, .string sb] 29)
              have hxA := hbx2.alloc (.cells #[.int .i64 mc, .int .i64 mi, .slice A2 ml.length c3, .int .i64 hc', .int .u64 hz', .int .u64 hf', .slice B2 hl.length c4, .string sb] 29)
              have hcA := hc1.below hA
              have hdA := hc2.below hA
              have hBA := hB3.alloc hB3.size (.cells #[.int .i64 mc, .int .i64 mi, .slice A2 ml.length c3, .int .i64 hc', .int .u64 hz', .int .u64 hf', .slice B2 hl.length c4, .string sb] 29)
              obtain ⟨y0, y1, y2, y3, y4, y5, y6, y7⟩ := hq.eight
              clear keep hbx hcc hbs hq0 hT0 hqa hTa hqb hTb hqab hTab hqba hTba bxa bxb bxab1 bxab2 bxba1 bxba2 z0 z1 z2 hp hq hbx2 hc1 hc2 hB3 hA hx6 hy6 hv6
              go_wp2_with (at_builtin; have _t := tok; refine wpList_got1 (n := w6.heap.size + 1) rfl _ _ rfl rfl wc.heap.size _ ⟨⟨mc, mi, ml⟩, ⟨hc', hz', hf', hl⟩, sb⟩ A2 B2 c3 c4 rfl ?sX ?sc ?sn ?sh)
              case sX => exact Bx.new wc _ _
              case sc => with_reducible exact hdA
              case sn => simp only [World.size_alloc]; omega
              case sh =>
                intro v7 w7 hG hGr
                clear tok y0 y1 y2 y3 y4 y5 y6 y7
                have hp7 := hGr.bx _ _ hpA
                have hbx7 := hGr.bx _ _ hxA
                have hc7 := hGr.cm _ _ _ _ _ hcA
                have hB7 := hGr.be w6 (Nat.le_succ _) hBA
                clear hpA hxA hcA hdA hBA hGr
                obtain ⟨y0, y1, y2, y3, y4, y5, y6, y7, y8⟩ := hp7.nine
                obtain ⟨a0, f0, a1, f1, a2, f2, a3, f3, a4, f4, a5, f5, a6, f6, a7, f7, a8, f8, bR⟩ := hbx7.store9 (.int .i64 0) (.int .i64 0) (.int .i64 0) (.slice A1 0 c1) (.int .i64 0) (.int .u64 0) (.int .u64 0) (.slice B1 0 c2) (.string ⟨#[]⟩)
                have hBz := below_store9 hB7 (B := w6.heap.size) (Nat.le_refl _) (.int .i64 0) (.int .i64 0) (.int .i64 0) (.slice A1 0 c1) (.int .i64 0) (.int .u64 0) (.int .u64 0) (.slice B1 0 c2) (.string ⟨#[]⟩)
                have hcz := Lib.hid (hc7.store9 hbx7 (noVal_asm _ _ _ _ _ _ _ _ _ (fun r h => by cases h) (fun k n h => by cases h)) (.int .i64 0) (.int .i64 0) (.int .i64 0) (.slice A1 0 c1) (.int .i64 0) (.int .u64 0) (.int .u64 0) (.slice B1 0 c2) (.string ⟨#[]⟩))
                have hGz : Hid (GotAt (w6.heap.size + 1) _ n1 N (k + 1) ⟨⟨mc, mi, ml⟩, ⟨hc', hz', hf', hl⟩, sb⟩ ⟨⟨nc, ni, nl⟩, ⟨gc, gz, gf, gl⟩, tb⟩ v7) := Lib.hid ⟨fun h => by omega, fun _ _ => hG.store9 hbx7 (noVal_asm _ _ _ _ _ _ _ _ _ (fun r h => by cases h) (fun k n h => by cases h)) (Nat.lt_succ_self _) (.int .i64 0) (.int .i64 0) (.int .i64 0) (.slice A1 0 c1) (.int .i64 0) (.int .u64 0) (.int .u64 0) (.slice B1 0 c2) (.string ⟨#[]⟩), fun h => by omega⟩
                clear hp7 hbx7 hc7 hB7 hG
                go_wp2
                go_roundw
                case rel => exact ⟨k + 1, v7, ⟨0, ⟨⟨0, 0, []⟩, ⟨0, 0, 0, []⟩, ⟨#[]⟩⟩⟩, A1, B1, c1, c2, rfl, hlt, by rw [show ((k + 1 : Nat) : Int) = (k : Int) + 1 by omega], by unfold cellsAs; (try dsimp only [List.length_nil]); with_reducible exact bR, hcz.out, Lib.hid (fun h => by first | (exact absurd h (by omega)) | (rw [hlast]; exact HS1.out.symm)), by with_reducible exact hGz, by with_reducible exact hBz⟩
                case measure => simp only [intOf]; omega
            · clear HR
              simp only [fWhole, as0, cm0, noH] at he
              cases he
              have hG1a := (Hg.out.2.1 hge hlt).below hcc
              have hA := (Below.refl _ wc).alloc (Nat.le_refl _) (.cells #[.int .i64 nc, .int .i64 ni, .slice A2 nl.length c3, .int .i64 gc, .int .u64 gz, .int .u64 gf, .slice B2 gl.length c4, .string tb] 29)
              have hG1 := hG1a.below hA
              have hsz := hB3.size
              have hpA := hp.alloc (.cells #[.int .i64 nc, .int .i64 ni, .slice A2 nl.length c3, .int .i64 gc, .int .u64 gz, .int .u64 gf, .slice B2 gl.length c4, .string tb] 29)
              have hxA := hbx2.alloc (.cells #[.int .i64 nc, .int .i64 ni, .slice A2 nl.length c3, .int .i64 gc, .int .u64 gz, .int .u64 gf, .slice B2 gl.length c4, .string tb] 29)
              have hcA := hc1.below hA
              have hdA := hc2.below hA
              have hBA := hB3.alloc hB3.size (.cells #[.int .i64 nc, .int .i64 ni, .slice A2 nl.length c3, .int .i64 gc, .int .u64 gz, .int .u64 gf, .slice B2 gl.length c4, .string tb] 29)
              obtain ⟨y0, y1, y2, y3, y4, y5, y6, y7⟩ := hq.eight
              clear keep hbx hcc hbs hq0 hT0 hqa hTa hqb hTb hqab hTab hqba hTba bxa bxb bxab1 bxab2 bxba1 bxba2 z0 z1 z2 hp hq hbx2 hc1 hc2 hB3 hA hx6 hy6 hv6 hG1a
              go_wp2_with (at_builtin; have _t := tok; refine wpList_got2 (n := w6.heap.size + 1) rfl _ _ rfl gv rfl wc.heap.size _ ⟨⟨mc, mi, ml⟩, ⟨hc', hz', hf', hl⟩, sb⟩ ⟨⟨nc, ni, nl⟩, ⟨gc, gz, gf, gl⟩, tb⟩ hG1 A2 B2 c3 c4 rfl ?sX ?sc ?sn ?sh)
              case sX => exact Bx.new wc _ _
              case sc => with_reducible exact hdA
              case sn => simp only [World.size_alloc]; omega
              case sh =>
                intro v7 w7 hG hGr
                clear tok y0 y1 y2 y3 y4 y5 y6 y7 hG1
                have hp7 := hGr.bx _ _ hpA
                have hbx7 := hGr.bx _ _ hxA
                have hc7 := hGr.cm _ _ _ _ _ hcA
                have hB7 := hGr.be w6 (Nat.le_succ _) hBA
                clear hpA hxA hcA hdA hBA hGr
                obtain ⟨y0, y1, y2, y3, y4, y5, y6, y7, y8⟩ := hp7.nine
                obtain ⟨a0, f0, a1, f1, a2, f2, a3, f3, a4, f4, a5, f5, a6, f6, a7, f7, a8, f8, bR⟩ := hbx7.store9 (.int .i64 0) (.int .i64 0) (.int .i64 0) (.slice A1 0 c1) (.int .i64 0) (.int .u64 0) (.int .u64 0) (.slice B1 0 c2) (.string ⟨#[]⟩)
                have hBz := below_store9 hB7 (B := w6.heap.size) (Nat.le_refl _) (.int .i64 0) (.int .i64 0) (.int .i64 0) (.slice A1 0 c1) (.int .i64 0) (.int .u64 0) (.int .u64 0) (.slice B1 0 c2) (.string ⟨#[]⟩)
                have hcz := Lib.hid (hc7.store9 hbx7 (noVal_asm _ _ _ _ _ _ _ _ _ (fun r h => by cases h) (fun k n h => by cases h)) (.int .i64 0) (.int .i64 0) (.int .i64 0) (.slice A1 0 c1) (.int .i64 0) (.int .u64 0) (.int .u64 0) (.slice B1 0 c2) (.string ⟨#[]⟩))
                have hGz : Hid (GotAt (w6.heap.size + 1) _ n1 N (k + 1) ⟨⟨mc, mi, ml⟩, ⟨hc', hz', hf', hl⟩, sb⟩ ⟨⟨nc, ni, nl⟩, ⟨gc, gz, gf, gl⟩, tb⟩ v7) := Lib.hid ⟨fun h => by omega, fun _ h => by omega, fun _ => hG.store9 hbx7 (noVal_asm _ _ _ _ _ _ _ _ _ (fun r h => by cases h) (fun k n h => by cases h)) (Nat.lt_succ_self _) (.int .i64 0) (.int .i64 0) (.int .i64 0) (.slice A1 0 c1) (.int .i64 0) (.int .u64 0) (.int .u64 0) (.slice B1 0 c2) (.string ⟨#[]⟩)⟩
                clear hp7 hbx7 hc7 hB7 hG
                go_wp2
                go_roundw
                case rel => exact ⟨k + 1, v7, ⟨0, ⟨⟨0, 0, []⟩, ⟨0, 0, 0, []⟩, ⟨#[]⟩⟩⟩, A1, B1, c1, c2, rfl, hlt, by rw [show ((k + 1 : Nat) : Int) = (k : Int) + 1 by omega], by unfold cellsAs; (try dsimp only [List.length_nil]); with_reducible exact bR, hcz.out, Lib.hid (fun h => by first | (exact absurd h (by omega)) | (rw [hlast]; exact HS1.out.symm)), by with_reducible exact hGz, by with_reducible exact hBz⟩
                case measure => simp only [intOf]; omega
            · clear HR
              simp only [cm0, noH] at he
              generalize hsA : sT (k + 1) = sN at he
              have HsA := Lib.hid hsA
              clear hsA
              cases he
              obtain ⟨y0, y1, y2, y3, y4, y5, y6, y7, y8⟩ := hp.nine
              obtain ⟨a0, f0, a1, f1, a2, f2, a3, f3, a4, f4, a5, f5, a6, f6, a7, f7, a8, f8, bR⟩ := hbx2.store9 (.int .i64 s0) (.int .i64 s1) (.int .i64 s2) (.slice A1 sl.length c1) (.int .i64 s4) (.int .u64 s5) (.int .u64 s6) (.slice B1 sm.length c2) (.string s8)
              have hBz := below_store9 hB3 (B := w6.heap.size) (Nat.le_refl _) (.int .i64 s0) (.int .i64 s1) (.int .i64 s2) (.slice A1 sl.length c1) (.int .i64 s4) (.int .u64 s5) (.int .u64 s6) (.slice B1 sm.length c2) (.string s8)
              have hcz := Lib.hid (hc1.store9 hbx2 (noVal_asm _ _ _ _ _ _ _ _ _ (fun r h => by cases h) (fun k n h => by cases h)) (.int .i64 s0) (.int .i64 s1) (.int .i64 s2) (.slice A1 sl.length c1) (.int .i64 s4) (.int .u64 s5) (.int .u64 s6) (.slice B1 sm.length c2) (.string s8))
              have hGz : Hid (GotAt (w6.heap.size + 1) _ n1 N (k + 1) ⟨⟨mc, mi, ml⟩, ⟨hc', hz', hf', hl⟩, sb⟩ ⟨⟨nc, ni, nl⟩, ⟨gc, gz, gf, gl⟩, tb⟩ gv) := Lib.hid ⟨fun h => Hg.out.1 (by omega), fun h1 h2 => ((Hg.out.2.1 (by omega) (by omega)).below hcc).store9 hbx2 (noVal_asm _ _ _ _ _ _ _ _ _ (fun r h => by cases h) (fun k n h => by cases h)) (Nat.lt_succ_self _) (.int .i64 s0) (.int .i64 s1) (.int .i64 s2) (.slice A1 sl.length c1) (.int .i64 s4) (.int .u64 s5) (.int .u64 s6) (.slice B1 sm.length c2) (.string s8), fun h => by omega⟩
              clear keep hbx hcc hbs hq0 hT0 hqa hTa hqb hTb hqab hTab hqba hTba bxa bxb bxab1 bxab2 bxba1 bxba2 z0 z1 z2 hp hq hbx2 hc1 hc2 hB3 hx6 hy6 hv6
              go_wp2
              go_roundw
              case rel => exact ⟨k + 1, gv, ⟨s0, ⟨⟨s1, s2, sl⟩, ⟨s4, s5, s6, sm⟩, s8⟩⟩, A1, B1, c1, c2, rfl, hlt, by rw [show ((k + 1 : Nat) : Int) = (k : Int) + 1 by omega], by unfold cellsAs; (try dsimp only [List.length_nil]); with_reducible exact bR, hcz.out, Lib.hid (fun _ => HsA.out.symm), by with_reducible exact hGz, by with_reducible exact hBz⟩
              case measure => simp only [intOf]; omega
        · obtain rfl : k = N := by omega
          obtain ⟨Y, cap, P1, P2, p1, p2, P3, P4, p3, p4, cs, rfl, -, -, hbY, htk, hq1, hq2⟩ := Hg.out.2.2 rfl
          have hBw := hB6.trans (hb.mono hB6.size)
          have hx9 := hx6.kept hb
          have hy9 := hy6.kept hb
          have hS1 := fun W (h : Below wr.heap.size wr W) => HSc.out P1 P2 p1 p2 W (hBw.trans (h.mono hBw.size)) (hq1.below h)
          have hS2 := fun W (h : Below wr.heap.size wr W) => HSd.out P3 P4 p3 p4 W (hBw.trans (h.mono hBw.size)) (hq2.below h)
          have keep : ∀ w', Below wr.heap.size wr w' → w'.cell? ⟨Y, 0, none⟩ = some (.int .i64 mc) ∧ w'.cell? ⟨Y, 1, none⟩ = some (.int .i64 mi) ∧ w'.cell? ⟨Y, 2, none⟩ = some (.slice P1 ml.length p1) ∧ w'.cell? ⟨Y, 3, none⟩ = some (.int .i64 hc') ∧ w'.cell? ⟨Y, 4, none⟩ = some (.int .u64 hz') ∧ w'.cell? ⟨Y, 5, none⟩ = some (.int .u64 hf') ∧ w'.cell? ⟨Y, 6, none⟩ = some (.slice P2 hl.length p2) ∧ w'.cell? ⟨Y, 7, none⟩ = some (.string sb) ∧ w'.cell? ⟨Y, 8, none⟩ = some (.int .i64 nc) ∧ w'.cell? ⟨Y, 9, none⟩ = some (.int .i64 ni) ∧ w'.cell? ⟨Y, 10, none⟩ = some (.slice P3 nl.length p3) ∧ w'.cell? ⟨Y, 11, none⟩ = some (.int .i64 gc) ∧ w'.cell? ⟨Y, 12, none⟩ = some (.int .u64 gz) ∧ w'.cell? ⟨Y, 13, none⟩ = some (.int .u64 gf) ∧ w'.cell? ⟨Y, 14, none⟩ = some (.slice P4 gl.length p4) ∧ w'.cell? ⟨Y, 15, none⟩ = some (.string tb) ∧ w'.cell? ⟨w.heap.size, 0, none⟩ = some (.int .i64 mc) ∧ w'.cell? ⟨w.heap.size, 1, none⟩ = some (.int .i64 mi) ∧ w'.cell? ⟨w.heap.size, 2, none⟩ = some (.slice A ml.length ca) ∧ w'.cell? ⟨w.heap.size, 3, none⟩ = some (.int .i64 hc') ∧ w'.cell? ⟨w.heap.size, 4, none⟩ = some (.int .u64 hz') ∧ w'.cell? ⟨w.heap.size, 5, none⟩ = some (.int .u64 hf') ∧ w'.cell? ⟨w.heap.size, 6, none⟩ = some (.slice B hl.length cb) ∧ w'.cell? ⟨w.heap.size, 7, none⟩ = some (.string sb) ∧ w'.cell? ⟨w.heap.size + 1, 0, none⟩ = some (.int .i64 nc) ∧ w'.cell? ⟨w.heap.size + 1, 1, none⟩ = some (.int .i64 ni) ∧ w'.cell? ⟨w.heap.size + 1, 2, none⟩ = some (.slice D nl.length da) ∧ w'.cell? ⟨w.heap.size + 1, 3, none⟩ = some (.int .i64 gc) ∧ w'.cell? ⟨w.heap.size + 1, 4, none⟩ = some (.int .u64 gz) ∧ w'.cell? ⟨w.heap.size + 1, 5, none⟩ = some (.int .u64 gf) ∧ w'.cell? ⟨w.heap.size + 1, 6, none⟩ = some (.slice F gl.length db) ∧ w'.cell? ⟨w.heap.size + 1, 7, none⟩ = some (.string tb) := fun w' h => by
            have g := fun i v hv => got2_cells (hbY.kept h) htk i v hv
            obtain ⟨e0, e1, e2, e3, e4, e5, e6, e7⟩ := (hx9.kept h).eight
            obtain ⟨f0, f1, f2, f3, f4, f5, f6, f7⟩ := (hy9.kept h).eight
            exact ⟨g 0 _ rfl, g 1 _ rfl, g 2 _ rfl, g 3 _ rfl, g 4 _ rfl, g 5 _ rfl, g 6 _ rfl, g 7 _ rfl, g 8 _ rfl, g 9 _ rfl, g 10 _ rfl, g 11 _ rfl, g 12 _ rfl, g 13 _ rfl, g 14 _ rfl, g 15 _ rfl, e0, e1, e2, e3, e4, e5, e6, e7, f0, f1, f2, f3, f4, f5, f6, f7⟩
          have hq0 : Below wr.heap.size wr wr.drew := (Below.refl _ wr).drew
          have hB9 : ∀ W, Below wr.heap.size wr W → Below w.heap.size w W := fun W h => hBw.trans (h.mono hBw.size)
          clear hv6 hbx hcm Ha Hg hx6 hy6 hx9 hy9 hbY htk hq1 hq2 hb hB6 HFd HSc HSd HStep HSt HS0 HS1
          go_wp2_with fail
          go_region_held3 (fun w' => w'.cell? ⟨Y, 0, none⟩ = some (.int .i64 mc) ∧ w'.cell? ⟨Y, 1, none⟩ = some (.int .i64 mi) ∧ w'.cell? ⟨Y, 2, none⟩ = some (.slice P1 ml.length p1) ∧ w'.cell? ⟨Y, 3, none⟩ = some (.int .i64 hc') ∧ w'.cell? ⟨Y, 4, none⟩ = some (.int .u64 hz') ∧ w'.cell? ⟨Y, 5, none⟩ = some (.int .u64 hf') ∧ w'.cell? ⟨Y, 6, none⟩ = some (.slice P2 hl.length p2) ∧ w'.cell? ⟨Y, 7, none⟩ = some (.string sb) ∧ w'.cell? ⟨Y, 8, none⟩ = some (.int .i64 nc) ∧ w'.cell? ⟨Y, 9, none⟩ = some (.int .i64 ni) ∧ w'.cell? ⟨Y, 10, none⟩ = some (.slice P3 nl.length p3) ∧ w'.cell? ⟨Y, 11, none⟩ = some (.int .i64 gc) ∧ w'.cell? ⟨Y, 12, none⟩ = some (.int .u64 gz) ∧ w'.cell? ⟨Y, 13, none⟩ = some (.int .u64 gf) ∧ w'.cell? ⟨Y, 14, none⟩ = some (.slice P4 gl.length p4) ∧ w'.cell? ⟨Y, 15, none⟩ = some (.string tb) ∧ w'.cell? ⟨w.heap.size, 0, none⟩ = some (.int .i64 mc) ∧ w'.cell? ⟨w.heap.size, 1, none⟩ = some (.int .i64 mi) ∧ w'.cell? ⟨w.heap.size, 2, none⟩ = some (.slice A ml.length ca) ∧ w'.cell? ⟨w.heap.size, 3, none⟩ = some (.int .i64 hc') ∧ w'.cell? ⟨w.heap.size, 4, none⟩ = some (.int .u64 hz') ∧ w'.cell? ⟨w.heap.size, 5, none⟩ = some (.int .u64 hf') ∧ w'.cell? ⟨w.heap.size, 6, none⟩ = some (.slice B hl.length cb) ∧ w'.cell? ⟨w.heap.size, 7, none⟩ = some (.string sb) ∧ w'.cell? ⟨w.heap.size + 1, 0, none⟩ = some (.int .i64 nc) ∧ w'.cell? ⟨w.heap.size + 1, 1, none⟩ = some (.int .i64 ni) ∧ w'.cell? ⟨w.heap.size + 1, 2, none⟩ = some (.slice D nl.length da) ∧ w'.cell? ⟨w.heap.size + 1, 3, none⟩ = some (.int .i64 gc) ∧ w'.cell? ⟨w.heap.size + 1, 4, none⟩ = some (.int .u64 gz) ∧ w'.cell? ⟨w.heap.size + 1, 5, none⟩ = some (.int .u64 gf) ∧ w'.cell? ⟨w.heap.size + 1, 6, none⟩ = some (.slice F gl.length db) ∧ w'.cell? ⟨w.heap.size + 1, 7, none⟩ = some (.string tb)) (first | (with_reducible exact keep _ hk2) | (with_reducible exact keep _ hk1) | (with_reducible exact keep _ hq0)) (first | (go_at_call 13; with_reducible refine (hS1 wr.drew hq0).mono ?_; rintro e v1 ⟨rfl, hr1⟩; have hk1 : Below wr.heap.size wr v1 := hq0.trans (hr1.mono hq0.size)) | (go_at_call 13; with_reducible refine (hS2 v1 hk1).mono ?_; rintro e v2 ⟨rfl, hr2⟩; have hk2 : Below wr.heap.size wr v2 := hk1.trans (hr2.mono hk1.size)))
          all_goals
            have hBz := hB9 _ hk2
            go_wp2
            go_ret
            exact ⟨by first | rfl | simp, hBz⟩
end Go.Proofs.YtllgkohgcicbhaaGreatDoor
