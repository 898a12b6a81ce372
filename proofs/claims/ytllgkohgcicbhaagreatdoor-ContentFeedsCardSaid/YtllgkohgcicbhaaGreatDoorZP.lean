/-
  Several texts joined in one file: each says at its own head, below, what it proves, and its conditions.
-/
import Derived.Test.YtllgkohgcicbhaaGreatDoorZH
import Derived.Test.YtllgkohgcicbhaaGreatDoorWFeedW
import Derived.Test.YtllgkohgcicbhaaGreatDoorZB
import Derived.Test.YtllgkohgcicbhaaGreatDoorWCut
import Derived.Lib.Hide
import Derived.WalkSpells
import Derived.WalkLawsBesides
import Derived.WalkSmall
import Derived.WalkMore
import Derived.Deep.DeepCutAuto
import Derived.Test.YtllgkohgcicbhaaGreatDoorJC1
import Derived.Test.YtllgkohgcicbhaaGreatDoorWCFrames
import Derived.Test.YtllgkohgcicbhaaGreatDoorRCRight
import Derived.Test.YtllgkohgcicbhaaGreatDoorJRMBytes
import Derived.Test.YtllgkohgcicbhaaGreatDoorRFeed0
import Derived.Test.YtllgkohgcicbhaaGreatDoorRFeed1
import Derived.Test.YtllgkohgcicbhaaGreatDoorRFeed2
import Derived.Deep.RegionHeld3
import Derived.Test.YtllgkohgcicbhaaGreatDoorWFeedC
import Derived.Test.YtllgkohgcicbhaaGreatDoorWIdle
import Derived.Test.YtllgkohgcicbhaaGreatDoorWCShown
import Derived.Test.YtllgkohgcicbhaaGreatDoorJC2
/-
  The law's own same tells whether two commands that aren't whole are the same; nothing that was there is changed. No condition but how long rows of values may be.
-/
namespace Go.Proofs.YtllgkohgcicbhaaGreatDoor
open Go.RowKit

set_option maxRecDepth 100000 in
set_option maxHeartbeats 2000000 in
theorem lsame_any (a b : As) (A B A' B' : Option Addr) (ca cb ca' cb' : Nat) (w : World) (ha : CmAt w a.c A B ca cb) (hb : CmAt w b.c A' B' ca' cb') (hl : shortC a.c) :
 Calls Tryz.prog 12 #[encAs a A B ca cb, encAs b A' B' ca' cb'] w fun e w' => e = .returned (.bool (sameA a b)) ∧ Below w.heap.size w w' := by
 obtain ⟨W0, hW0⟩ : ∃ W0, W0 = (w.alloc (.cells (cellsAs a A B ca cb).toArray 31)).alloc (.cells (cellsAs b A' B' ca' cb').toArray 31) := ⟨_, rfl⟩
 have hb0 : Below w.heap.size w W0 := by rw [hW0]; exact ((Below.refl _ w).alloc (Nat.le_refl _) _).alloc (by simp) _
 have hx : Bx W0 w.heap.size 31 (cellsAs a A B ca cb) := by rw [hW0]; exact (Bx.new w 31 (cellsAs a A B ca cb)).alloc _
 have hy : Bx W0 (w.heap.size + 1) 31 (cellsAs b A' B' ca' cb') := by
  have h := Bx.new (w.alloc (.cells (cellsAs a A B ca cb).toArray 31)) 31 (cellsAs b A' B' ca' cb')
  rw [World.size_alloc] at h
  rw [hW0]
  exact h
 have hC := rcsame_any a.c b.c A B A' B' ca cb ca' cb' W0 (ha.below hb0) (hb.below hb0) hl
 have HC : Hid (sameA a b = (sameC a.c b.c && (a.st == b.st))) := Lib.hid rfl
 generalize sameA a b = q at HC ⊢
 generalize sameC a.c b.c = q1 at hC HC
 unfold encC at hC
 unfold cellsAs at hx hy hW0
 unfold encAs
 clear ha hb hl
 obtain ⟨st, ⟨⟨mc, mi, ml⟩, ⟨hc, hz, hf, hl⟩, sb⟩⟩ := a
 obtain ⟨st', ⟨⟨mc', mi', ml'⟩, ⟨hc', hz', hf', hl'⟩, sb'⟩⟩ := b
 dsimp only at *
 generalize hq3 : (st == st') = q3 at HC
 go_enter Tryz.func12, Tryz.ntmps12
 go_wp2_with fail
 rw [← hW0]
 clear hW0
 obtain ⟨x0, x1, x2, x3, x4, x5, x6, x7, x8⟩ := hx.nine
 obtain ⟨y0, y1, y2, y3, y4, y5, y6, y7, y8⟩ := hy.nine
 go_wp2_with fail
 with_reducible refine hC.mono ?_
 rintro e w1 ⟨rfl, hb1⟩
 have hB1 := hb0.trans (hb1.mono hb0.size)
 have z0 := (hx.kept hb1).nine.1
 have z1 := (hy.kept hb1).nine.1
 clear hC hx hy hb1 hb0 x0 x1 x2 x3 x4 x5 x6 x7 x8 y0 y1 y2 y3 y4 y5 y6 y7 y8
 cases q1
 · have HF : Hid (q = false) := Lib.hid (by rw [HC.out]; rfl)
   clear HC hq3
   go_wp2
   go_ret
   exact ⟨by rw [HF.out]; rfl, hB1⟩
 · have HF : Hid (q = q3) := Lib.hid (by rw [HC.out]; rfl)
   clear HC
   cases q3
   · go_wp2
     go_ret
     exact ⟨by rw [HF.out]; rfl, hB1⟩
   · go_wp2
     go_ret
     exact ⟨by rw [HF.out]; rfl, hB1⟩
end Go.Proofs.YtllgkohgcicbhaaGreatDoor

/-
  Rows of frames in memory; the document's own Same answers that two rows of the same frames are the same; nothing that was there is changed. No condition.
-/
namespace Go.Proofs.YtllgkohgcicbhaaGreatDoor
open Go.RowKit

set_option maxRecDepth 100000 in
set_option maxHeartbeats 2000000 in
theorem same_any (A B : Option Addr) (c c' : Nat) (l : List Fr) (w : World) (hA : ValsAt w A (rowFr l)) (hB : ValsAt w B (rowFr l)) (hl : l.length ≤ 9223372036854775807) :
 Calls Tryz.prog 14 #[.slice A l.length c, .slice B l.length c'] w fun e w' => e = .returned (.bool true) ∧ Below w.heap.size w w' := by
 go_enter Tryz.func14, Tryz.ntmps14
 go_wp2
 go_loopw [5] (fun v wr => ∃ k : Nat, k ≤ l.length ∧ v = .int .i64 k ∧ Below w.heap.size w wr) (fun v _ => l.length - (intOf v).toNat)
 case atStart => exact ⟨0, Nat.zero_le _, rfl, Below.refl _ _⟩
 case round =>
  obtain ⟨k, hk, rfl, hb⟩ := hrel
  by_cases hlt : k < l.length
  · obtain ⟨b1, o1, rfl, -, g1⟩ := vals_frame hA k hlt
    obtain ⟨b2, o2, rfl, -, g2⟩ := vals_frame hB k hlt
    obtain ⟨c1, c2, c3⟩ := g1 wr hb
    obtain ⟨d1, d2, d3⟩ := g2 wr hb
    clear g1 g2 hA hB
    generalize l[k] = f at *
    obtain ⟨t, ch, da⟩ := f
    dsimp only at *
    go_wp2
    go_quiet (fail)
    go_wp2
    go_roundw
    case rel => exact ⟨k + 1, by omega, by go_num, below_drewN hb _⟩
    case measure => simp [intOf]; omega
  · obtain rfl : k = l.length := by omega
    go_wp2
    go_ret
    exact ⟨rfl, hb⟩
end Go.Proofs.YtllgkohgcicbhaaGreatDoor

/-
  The document's own Cut of interchangeref02 answers a row of its own with a text's pieces, the same that text.Cut answers; nothing that was there is changed. Condition: a text of at most 1048576 bytes.
-/
namespace Go.Proofs.YtllgkohgcicbhaaGreatDoor
open Go.RowKit

theorem cutL_more {n : Nat} {s : ByteArray} (hn : 0 < n) (h : n < s.size) : cutL n s = s.extract 0 n :: cutL n (s.extract n s.size) := by
 have := cutL_cons (s := s) (by omega) hn
 rwa [Nat.min_eq_left (by omega)] at this
theorem cutL_last {n : Nat} {s : ByteArray} (hn : 0 < n) (h0 : 0 < s.size) (h : s.size ≤ n) : cutL n s = [s] := by
 have e0 : s.extract 0 s.size = s := by apply ba_ext; rw [Lib.extract_data, List.drop_zero, List.take_of_length_le (by rw [ba_len]; omega)]
 have := cutL_cons h0 hn
 rwa [Nat.min_eq_right h, e0, cutL_nil n (s := s.extract s.size s.size) (by rw [ByteArray.size_extract]; omega)] at this
theorem row_below {w wr w1 : World} {o : Value} {e : TypeId} {n : Nat} {xs : List Value} {tmp : Obj} (hown : wr.ownsRow w.heap.size e 1 o n xs) (hb : Below w.heap.size w wr) (hgrow : (wr.alloc tmp).grownBy w1 o.ownBlock) : Below w.heap.size w w1 :=
 (hb.alloc hb.size _).grown hgrow (by have := hb.size; simp; omega) (fun k hk => by
  rcases hown.2 with ⟨rfl, _⟩ | ⟨g, cap, cur, rfl, hg, _⟩
  · simp [Value.ownBlock] at hk
  · simp [Value.ownBlock] at hk; omega)

set_option maxRecDepth 100000 in
set_option maxHeartbeats 1000000 in
theorem rcut_in (s : ByteArray) (m : Nat) (hm : 0 < m) (hs : s.size ≤ 1048576) (w : World) :
 Calls Tryz.prog 29 #[.string s, .int .i64 m] w fun e W' => ∃ v, e = .returned v ∧ W'.ownsRow w.heap.size 9 1 v (cutL m s).length ((cutL m s).map Value.string) ∧ Below w.heap.size w W' := by
 obtain ⟨i0, hi, hz0, hz1, hz2⟩ := info_parts infoStr
 have Hle := Lib.hid (cutL_le hm s)
 go_enter Tryz.func29, Tryz.ntmps29
 go_wp2
 go_loopw [0, 5] (fun p o wr => ∃ (pre : List ByteArray) (r : ByteArray), p = .string r ∧ r.size ≤ s.size ∧ Hid (cutL m s = pre ++ cutL m r) ∧ wr.ownsRow w.heap.size 9 1 o pre.length (pre.map Value.string) ∧ Below w.heap.size w wr) (fun p _ _ => strSize p)
 case atStart => exact ⟨[], s, rfl, Nat.le_refl _, Lib.hid rfl, World.ownsRow_nil _ _ _ _, Below.refl _ _⟩
 case round =>
  obtain ⟨pre, r, rfl, hle, HX, hown, hb⟩ := hrel
  by_cases hlt : m < r.size
  · have HC := Lib.hid (cutL_more (s := r) hm hlt)
    have hpl : pre.length + 1 ≤ 1048576 := by have h := Hle.out; rw [HX.out, HC.out] at h; simp at h; omega
    go_wp2_with (first
     | (at_builtin; refine wpList_append_own _ rfl _ _ 76 rfl w.heap.size 9 i0 (.string ⟨#[]⟩) 1 16 Tryz.underlying76 hi hz0 hz1 hz2 rfl (by decide) _ _ _ rfl (hown.alloc _) ⟨wr.heap.size, 0, none⟩ 1 1 [.string (r.extract 0 m)] rfl rfl (cell_one_new _ _ _) (by simp [Value.oneCell']) (by unfold maxLen; omega) (by omega) (by have := hb.size; simp; omega) ?_))
    intro o' w1 hown' hgrow _
    have hb1 := row_below hown hb hgrow
    have Hown : Hid (w1.ownsRow w.heap.size 9 1 o' (pre ++ [r.extract 0 m]).length ((pre ++ [r.extract 0 m]).map Value.string)) := Lib.hid (by simpa using hown')
    clear hown' hgrow hown hb
    go_wp2
    go_roundw
    case rel => exact ⟨pre ++ [r.extract 0 m], r.extract m r.size, rfl, by rw [ByteArray.size_extract]; omega, Lib.hid (by rw [HX.out, HC.out]; simp), Hown.out, hb1⟩
    case measure => simp only [strSize, ByteArray.size_extract]; omega
  · by_cases h0 : 0 < r.size
    · have HC := Lib.hid (cutL_last (s := r) hm h0 (by omega))
      have hpl : pre.length + 1 ≤ 1048576 := by have h := Hle.out; rw [HX.out, HC.out] at h; simp at h; omega
      go_wp2_with (first
       | (at_builtin; refine wpList_append_own _ rfl _ _ 76 rfl w.heap.size 9 i0 (.string ⟨#[]⟩) 1 16 Tryz.underlying76 hi hz0 hz1 hz2 rfl (by decide) _ _ _ rfl (hown.alloc _) ⟨wr.heap.size, 0, none⟩ 1 1 [.string r] rfl rfl (cell_one_new _ _ _) (by simp [Value.oneCell']) (by unfold maxLen; omega) (by omega) (by have := hb.size; simp; omega) ?_))
      intro o' w1 hown' hgrow _
      have hb1 := row_below hown hb hgrow
      have Hown : Hid (w1.ownsRow w.heap.size 9 1 o' (cutL m s).length ((cutL m s).map Value.string)) := Lib.hid (by rw [HX.out, HC.out]; simpa using hown')
      clear hown' hgrow hown hb HX
      go_wp2
      go_ret
      exact ⟨o', rfl, Hown.out, hb1⟩
    · have Hown : Hid (wr.ownsRow w.heap.size 9 1 u5 (cutL m s).length ((cutL m s).map Value.string)) := Lib.hid (by rw [HX.out, cutL_nil _ (by omega), List.append_nil]; exact hown)
      clear hown HX
      go_wp2
      go_ret
      exact ⟨u5, rfl, Hown.out, hb⟩

end Go.Proofs.YtllgkohgcicbhaaGreatDoor

/-
  The document's own Frames answers a command's frames in a row of its own, or why there are none; nothing that was there is changed. Conditions: the values lie in old memory, each number a uint64, each text shorter than 2^47 bytes.
-/
namespace Go.Proofs.YtllgkohgcicbhaaGreatDoor
open Go.RowKit

theorem own_oneF (w : World) (t : TypeId) (x y z : Value) : (w.alloc (.cells #[x, y, z] t)).ownsRow w.heap.size t 3 (.slice (some ⟨w.heap.size, 0, none⟩) 1 1) 1 [x, y, z] :=
 ⟨by simp, .inr ⟨w.heap.size, 1, #[x, y, z], rfl, Nat.le_refl _, World.alloc_heap_new w _, Nat.le_refl _, by unfold maxLen; omega, by simp, by simp⟩⟩
/-- a command's frames ahead of its body's pieces -/
def preF (c : Cm) (ch : Int) : List Fr := ⟨1, ch, mB c.m⟩ :: (if fol c.m = true then [⟨2, ch, hB c.h⟩] else [])
theorem pre_all {c : Cm} {ch : Int} {r : Nat} (h1 : cE c = 0) : cFrsL c ch r = preF c ch ++ (cutL r c.b).map (frOf ch 2) := by
 obtain ⟨-, ⟨g1, -⟩ | ⟨g1, -, g3⟩⟩ := cE_parts h1
 · rw [cFrsL, preF, if_pos g1, if_pos g1]; rfl
 · rw [cFrsL, preF, if_neg (by simp [g1]), if_neg (by simp [g1]), g3, cutL_nil r rfl]; rfl
theorem pre_big {c : Cm} {ch : Int} {r : Nat} (h1 : cE c = 0) (h2 : 1 ≤ ch ∧ ch ≤ 65535) {k : Nat} (hk : k < (preF c ch).length) (hb : r < ((preF c ch)[k]).d.size) : cFrsE c ch r = 4 := by
 rw [cFrsE, if_pos h1, if_neg (by omega)]
 cases hf : fol c.m
 · have e : preF c ch = [⟨1, ch, mB c.m⟩] := by rw [preF, if_neg (by simp [hf])]
   have hk0 : k = 0 := by rw [e] at hk; simp at hk; exact hk
   subst hk0
   simp only [e, List.getElem_cons_zero] at hb
   rw [if_pos (.inl hb)]
 · have e : preF c ch = [⟨1, ch, mB c.m⟩, ⟨2, ch, hB c.h⟩] := by rw [preF, if_pos hf]
   match k, hk, hb with
   | 0, _, hb => simp only [e, List.getElem_cons_zero] at hb; rw [if_pos (.inl hb)]
   | 1, _, hb => simp only [e, List.getElem_cons_zero, List.getElem_cons_succ] at hb; rw [if_pos (.inr ⟨rfl, hb⟩)]
   | k + 2, hk, _ =>
    have hk2 : k + 2 < 2 := by rw [e] at hk; exact hk
    omega
theorem pre_ok {c : Cm} {ch : Int} {r : Nat} (h1 : cE c = 0) (h2 : 1 ≤ ch ∧ ch ≤ 65535) (h : ∀ k (hk : k < (preF c ch).length), ((preF c ch)[k]).d.size ≤ r) : cFrsE c ch r = 0 := by
 rw [cFrsE, if_pos h1, if_neg (by omega)]
 have a0 := h 0 (by rw [preF]; simp)
 simp only [preF, List.getElem_cons_zero] at a0
 cases hf : fol c.m
 · rw [if_neg]
   rintro (h | ⟨h, -⟩)
   · omega
   · cases h
 · have e : preF c ch = [⟨1, ch, mB c.m⟩, ⟨2, ch, hB c.h⟩] := by rw [preF, if_pos hf]
   have a1 := h 1 (by rw [e]; simp)
   simp only [e, List.getElem_cons_zero, List.getElem_cons_succ] at a1
   rw [if_neg]
   rintro (h | ⟨-, h⟩) <;> omega
theorem pre_len (c : Cm) (ch : Int) : 1 ≤ (preF c ch).length ∧ (preF c ch).length ≤ 2 := by
 unfold preF
 split <;> simp

set_option maxRecDepth 100000 in
set_option maxHeartbeats 6000000 in
theorem rframes_any (c : Cm) (A B : Option Addr) (ca cb : Nat) (ch most : Int) (w : World) (hwf : wfC c) (hc : CmAt w c A B ca cb) (hl : shortC c) (hs : c.b.size < 4611686018427387904) :
 Calls Tryz.prog 11 #[encC c A B ca cb, .int .i64 ch, .int .i64 most] w (FrPost c ch (roomN most) w) := by
 obtain ⟨hro, hr1, hr2⟩ := room_is most
 have hrm : roomOf most + 8 = min (max most 4096) 131072 := by unfold roomOf; omega
 obtain ⟨i0, hi, hz0, hz1, hz2⟩ := info_parts3 infoFrame
 obtain ⟨W0, hW0⟩ : ∃ W0, W0 = w.alloc (.cells (cellsC c A B ca cb).toArray 29) := ⟨_, rfl⟩
 have hb0 : Below w.heap.size w W0 := by rw [hW0]; exact (Below.refl _ w).alloc (Nat.le_refl _) _
 have hx : Bx W0 w.heap.size 29 (cellsC c A B ca cb) := by rw [hW0]; exact Bx.new w 29 (cellsC c A B ca cb)
 have hR := rright8_any c A B ca cb W0 hwf (hc.below hb0) hl hs
 have hM := fun W (h : Below w.heap.size w W) => rbytes6_any c.m A ca W hwf.1 (hc.va.below h)
 have hH := fun W (h : Below w.heap.size w W) => rbytes7_any c.h B cb W hwf.2 (hc.vb.below h)
 have hF := fun W => rcont_any c.m A ca W
 generalize hr : roomN most = r at *
 have HCmd : Hid (¬ cE c = 0 → cFrsE c ch r = cE c ∧ cFrs c ch r = []) := Lib.hid (fun h => by
  have e := frE_cmd (ch := ch) (r := r) h
  exact ⟨e, frs_none (by rw [e]; exact h)⟩)
 have HChn : Hid (cE c = 0 → (ch < 1 ∨ 65535 < ch) → cFrsE c ch r = 1 ∧ cFrs c ch r = []) := Lib.hid (fun h1 h2 => by
  have e := frE_chan (r := r) h1 h2
  exact ⟨e, frs_none (by rw [e]; decide)⟩)
 have HBig : Hid (cE c = 0 → 1 ≤ ch ∧ ch ≤ 65535 → ∀ k (hk : k < (preF c ch).length), r < ((preF c ch)[k]).d.size → cFrsE c ch r = 4 ∧ cFrs c ch r = []) := Lib.hid (fun h1 h2 k hk hb => by
  have e := pre_big h1 h2 hk hb
  exact ⟨e, frs_none (by rw [e]; decide)⟩)
 have HOk : Hid (cE c = 0 → 1 ≤ ch ∧ ch ≤ 65535 → (∀ k (hk : k < (preF c ch).length), ((preF c ch)[k]).d.size ≤ r) → cFrsE c ch r = 0 ∧ cFrs c ch r = preF c ch ++ (cutL r c.b).map (frOf ch 2)) := Lib.hid (fun h1 h2 h3 => by
  have e := pre_ok h1 h2 h3
  exact ⟨e, by rw [frs_some e, pre_all h1]⟩)
 have HSm : Hid (cE c = 0 → c.b.size ≤ 65536) := Lib.hid cE_small
 have HLen : Hid (c.b.size ≤ 65536 → (cutL r c.b).length ≤ 65536) := Lib.hid (fun h => Nat.le_trans (cutL_le (by omega) c.b) h)
 have HPre : Hid (preF c ch = ⟨1, ch, mB c.m⟩ :: (if fol c.m = true then [⟨2, ch, hB c.h⟩] else [])) := Lib.hid rfl
 have HPl := Lib.hid (pre_len c ch)
 have HCt : Hid (c.b.size ≤ 1048576 → ∀ W, Calls Tryz.prog 29 #[.string c.b, .int .i64 (r : Int)] W fun e W' => ∃ v, e = .returned v ∧ W'.ownsRow W.heap.size 9 1 v (cutL r c.b).length ((cutL r c.b).map Value.string) ∧ Below W.heap.size W W') := Lib.hid (fun h W => rcut_in c.b r (by omega) h W)
 unfold FrPost
 generalize cFrsE c ch r = E at *
 generalize cFrs c ch r = LL at *
 generalize preF c ch = pre at *
 generalize cutL r c.b = d at *
 generalize cE c = ce at *
 generalize mB c.m = mb at *
 generalize hB c.h = hb' at *
 generalize mE c.m = me at *
 generalize hE c.h = he' at *
 generalize fol c.m = fl at *
 clear hwf hc hl
 unfold encC at hR ⊢
 unfold encM at hM hF
 unfold encH at hH
 unfold cellsC at hx hW0
 obtain ⟨⟨mc, mi, ml⟩, ⟨hc', hz', hf, hl⟩, sb⟩ := c
 dsimp only at *
 go_enter Tryz.func11, Tryz.ntmps11
 go_upto_region 1 with fail
 rw [← hW0]
 clear hW0
 obtain ⟨x0, x1, x2, x3, x4, x5, x6, x7⟩ := hx.eight
 go_wp2_with fail
 with_reducible refine hR.mono ?_
 rintro e w1 ⟨rfl, hb1⟩
 have hB1 := hb0.trans (hb1.mono hb0.size)
 have hx1 := hx.kept hb1
 clear hR hx hb1 hb0 x0 x1 x2 x3 x4 x5 x6 x7
 by_cases hce : ce = 0
 · have HChn2 := Lib.hid (HChn.out hce)
   have HBig2 := Lib.hid (HBig.out hce)
   have HOk2 := Lib.hid (HOk.out hce)
   have hsb := HSm.out hce
   have hdl := HLen.out hsb
   have hCt := HCt.out (by omega)
   subst hce
   clear HCmd HChn HBig HOk HSm HLen HCt
   by_cases h1 : ch < 1
   · have HF := Lib.hid (HChn2.out (.inl h1))
     clear HChn2 HBig2 HOk2 hM hH hF hCt hx1
     go_wp2
     go_ret2
     exact ⟨_, by rw [HF.out.1]; rfl, by rw [HF.out.2]; exact World.ownsRow_nil _ _ _ _, hB1⟩
   by_cases h2 : 65535 < ch
   · have HF := Lib.hid (HChn2.out (.inr h2))
     clear HChn2 HBig2 HOk2 hM hH hF hCt hx1
     go_wp2
     go_ret2
     exact ⟨_, by rw [HF.out.1]; rfl, by rw [HF.out.2]; exact World.ownsRow_nil _ _ _ _, hB1⟩
   have HBig3 := Lib.hid (HBig2.out ⟨by omega, by omega⟩)
   have HOk3 := Lib.hid (HOk2.out ⟨by omega, by omega⟩)
   clear HChn2 HBig2 HOk2
   have hmx : ∃ mx, max most 4096 = mx := ⟨_, rfl⟩
   go_upto_if 30 with fail
   go_cut [2] (fun v wx => v = .int .i64 (max most 4096) ∧ wx = w1)
   case first =>
    by_cases h3 : most < 4096
    · go_wp2
      go_meet
      case rel => exact ⟨by rw [show max most 4096 = 4096 by omega], rfl⟩
    · go_wp2
      go_meet
      case rel => exact ⟨by rw [show max most 4096 = most by omega], rfl⟩
   obtain ⟨hv, hw⟩ := hcut
   rw [hv, hw]
   clear hv hw
   go_upto_if 32 with fail
   go_cut [2] (fun v wx => v = .int .i64 (min (max most 4096) 131072) ∧ wx = w1)
   case first =>
    by_cases h3 : 131072 < max most 4096
    · go_wp2
      go_meet
      case rel => exact ⟨by rw [show min (max most 4096) 131072 = 131072 by omega], rfl⟩
    · go_wp2
      go_meet
      case rel => exact ⟨by rw [show min (max most 4096) 131072 = max most 4096 by omega], rfl⟩
   obtain ⟨hv, hw⟩ := hcut
   rw [hv, hw]
   clear hv hw
   obtain ⟨mm, hmm⟩ : ∃ mm, min (max most 4096) 131072 = mm := ⟨_, rfl⟩
   rw [hmm]
   have e8 : IntKind.i64.wrap (mm - 8) = (r : Int) := by simp only [IntKind.wrap_i64]; omega
   clear hmm hmx hrm hro
   obtain ⟨x0, x1, x2, x3, x4, x5, x6, x7⟩ := hx1.eight
   go_wp2_with fail
   with_reducible refine (hM w1 hB1).mono ?_
   rintro e w2 ⟨rfl, hb2⟩
   have hB2 := hB1.trans (hb2.mono hB1.size)
   have hx2 := hx1.kept hb2
   have hr2' := (own_oneF w2 33 (.int .i64 1) (.int .i64 ch) (.string mb)).mono hB2.size
   obtain ⟨W3, hW3⟩ : ∃ W3, W3 = w2.alloc (.cells #[.int .i64 1, .int .i64 ch, .string mb] 33) := ⟨_, rfl⟩
   have hb3 : Below w2.heap.size w2 W3 := by rw [hW3]; exact (Below.refl _ w2).alloc (Nat.le_refl _) _
   have hB3 := hB2.trans (hb3.mono hB2.size)
   have hx3 := hx2.kept hb3
   rw [← hW3] at hr2'
   clear hM hb2 hB1 hx1 hx2 hb3 x0 x1 x2 x3 x4 x5 x6 x7
   go_upto_region 12 with fail
   rw [← hW3]
   clear hW3 hB2
   obtain ⟨x0, x1, x2, x3, x4, x5, x6, x7⟩ := hx3.eight
   go_wp2_with fail
   with_reducible refine (hF W3).mono ?_
   rintro e w4 ⟨rfl, hb4⟩
   have hB4 := hB3.trans (hb4.mono hB3.size)
   have hx4 := hx3.kept hb4
   have hrow4 := rowKept hr2' hb4
   clear hF hb4 hB3 hx3 hr2' x0 x1 x2 x3 x4 x5 x6 x7
   go_upto_if 46 with fail
   go_cut [11] (fun v wx => wx.ownsRow w.heap.size 33 3 v pre.length (rowFr pre) ∧ Keeps notFr w4 wx ∧ Below w.heap.size w wx)
   case first =>
    cases fl
    · have hp : pre = [⟨1, ch, mb⟩] := HPre.out
      go_wp2
      go_meet
      case rel => exact ⟨by rw [hp]; exact hrow4, Keeps.refl _ _, hB4⟩
    · have hp : pre = [⟨1, ch, mb⟩] ++ [⟨2, ch, hb'⟩] := HPre.out
      obtain ⟨x0, x1, x2, x3, x4, x5, x6, x7⟩ := hx4.eight
      go_wp2_with fail
      with_reducible refine (hH w4 hB4).mono ?_
      rintro e w5 ⟨rfl, hb5⟩
      have hrow5 := rowKept hrow4 hb5
      have hB5 := hB4.trans (hb5.mono hB4.size)
      have hbs5 := hB5.size
      have hk5 : Keeps notFr w4 w5 := Keeps.below hb5
      go_wp2_with (first
       | (at_builtin; refine wpList_append_own _ rfl _ _ 42 rfl w.heap.size 33 i0 (.agg #[.int .i64 0, .int .i64 0, .string ⟨#[]⟩]) 3 32 Tryz.underlying42 hi hz0 hz1 hz2 rfl (by decide) _ _ _ rfl (hrow5.alloc _) ⟨w5.heap.size, 0, none⟩ 1 1 [.int .i64 2, .int .i64 ch, .string hb'] rfl rfl ?cells (by simp [Value.oneCell']) (by unfold maxLen; omega) (by omega) (by simp at hbs5 ⊢; omega) ?_))
      case cells => exact cell_three_new w5 _ _ _ _
      intro o' w6 hown' hgrow _
      have hb6 := rowBelow (Nat.le_refl _) hrow5 hB5 hgrow
      have hk6 := (hk5.trans (Keeps.below ((Below.refl _ w5).alloc (Nat.le_refl _) (.cells #[.int .i64 2, .int .i64 ch, .string hb'] 33)))).trans (Keeps.grown (hrow5.alloc _) hgrow (by decide))
      clear hk5 hB5 hbs5 hrow5 hgrow
      go_wp2
      go_meet
      case rel => exact ⟨by rw [hp]; exact hown', hk6, hb6⟩
   case rest =>
    obtain ⟨hrow, hkp, hBc⟩ := hcut
    obtain ⟨hpl1, hpl2⟩ := HPl.out
    have hx7 := hkp.bx hx4 (by decide)
    obtain ⟨A5, c5, rfl, hv5, -, -⟩ := vals_of_row3 hrow
    obtain ⟨n, hn⟩ : ∃ n, pre.length = n := ⟨_, rfl⟩
    have HN := Lib.hid hn
    rw [hn] at hrow hpl1 hpl2 ⊢
    clear hkp hx4 hB4 hrow4 hH hn HPl
    go_wp2_with fail
    go_loopw [15] (fun v wr => ∃ k : Nat, k ≤ n ∧ v = .int .i64 k ∧ Hid (∀ j (hj : j < pre.length), j < k → (pre[j]).d.size ≤ r) ∧ Below wc.heap.size wc wr) (fun v _ => n - (intOf v).toNat)
    case atStart => exact ⟨0, Nat.zero_le _, rfl, Lib.hid (fun j hj h => absurd h (Nat.not_lt_zero _)), Below.refl _ _⟩
    case round =>
     obtain ⟨k, hk, rfl, Hk, hb⟩ := hrel
     by_cases hlt : k < n
     · have hkl : k < pre.length := by rw [HN.out]; exact hlt
       obtain ⟨b1, off, rfl, -, g1⟩ := vals_frame hv5 k hkl
       obtain ⟨z0, z1, z2⟩ := g1 wr hb
       have HB4 := Lib.hid (HBig3.out k hkl)
       have HK2 := Lib.hid (fun (h : (pre[k]).d.size ≤ r) j (hj : j < pre.length) (hjk : j < k + 1) => show (pre[j]).d.size ≤ r from by
        rcases Nat.lt_or_ge j k with h2 | h2
        · exact Hk.out j hj h2
        · obtain rfl : j = k := by omega
          exact h)
       generalize hfr : pre[k] = fr at z0 z1 z2 HB4 HK2
       obtain ⟨ft, fc, fd⟩ := fr
       dsimp only at z0 z1 z2 HB4 HK2
       have i0' : (0 : Int) ≤ (k : Int) := by omega
       have i1' : (k : Int) < (n : Int) := by omega
       have hBw := hBc.trans (hb.mono hBc.size)
       clear hfr Hk g1
       by_cases hbig : r < fd.size
       · have HF := Lib.hid (HB4.out hbig)
         have t : decide ((r : Int) < (fd.size : Int)) = true := decide_eq_true (by omega)
         clear HB4 HK2 hx7 hv5 hrow HBig3 HOk3 hCt HPre
         go_wp2
         go_ret2
         exact ⟨_, by rw [HF.out.1]; rfl, by rw [HF.out.2]; exact World.ownsRow_nil _ _ _ _, hBw⟩
       · have t : decide ((r : Int) < (fd.size : Int)) = false := decide_eq_false (by omega)
         have HK3 := Lib.hid (HK2.out (by omega))
         clear HB4 HK2 hx7 hv5 hrow HBig3 HOk3 hCt HPre
         go_wp2
         go_roundw
         case rel => exact ⟨k + 1, hlt, by rw [show ((k + 1 : Nat) : Int) = (k : Int) + 1 by omega], HK3, hb⟩
         case measure => simp only [intOf]; omega
     · obtain rfl : k = n := by omega
       have HF := Lib.hid (HOk3.out (fun j hj => Hk.out j hj (by rw [← HN.out]; exact hj)))
       have hBw := hBc.trans (hb.mono hBc.size)
       have hroww := rowKept hrow hb
       have hxw := hx7.kept hb
       have x7 := hxw.eight.2.2.2.2.2.2.2
       clear HBig3 HOk3 hv5 Hk hx7 hrow hxw HPre
       go_wp2_with fail
       with_reducible refine (hCt wr).mono ?_
       rintro e w6 ⟨v6, rfl, hown6, hb6⟩
       have hB6 := hBw.trans (hb6.mono hBw.size)
       have hrow6 := rowKept hroww hb6
       obtain ⟨A6, c6, rfl, -, -⟩ := row_form hown6
       have HN2 : Hid (pre.length = k) := HN
       have hR0 : w6.ownsRow w.heap.size 33 3 (.slice A5 k c5) (pre ++ (d.take 0).map (frOf ch 2)).length (rowFr (pre ++ (d.take 0).map (frOf ch 2))) := by
        rw [List.take_zero, List.map_nil, List.append_nil, HN.out]; exact hrow6
       obtain ⟨n2, hn2⟩ : ∃ n2, d.length = n2 := ⟨_, rfl⟩
       have HD := Lib.hid hn2
       rw [hn2] at hown6 hdl ⊢
       clear hCt hb6 hBw hroww hrow6 x7 hb hn2
       go_wp2_with fail
       go_loopw [11, 17] (fun o x wy => ∃ j : Nat, j ≤ n2 ∧ x = .int .i64 j ∧ wy.ownsRow w.heap.size 33 3 o (pre ++ (d.take j).map (frOf ch 2)).length (rowFr (pre ++ (d.take j).map (frOf ch 2))) ∧ Keeps notFr w6 wy ∧ Below w.heap.size w wy) (fun _ x _ => n2 - (intOf x).toNat)
       case atStart => exact ⟨0, Nat.zero_le _, rfl, hR0, Keeps.refl _ _, hB6⟩
       case round =>
        obtain ⟨j, hj, rfl, hrw, hkp, hbw⟩ := hrel
        clear hR0
        by_cases hlt : j < n2
        · have hjn : j < d.length := by rw [HD.out]; exact hlt
          obtain ⟨b, off, rfl, hcell⟩ := strs_at (hkp.row hown6 (by decide)) hjn
          have e2 : IntKind.i64.wrap ((j : Int) + 1) = ((j + 1 : Nat) : Int) := by simp only [IntKind.wrap_i64]; omega
          have HRow := Lib.hid (rowFr_map pre ch 2 d j hjn)
          have HLn : Hid ((pre ++ (d.take (j + 1)).map (frOf ch 2)).length = (pre ++ (d.take j).map (frOf ch 2)).length + 1) := Lib.hid (by
           rw [List.length_append, List.length_append, List.length_map, List.length_map, List.length_take, List.length_take]; omega)
          have hln : (pre ++ (d.take j).map (frOf ch 2)).length + 1 ≤ 65539 := by
           rw [List.length_append, List.length_map, List.length_take, HN2.out]; omega
          have hbz := hbw.size
          generalize d[j] = p at hcell HRow
          generalize pre ++ (d.take j).map (frOf ch 2) = pr at hrw hln HLn HRow
          go_wp2_with (first
           | (at_builtin; refine wpList_append_own _ rfl _ _ 42 rfl w.heap.size 33 i0 (.agg #[.int .i64 0, .int .i64 0, .string ⟨#[]⟩]) 3 32 Tryz.underlying42 hi hz0 hz1 hz2 rfl (by decide) _ _ _ rfl (hrw.alloc _) ⟨wr.heap.size, 0, none⟩ 1 1 [.int .i64 3, .int .i64 ch, .string p] rfl rfl ?cells (by simp [Value.oneCell']) (by unfold maxLen; omega) (by omega) (by simp at hbz ⊢; omega) ?_))
          case cells => exact cell_three_new _ _ _ _ _
          intro o' w7 hown' hgrow _
          have hb7 := rowBelow (Nat.le_refl _) hrw hbw hgrow
          have hk7 := (hkp.trans (Keeps.below ((Below.refl _ _).alloc (Nat.le_refl _) (.cells #[.int .i64 3, .int .i64 ch, .string p] 33)))).trans (Keeps.grown (hrw.alloc _) hgrow (by decide))
          have HR2 : Hid (w7.ownsRow w.heap.size 33 3 o' (pre ++ (d.take (j + 1)).map (frOf ch 2)).length (rowFr (pre ++ (d.take (j + 1)).map (frOf ch 2)))) := Lib.hid (by rw [HRow.out, HLn.out]; exact hown')
          clear hrw hkp hbw hown' hgrow HRow HLn hln hbz hown6 hcell
          go_wp2
          go_roundw
          case rel => exact ⟨j + 1, hlt, by rw [show ((j + 1 : Nat) : Int) = (j : Int) + 1 by omega], HR2.out, hk7, hb7⟩
          case measure => simp only [intOf]; omega
        · obtain rfl : j = n2 := by omega
          have HR2 := Lib.hid hrw
          have htk : d.take j = d := List.take_of_length_le (by rw [HD.out]; exact Nat.le_refl _)
          clear hrw hown6
          go_wp2
          go_ret2
          exact ⟨_, by rw [HF.out.1]; rfl, by rw [HF.out.2, ← htk]; have h := HR2.out; rw [htk] at h ⊢; exact h, hbw⟩
 · have HF := Lib.hid (HCmd.out hce)
   have t : (ce != 0) = true := by simpa using hce
   clear HCmd HChn HBig HOk HSm HLen HCt hM hH hF hce hx1
   go_wp2
   go_ret2
   exact ⟨_, by rw [HF.out.1]; rfl, by rw [HF.out.2]; exact World.ownsRow_nil _ _ _ _, hB1⟩
end Go.Proofs.YtllgkohgcicbhaaGreatDoor

/-
  The document's own Feed answers what feed says; nothing that was there is changed. Conditions: the values lie in old memory; bytes of fewer than 2^62.
-/
namespace Go.Proofs.YtllgkohgcicbhaaGreatDoor
open Go.RowKit

theorem rfeed_any (a : As) (A B : Option Addr) (ca cb : Nat) (t ch : Int) (d : ByteArray) (w : World) (hc : CmAt w a.c A B ca cb) (hd : d.size < 4611686018427387904) (hbd : a.c.b.size + d.size < 4611686018427387904) :
 Calls Tryz.prog 9 #[encAs a A B ca cb, encFr ⟨t, ch, d⟩] w (FdPost (feed a t d) w) := by
 by_cases h : 0 ≤ a.st ∧ a.st ≤ 2
 · by_cases ht : t = a.st + 1
   · rw [feed_in h ht]
     obtain ⟨st, c⟩ := a
     rcases state_in h with e | e | e
     · dsimp only at e ht
       subst e
       obtain rfl : t = 1 := by omega
       rw [if_pos rfl]
       exact rfeed_at0 c A B ca cb ch d w hc hd
     · dsimp only at e ht
       subst e
       obtain rfl : t = 2 := by omega
       rw [if_neg (by dsimp only; decide), if_pos rfl]
       exact rfeed_at1 c A B ca cb ch d w hc hd
     · dsimp only at e ht
       subst e
       obtain rfl : t = 3 := by omega
       rw [if_neg (by dsimp only; decide), if_neg (by dsimp only; decide)]
       exact rfeed_at2 c A B ca cb ch d w hc hbd
   · rw [feed, if_neg (by omega), if_pos ht]
     exact rfeed_wrong a A B ca cb t ch d w h ht
 · rw [feed, if_pos (by omega)]
   exact rfeed_none a A B ca cb t ch d w h
theorem short0 : shortC cm0 := ⟨Nat.zero_le _, Nat.zero_le _⟩
theorem short_noh {m : Me} (h : m.l.length ≤ 9223372036854775807) : shortC (ofM m) := ⟨h, Nat.zero_le _⟩
/-- what is answered has rows as short as what came -/
theorem feed_short {a : As} (h : shortC a.c) (t : Int) (d : ByteArray) : shortC (feed a t d).a.c ∧ shortC (feed a t d).c := by
 unfold feed
 split
 · exact ⟨short0, short0⟩
 split
 · exact ⟨short0, short0⟩
 split
 · unfold feedM
   cases htm : tm d with
   | none => exact ⟨short0, short0⟩
   | some m =>
    have h1 := mE_short (tm_forth htm).1
    dsimp only
    split
    · exact ⟨short_noh (by omega), short0⟩
    · exact ⟨short0, short_noh (by omega)⟩
 split
 · unfold feedH
   split
   · rename_i h5
     have h1 := hE_short (tp_forth h5).1
     split
     · exact ⟨⟨h.1, by show (tpH d).l.length ≤ _; omega⟩, short0⟩
     · exact ⟨short0, ⟨h.1, by show (tpH d).l.length ≤ _; omega⟩⟩
   · exact ⟨short0, short0⟩
 · unfold feedB
   split
   · exact ⟨short0, short0⟩
   · split
     · exact ⟨h, short0⟩
     · exact ⟨short0, h⟩
end Go.Proofs.YtllgkohgcicbhaaGreatDoor

/-
  ContentFeeds' walk: a frame that is fed, and a command's frames, are as the document says. Conditions: the tables of widths and of contents are as their texts lay them; the state is an int; the values lie in old memory, of at most 2^47 bytes, each number a uint64, each text shorter than 2^47 bytes.
-/
namespace Go.Proofs.YtllgkohgcicbhaaGreatDoor
open Go.RowKit

set_option maxRecDepth 100000 in
set_option maxHeartbeats 8000000 in
theorem contentFeeds_walk (a : As) (A B : Option Addr) (ca cb : Nat) (ft fc : Int) (fd : ByteArray) (c : Cm) (A' B' : Option Addr) (ca' cb' : Nat) (ch most : Int) (o : Cm) (A3 B3 : Option Addr) (ca3 cb3 : Nat) (w : World) (hw : Wid w) (hk : Con w) (hst : -9223372036854775808 ≤ a.st ∧ a.st ≤ 9223372036854775807) (hca : CmAt w a.c A B ca cb) (hla : a.c.m.l.length * 24 ≤ 140737488355328) (hla2 : a.c.h.l.length * 24 ≤ 140737488355328) (hba : a.c.b.size ≤ 140737488355328) (hdz : fd.size ≤ 140737488355328) (hwf : wfC c) (hcc : CmAt w c A' B' ca' cb') (hsc : shortC c) (hsz : c.b.size < 4611686018427387904) (hco : CmAt w o A3 B3 ca3 cb3) :
 Calls Tryz.prog 3 #[.agg #[.int .i64 a.st, .int .i64 a.c.m.c, .int .i64 a.c.m.i, .slice A a.c.m.l.length ca, .int .i64 a.c.h.c, .int .u64 a.c.h.z, .int .u64 a.c.h.f, .slice B a.c.h.l.length cb, .string a.c.b, .int .i64 ft, .int .i64 fc, .string fd, .int .i64 c.m.c, .int .i64 c.m.i, .slice A' c.m.l.length ca', .int .i64 c.h.c, .int .u64 c.h.z, .int .u64 c.h.f, .slice B' c.h.l.length cb', .string c.b, .int .i64 ch, .int .i64 most, .int .i64 o.m.c, .int .i64 o.m.i, .slice A3 o.m.l.length ca3, .int .i64 o.h.c, .int .u64 o.h.z, .int .u64 o.h.f, .slice B3 o.h.l.length cb3, .string o.b]] w fun e w' => e = .returned (.bool true) ∧ Below w.heap.size w w' := by
 have hSh := fun W (h : Below w.heap.size w W) => cshown_any W (hw.below h) (hk.below h)
 have hFd := fun W (h : Below w.heap.size w W) => feed_any a A B ca cb ft fc fd W (hw.below h) (hk.below h) hst (hca.below h) hla hla2 (by omega) (by omega)
 have hGd := fun W (h : Below w.heap.size w W) => rfeed_any a A B ca cb ft fc fd W (hca.below h) (by omega) (by omega)
 have hFr := fun W (h : Below w.heap.size w W) => frames_any c A' B' ca' cb' ch most W (hw.below h) (hk.below h) hwf (hcc.below h) hsc hsz
 have hGr := fun W (h : Below w.heap.size w W) => rframes_any c A' B' ca' cb' ch most W hwf (hcc.below h) hsc hsz
 have hRt := fun W (h : Below w.heap.size w W) => cright_any c A' B' ca' cb' W (hw.below h) (hk.below h) hwf (hcc.below h) hsc hsz
 have hRr := fun W (h : Below w.heap.size w W) => rright8_any c A' B' ca' cb' W hwf (hcc.below h) hsc hsz
 have hSc := fun W (h : Below w.heap.size w W) => csame_any c o A' B' A3 B3 ca' cb' ca3 cb3 W (hcc.below h) (hco.below h) hsc
 have hSr := fun W (h : Below w.heap.size w W) => rcsame_any c o A' B' A3 B3 ca' cb' ca3 cb3 W (hcc.below h) (hco.below h) hsc
 have hId := fun W => idle_any a A B ca cb W
 obtain ⟨hs1, hs2⟩ := feed_short (a := a) ⟨by omega, by omega⟩ ft fd
 have HSA : Hid (∀ P1 P2 Q1 Q2 p1 p2 q1 q2 W, CmAt W (feed a ft fd).a.c P1 P2 p1 p2 → CmAt W (feed a ft fd).a.c Q1 Q2 q1 q2 → Calls Tryz.prog 12 #[encAs (feed a ft fd).a P1 P2 p1 p2, encAs (feed a ft fd).a Q1 Q2 q1 q2] W fun e w' => e = .returned (.bool true) ∧ Below W.heap.size W w') := Lib.hid (fun P1 P2 Q1 Q2 p1 p2 q1 q2 W h1 h2 => by
  have h := lsame_any (feed a ft fd).a (feed a ft fd).a P1 P2 Q1 Q2 p1 p2 q1 q2 W h1 h2 hs1
  rw [(sameA_iff _ _).2 rfl] at h
  exact h)
 have HSC : Hid (∀ P1 P2 Q1 Q2 p1 p2 q1 q2 W, CmAt W (feed a ft fd).c P1 P2 p1 p2 → CmAt W (feed a ft fd).c Q1 Q2 q1 q2 → Calls Tryz.prog 13 #[encC (feed a ft fd).c P1 P2 p1 p2, encC (feed a ft fd).c Q1 Q2 q1 q2] W fun e w' => e = .returned (.bool true) ∧ Below W.heap.size W w') := Lib.hid (fun P1 P2 Q1 Q2 p1 p2 q1 q2 W h1 h2 => by
  have h := rcsame_any (feed a ft fd).c (feed a ft fd).c P1 P2 Q1 Q2 p1 p2 q1 q2 W h1 h2 hs2
  rw [(sameC_iff _ _).2 rfl] at h
  exact h)
 have hLn : (cFrs c ch (roomN most)).length ≤ 65538 := frs_len (by have := (room_is most).2; omega)
 unfold FdPost at hFd hGd
 unfold FrPost at hFr hGr
 generalize feed a ft fd = fv at *
 generalize cFrs c ch (roomN most) = LL at *
 generalize cFrsE c ch (roomN most) = E at *
 generalize cE c = ce at *
 generalize sameC c o = qs at *
 unfold encAs encFr encC at hFd hGd
 unfold encC at hFr hGr hRt hRr hSc hSr HSC
 unfold encAs at hId HSA
 clear hca hcc hco hla hla2 hba hdz hwf hsc hsz hw hk hst hs1 hs2
 obtain ⟨q0, ⟨⟨q1, q2, ql⟩, ⟨q4, q5, q6, qm⟩, q8⟩⟩ := a
 obtain ⟨⟨mc, mi, ml⟩, ⟨hc, hz, hf, hl⟩, sb⟩ := c
 obtain ⟨⟨nc, ni, nl⟩, ⟨gc, gz, gf, gl⟩, ob2⟩ := o
 obtain ⟨⟨s0, ⟨⟨s1, s2, sl⟩, ⟨s4, s5, s6, sm⟩, s8⟩⟩, ⟨⟨o1, o2, ol⟩, ⟨o4, o5, o6, om⟩, o8⟩, ob, oe⟩ := fv
 dsimp only at *
 obtain ⟨W0, hW0⟩ : ∃ W0, W0 = (((((w.alloc (.cells #[.int .i64 q0, .int .i64 q1, .int .i64 q2, .slice A ql.length ca, .int .i64 q4, .int .u64 q5, .int .u64 q6, .slice B qm.length cb, .string q8, .int .i64 ft, .int .i64 fc, .string fd, .int .i64 mc, .int .i64 mi, .slice A' ml.length ca', .int .i64 hc, .int .u64 hz, .int .u64 hf, .slice B' hl.length cb', .string sb, .int .i64 ch, .int .i64 most, .int .i64 nc, .int .i64 ni, .slice A3 nl.length ca3, .int .i64 gc, .int .u64 gz, .int .u64 gf, .slice B3 gl.length cb3, .string ob2] 35)).alloc (.cells #[.int .i64 q0, .int .i64 q1, .int .i64 q2, .slice A ql.length ca, .int .i64 q4, .int .u64 q5, .int .u64 q6, .slice B qm.length cb, .string q8] 31)).alloc (.cells #[.int .i64 ft, .int .i64 fc, .string fd] 33)).alloc (.cells #[.int .i64 mc, .int .i64 mi, .slice A' ml.length ca', .int .i64 hc, .int .u64 hz, .int .u64 hf, .slice B' hl.length cb', .string sb] 29)).alloc (.cells #[.int .i64 nc, .int .i64 ni, .slice A3 nl.length ca3, .int .i64 gc, .int .u64 gz, .int .u64 gf, .slice B3 gl.length cb3, .string ob2] 29)) := ⟨_, rfl⟩
 have hb0 : Below w.heap.size w W0 := by rw [hW0]; exact (((((Below.refl _ w).alloc (Nat.le_refl _) _).alloc (by simp) _).alloc (by simp; omega) _).alloc (by simp; omega) _).alloc (by simp; omega) _
 have ha0 : Bx W0 (w.heap.size + 1) 31 [.int .i64 q0, .int .i64 q1, .int .i64 q2, .slice A ql.length ca, .int .i64 q4, .int .u64 q5, .int .u64 q6, .slice B qm.length cb, .string q8] := by
  have h := ((((Bx.new (w.alloc (.cells #[.int .i64 q0, .int .i64 q1, .int .i64 q2, .slice A ql.length ca, .int .i64 q4, .int .u64 q5, .int .u64 q6, .slice B qm.length cb, .string q8, .int .i64 ft, .int .i64 fc, .string fd, .int .i64 mc, .int .i64 mi, .slice A' ml.length ca', .int .i64 hc, .int .u64 hz, .int .u64 hf, .slice B' hl.length cb', .string sb, .int .i64 ch, .int .i64 most, .int .i64 nc, .int .i64 ni, .slice A3 nl.length ca3, .int .i64 gc, .int .u64 gz, .int .u64 gf, .slice B3 gl.length cb3, .string ob2] 35)) 31 [.int .i64 q0, .int .i64 q1, .int .i64 q2, .slice A ql.length ca, .int .i64 q4, .int .u64 q5, .int .u64 q6, .slice B qm.length cb, .string q8]).alloc (.cells #[.int .i64 ft, .int .i64 fc, .string fd] 33)).alloc (.cells #[.int .i64 mc, .int .i64 mi, .slice A' ml.length ca', .int .i64 hc, .int .u64 hz, .int .u64 hf, .slice B' hl.length cb', .string sb] 29)).alloc (.cells #[.int .i64 nc, .int .i64 ni, .slice A3 nl.length ca3, .int .i64 gc, .int .u64 gz, .int .u64 gf, .slice B3 gl.length cb3, .string ob2] 29))
  simp only [World.size_alloc] at h
  rw [hW0]; exact h
 have hf0 : Bx W0 (w.heap.size + 1 + 1) 33 [.int .i64 ft, .int .i64 fc, .string fd] := by
  have h := (((Bx.new ((w.alloc (.cells #[.int .i64 q0, .int .i64 q1, .int .i64 q2, .slice A ql.length ca, .int .i64 q4, .int .u64 q5, .int .u64 q6, .slice B qm.length cb, .string q8, .int .i64 ft, .int .i64 fc, .string fd, .int .i64 mc, .int .i64 mi, .slice A' ml.length ca', .int .i64 hc, .int .u64 hz, .int .u64 hf, .slice B' hl.length cb', .string sb, .int .i64 ch, .int .i64 most, .int .i64 nc, .int .i64 ni, .slice A3 nl.length ca3, .int .i64 gc, .int .u64 gz, .int .u64 gf, .slice B3 gl.length cb3, .string ob2] 35)).alloc (.cells #[.int .i64 q0, .int .i64 q1, .int .i64 q2, .slice A ql.length ca, .int .i64 q4, .int .u64 q5, .int .u64 q6, .slice B qm.length cb, .string q8] 31)) 33 [.int .i64 ft, .int .i64 fc, .string fd]).alloc (.cells #[.int .i64 mc, .int .i64 mi, .slice A' ml.length ca', .int .i64 hc, .int .u64 hz, .int .u64 hf, .slice B' hl.length cb', .string sb] 29)).alloc (.cells #[.int .i64 nc, .int .i64 ni, .slice A3 nl.length ca3, .int .i64 gc, .int .u64 gz, .int .u64 gf, .slice B3 gl.length cb3, .string ob2] 29))
  simp only [World.size_alloc] at h
  rw [hW0]; exact h
 have hc0 : Bx W0 (w.heap.size + 1 + 1 + 1) 29 [.int .i64 mc, .int .i64 mi, .slice A' ml.length ca', .int .i64 hc, .int .u64 hz, .int .u64 hf, .slice B' hl.length cb', .string sb] := by
  have h := ((Bx.new (((w.alloc (.cells #[.int .i64 q0, .int .i64 q1, .int .i64 q2, .slice A ql.length ca, .int .i64 q4, .int .u64 q5, .int .u64 q6, .slice B qm.length cb, .string q8, .int .i64 ft, .int .i64 fc, .string fd, .int .i64 mc, .int .i64 mi, .slice A' ml.length ca', .int .i64 hc, .int .u64 hz, .int .u64 hf, .slice B' hl.length cb', .string sb, .int .i64 ch, .int .i64 most, .int .i64 nc, .int .i64 ni, .slice A3 nl.length ca3, .int .i64 gc, .int .u64 gz, .int .u64 gf, .slice B3 gl.length cb3, .string ob2] 35)).alloc (.cells #[.int .i64 q0, .int .i64 q1, .int .i64 q2, .slice A ql.length ca, .int .i64 q4, .int .u64 q5, .int .u64 q6, .slice B qm.length cb, .string q8] 31)).alloc (.cells #[.int .i64 ft, .int .i64 fc, .string fd] 33)) 29 [.int .i64 mc, .int .i64 mi, .slice A' ml.length ca', .int .i64 hc, .int .u64 hz, .int .u64 hf, .slice B' hl.length cb', .string sb]).alloc (.cells #[.int .i64 nc, .int .i64 ni, .slice A3 nl.length ca3, .int .i64 gc, .int .u64 gz, .int .u64 gf, .slice B3 gl.length cb3, .string ob2] 29))
  simp only [World.size_alloc] at h
  rw [hW0]; exact h
 have ho0 : Bx W0 (w.heap.size + 1 + 1 + 1 + 1) 29 [.int .i64 nc, .int .i64 ni, .slice A3 nl.length ca3, .int .i64 gc, .int .u64 gz, .int .u64 gf, .slice B3 gl.length cb3, .string ob2] := by
  have h := (Bx.new ((((w.alloc (.cells #[.int .i64 q0, .int .i64 q1, .int .i64 q2, .slice A ql.length ca, .int .i64 q4, .int .u64 q5, .int .u64 q6, .slice B qm.length cb, .string q8, .int .i64 ft, .int .i64 fc, .string fd, .int .i64 mc, .int .i64 mi, .slice A' ml.length ca', .int .i64 hc, .int .u64 hz, .int .u64 hf, .slice B' hl.length cb', .string sb, .int .i64 ch, .int .i64 most, .int .i64 nc, .int .i64 ni, .slice A3 nl.length ca3, .int .i64 gc, .int .u64 gz, .int .u64 gf, .slice B3 gl.length cb3, .string ob2] 35)).alloc (.cells #[.int .i64 q0, .int .i64 q1, .int .i64 q2, .slice A ql.length ca, .int .i64 q4, .int .u64 q5, .int .u64 q6, .slice B qm.length cb, .string q8] 31)).alloc (.cells #[.int .i64 ft, .int .i64 fc, .string fd] 33)).alloc (.cells #[.int .i64 mc, .int .i64 mi, .slice A' ml.length ca', .int .i64 hc, .int .u64 hz, .int .u64 hf, .slice B' hl.length cb', .string sb] 29)) 29 [.int .i64 nc, .int .i64 ni, .slice A3 nl.length ca3, .int .i64 gc, .int .u64 gz, .int .u64 gf, .slice B3 gl.length cb3, .string ob2])
  simp only [World.size_alloc] at h
  rw [hW0]; exact h
 go_enter Tryz.func3, Tryz.ntmps3
 go_upto_region 7 with fail
 rw [← hW0]
 clear hW0
 go_wp2_with fail
 with_reducible refine (hSh W0 hb0).mono ?_
 rintro e w1 ⟨rfl, hb1⟩
 have hB1 := hb0.trans (hb1.mono hb0.size)
 have ha1 := ha0.kept hb1
 have hf1 := hf0.kept hb1
 have hc1 := hc0.kept hb1
 have ho1 := ho0.kept hb1
 clear hSh hb1 hb0 ha0 hf0 hc0 ho0
 obtain ⟨x0, x1, x2, x3, x4, x5, x6, x7, x8⟩ := ha1.nine
 obtain ⟨y0, y1, y2⟩ := hf1.three3
 go_wp2_with fail
 with_reducible refine (hFd w1 hB1).mono ?_
 rintro e w2 ⟨P1, P2, P3, P4, p1, p2, p3, p4, rfl, hcx, hcp, hb2⟩
 have hB2 := hB1.trans (hb2.mono hB1.size)
 obtain ⟨W2, hW2⟩ : ∃ W2, W2 = (w2.alloc (.cells #[.int .i64 s0, .int .i64 s1, .int .i64 s2, .slice P1 sl.length p1, .int .i64 s4, .int .u64 s5, .int .u64 s6, .slice P2 sm.length p2, .string s8] 31)).alloc (.cells #[.int .i64 o1, .int .i64 o2, .slice P3 ol.length p3, .int .i64 o4, .int .u64 o5, .int .u64 o6, .slice P4 om.length p4, .string o8] 29) := ⟨_, rfl⟩
 have hb2' : Below w2.heap.size w2 W2 := by rw [hW2]; exact ((Below.refl _ w2).alloc (Nat.le_refl _) _).alloc (by simp) _
 have hx2 : Bx W2 w2.heap.size 31 [.int .i64 s0, .int .i64 s1, .int .i64 s2, .slice P1 sl.length p1, .int .i64 s4, .int .u64 s5, .int .u64 s6, .slice P2 sm.length p2, .string s8] := by rw [hW2]; exact (Bx.new w2 31 [.int .i64 s0, .int .i64 s1, .int .i64 s2, .slice P1 sl.length p1, .int .i64 s4, .int .u64 s5, .int .u64 s6, .slice P2 sm.length p2, .string s8]).alloc _
 have hp2 : Bx W2 (w2.heap.size + 1) 29 [.int .i64 o1, .int .i64 o2, .slice P3 ol.length p3, .int .i64 o4, .int .u64 o5, .int .u64 o6, .slice P4 om.length p4, .string o8] := by
  have h := Bx.new (w2.alloc (.cells #[.int .i64 s0, .int .i64 s1, .int .i64 s2, .slice P1 sl.length p1, .int .i64 s4, .int .u64 s5, .int .u64 s6, .slice P2 sm.length p2, .string s8] 31)) 29 [.int .i64 o1, .int .i64 o2, .slice P3 ol.length p3, .int .i64 o4, .int .u64 o5, .int .u64 o6, .slice P4 om.length p4, .string o8]
  rw [World.size_alloc] at h
  rw [hW2]; exact h
 have hBW := hB2.trans (hb2'.mono hB2.size)
 have hcx2 := hcx.below hb2'
 have hcp2 := hcp.below hb2'
 have ha2 := (ha1.kept hb2).kept hb2'
 have hf2 := (hf1.kept hb2).kept hb2'
 have hc2 := (hc1.kept hb2).kept hb2'
 have ho2 := (ho1.kept hb2).kept hb2'
 clear hFd hb2 hb2' hB1 hB2 ha1 hf1 hc1 ho1 hcx hcp x0 x1 x2 x3 x4 x5 x6 x7 x8 y0 y1 y2
 go_upto_region 9 with fail
 rw [← hW2]
 clear hW2
 obtain ⟨x0, x1, x2, x3, x4, x5, x6, x7, x8⟩ := ha2.nine
 obtain ⟨y0, y1, y2⟩ := hf2.three3
 go_wp2_with fail
 with_reducible refine (hGd W2 hBW).mono ?_
 rintro e w3 ⟨Q1, Q2, Q3, Q4, q1x, q2x, q3x, q4x, rfl, hcy, hcq, hb3⟩
 have hB3 := hBW.trans (hb3.mono hBW.size)
 obtain ⟨W3, hW3⟩ : ∃ W3, W3 = (w3.alloc (.cells #[.int .i64 s0, .int .i64 s1, .int .i64 s2, .slice Q1 sl.length q1x, .int .i64 s4, .int .u64 s5, .int .u64 s6, .slice Q2 sm.length q2x, .string s8] 31)).alloc (.cells #[.int .i64 o1, .int .i64 o2, .slice Q3 ol.length q3x, .int .i64 o4, .int .u64 o5, .int .u64 o6, .slice Q4 om.length q4x, .string o8] 29) := ⟨_, rfl⟩
 have hb3' : Below w3.heap.size w3 W3 := by rw [hW3]; exact ((Below.refl _ w3).alloc (Nat.le_refl _) _).alloc (by simp) _
 have hy3 : Bx W3 w3.heap.size 31 [.int .i64 s0, .int .i64 s1, .int .i64 s2, .slice Q1 sl.length q1x, .int .i64 s4, .int .u64 s5, .int .u64 s6, .slice Q2 sm.length q2x, .string s8] := by rw [hW3]; exact (Bx.new w3 31 [.int .i64 s0, .int .i64 s1, .int .i64 s2, .slice Q1 sl.length q1x, .int .i64 s4, .int .u64 s5, .int .u64 s6, .slice Q2 sm.length q2x, .string s8]).alloc _
 have hq3 : Bx W3 (w3.heap.size + 1) 29 [.int .i64 o1, .int .i64 o2, .slice Q3 ol.length q3x, .int .i64 o4, .int .u64 o5, .int .u64 o6, .slice Q4 om.length q4x, .string o8] := by
  have h := Bx.new (w3.alloc (.cells #[.int .i64 s0, .int .i64 s1, .int .i64 s2, .slice Q1 sl.length q1x, .int .i64 s4, .int .u64 s5, .int .u64 s6, .slice Q2 sm.length q2x, .string s8] 31)) 29 [.int .i64 o1, .int .i64 o2, .slice Q3 ol.length q3x, .int .i64 o4, .int .u64 o5, .int .u64 o6, .slice Q4 om.length q4x, .string o8]
  rw [World.size_alloc] at h
  rw [hW3]; exact h
 have hBX := hB3.trans (hb3'.mono hB3.size)
 have hcy3 := hcy.below hb3'
 have hcq3 := hcq.below hb3'
 have hcx3 := (hcx2.below hb3).below hb3'
 have hcp3 := (hcp2.below hb3).below hb3'
 have hx3 := (hx2.kept hb3).kept hb3'
 have hp3 := (hp2.kept hb3).kept hb3'
 have ha3 := (ha2.kept hb3).kept hb3'
 have hc3 := (hc2.kept hb3).kept hb3'
 have ho3 := (ho2.kept hb3).kept hb3'
 clear hGd hb3 hb3' hBW hB3 ha2 hf2 hc2 ho2 hx2 hp2 hcx2 hcp2 hcy hcq x0 x1 x2 x3 x4 x5 x6 x7 x8 y0 y1 y2
 go_upto_region 10 with fail
 rw [← hW3]
 clear hW3
 obtain ⟨x0, x1, x2, x3, x4, x5, x6, x7⟩ := hc3.eight
 go_wp2_with fail
 with_reducible refine (hFr W3 hBX).mono ?_
 rintro e w4 ⟨v4, rfl, hr4, hb4⟩
 have hB4 := hBX.trans (hb4.mono hBX.size)
 replace hx3 := hx3.kept hb4
 replace hy3 := hy3.kept hb4
 replace hp3 := hp3.kept hb4
 replace hq3 := hq3.kept hb4
 replace ha3 := ha3.kept hb4
 replace hc3 := hc3.kept hb4
 replace ho3 := ho3.kept hb4
 replace hcx3 := hcx3.below hb4
 replace hcy3 := hcy3.below hb4
 replace hcp3 := hcp3.below hb4
 replace hcq3 := hcq3.below hb4
 clear hFr hb4 hBX x0 x1 x2 x3 x4 x5 x6 x7
 obtain ⟨R1, r1, rfl, hv4, -, -⟩ := vals_of_row3 hr4
 clear hr4
 obtain ⟨x0, x1, x2, x3, x4, x5, x6, x7⟩ := hc3.eight
 go_wp2_with fail
 with_reducible refine (hGr w4 hB4).mono ?_
 rintro e w5 ⟨v5, rfl, hr5, hb5⟩
 have hB5 := hB4.trans (hb5.mono hB4.size)
 have hv5 := hv4.below hb5
 replace hx3 := hx3.kept hb5
 replace hy3 := hy3.kept hb5
 replace hp3 := hp3.kept hb5
 replace hq3 := hq3.kept hb5
 replace ha3 := ha3.kept hb5
 replace hc3 := hc3.kept hb5
 replace ho3 := ho3.kept hb5
 replace hcx3 := hcx3.below hb5
 replace hcy3 := hcy3.below hb5
 replace hcp3 := hcp3.below hb5
 replace hcq3 := hcq3.below hb5
 clear hGr hb5 hB4 hv4 x0 x1 x2 x3 x4 x5 x6 x7
 obtain ⟨R2, r2, rfl, hu5, -, -⟩ := vals_of_row3 hr5
 clear hr5
 have hSA := HSA.out P1 P2 Q1 Q2 p1 p2 q1x q2x w5 hcx3 hcy3
 obtain ⟨x0, x1, x2, x3, x4, x5, x6, x7, x8⟩ := hx3.nine
 obtain ⟨y0, y1, y2, y3, y4, y5, y6, y7, y8⟩ := hy3.nine
 go_wp2_with fail
 with_reducible refine hSA.mono ?_
 rintro e w6 ⟨rfl, hb6⟩
 have hB6 := hB5.trans (hb6.mono hB5.size)
 have hv6 := hv5.below hb6
 have hu6 := hu5.below hb6
 replace hp3 := hp3.kept hb6
 replace hq3 := hq3.kept hb6
 replace ha3 := ha3.kept hb6
 replace hc3 := hc3.kept hb6
 replace ho3 := ho3.kept hb6
 replace hcp3 := hcp3.below hb6
 replace hcq3 := hcq3.below hb6
 clear hSA hb6 hB5 hv5 hu5 hx3 hy3 hcx3 hcy3 x0 x1 x2 x3 x4 x5 x6 x7 x8 y0 y1 y2 y3 y4 y5 y6 y7 y8
 have hSC := HSC.out P3 P4 Q3 Q4 p3 p4 q3x q4x w6 hcp3 hcq3
 obtain ⟨x0, x1, x2, x3, x4, x5, x6, x7⟩ := hp3.eight
 obtain ⟨y0, y1, y2, y3, y4, y5, y6, y7⟩ := hq3.eight
 go_wp2_with fail
 with_reducible refine hSC.mono ?_
 rintro e w7 ⟨rfl, hb7⟩
 have hB7 := hB6.trans (hb7.mono hB6.size)
 have hv7 := hv6.below hb7
 have hu7 := hu6.below hb7
 have ha7 := ha3.kept hb7
 have hc7 := hc3.kept hb7
 have ho7 := ho3.kept hb7
 clear hSC hb7 hB6 hv6 hu6 hp3 hq3 hcp3 hcq3 ha3 hc3 ho3 x0 x1 x2 x3 x4 x5 x6 x7 y0 y1 y2 y3 y4 y5 y6 y7
 have hRS := same_any R1 R2 r1 r2 LL w7 hv7 hu7 (by omega)
 go_wp2_with fail
 with_reducible refine hRS.mono ?_
 rintro e w8 ⟨rfl, hb8⟩
 have hB8 := hB7.trans (hb8.mono hB7.size)
 have ha8 := ha7.kept hb8
 have hc8 := hc7.kept hb8
 have ho8 := ho7.kept hb8
 clear hRS hb8 hB7 hv7 hu7 ha7 hc7 ho7 hLn
 go_upto_region 14 with fail
 have hbs := hB8.size
 have keep : ∀ w', Below w8.heap.size w8 w' → w'.cell? ⟨w.heap.size + 1, 0, none⟩ = some (.int .i64 q0) ∧ w'.cell? ⟨w.heap.size + 1, 1, none⟩ = some (.int .i64 q1) ∧ w'.cell? ⟨w.heap.size + 1, 2, none⟩ = some (.int .i64 q2) ∧ w'.cell? ⟨w.heap.size + 1, 3, none⟩ = some (.slice A ql.length ca) ∧ w'.cell? ⟨w.heap.size + 1, 4, none⟩ = some (.int .i64 q4) ∧ w'.cell? ⟨w.heap.size + 1, 5, none⟩ = some (.int .u64 q5) ∧ w'.cell? ⟨w.heap.size + 1, 6, none⟩ = some (.int .u64 q6) ∧ w'.cell? ⟨w.heap.size + 1, 7, none⟩ = some (.slice B qm.length cb) ∧ w'.cell? ⟨w.heap.size + 1, 8, none⟩ = some (.string q8) ∧ w'.cell? ⟨w.heap.size + 1 + 1 + 1, 0, none⟩ = some (.int .i64 mc) ∧ w'.cell? ⟨w.heap.size + 1 + 1 + 1, 1, none⟩ = some (.int .i64 mi) ∧ w'.cell? ⟨w.heap.size + 1 + 1 + 1, 2, none⟩ = some (.slice A' ml.length ca') ∧ w'.cell? ⟨w.heap.size + 1 + 1 + 1, 3, none⟩ = some (.int .i64 hc) ∧ w'.cell? ⟨w.heap.size + 1 + 1 + 1, 4, none⟩ = some (.int .u64 hz) ∧ w'.cell? ⟨w.heap.size + 1 + 1 + 1, 5, none⟩ = some (.int .u64 hf) ∧ w'.cell? ⟨w.heap.size + 1 + 1 + 1, 6, none⟩ = some (.slice B' hl.length cb') ∧ w'.cell? ⟨w.heap.size + 1 + 1 + 1, 7, none⟩ = some (.string sb) ∧ w'.cell? ⟨w.heap.size + 1 + 1 + 1 + 1, 0, none⟩ = some (.int .i64 nc) ∧ w'.cell? ⟨w.heap.size + 1 + 1 + 1 + 1, 1, none⟩ = some (.int .i64 ni) ∧ w'.cell? ⟨w.heap.size + 1 + 1 + 1 + 1, 2, none⟩ = some (.slice A3 nl.length ca3) ∧ w'.cell? ⟨w.heap.size + 1 + 1 + 1 + 1, 3, none⟩ = some (.int .i64 gc) ∧ w'.cell? ⟨w.heap.size + 1 + 1 + 1 + 1, 4, none⟩ = some (.int .u64 gz) ∧ w'.cell? ⟨w.heap.size + 1 + 1 + 1 + 1, 5, none⟩ = some (.int .u64 gf) ∧ w'.cell? ⟨w.heap.size + 1 + 1 + 1 + 1, 6, none⟩ = some (.slice B3 gl.length cb3) ∧ w'.cell? ⟨w.heap.size + 1 + 1 + 1 + 1, 7, none⟩ = some (.string ob2) := fun w' h => by
  obtain ⟨e0, e1, e2, e3, e4, e5, e6, e7, e8⟩ := (ha8.kept h).nine
  obtain ⟨f0, f1, f2, f3, f4, f5, f6, f7⟩ := (hc8.kept h).eight
  obtain ⟨g0, g1, g2, g3, g4, g5, g6, g7⟩ := (ho8.kept h).eight
  exact ⟨e0, e1, e2, e3, e4, e5, e6, e7, e8, f0, f1, f2, f3, f4, f5, f6, f7, g0, g1, g2, g3, g4, g5, g6, g7⟩
 have x0 := keep w8 (Below.refl _ _)
 have hq8 : Below w8.heap.size w8 w8.drew := (Below.refl _ w8).drew
 have hB9 : ∀ W, Below w8.heap.size w8 W → Below w.heap.size w W := fun W h => hB8.trans (h.mono hbs)
 clear ha8 hc8 ho8
 go_region_held3 (fun w' => w'.cell? ⟨w.heap.size + 1, 0, none⟩ = some (.int .i64 q0) ∧ w'.cell? ⟨w.heap.size + 1, 1, none⟩ = some (.int .i64 q1) ∧ w'.cell? ⟨w.heap.size + 1, 2, none⟩ = some (.int .i64 q2) ∧ w'.cell? ⟨w.heap.size + 1, 3, none⟩ = some (.slice A ql.length ca) ∧ w'.cell? ⟨w.heap.size + 1, 4, none⟩ = some (.int .i64 q4) ∧ w'.cell? ⟨w.heap.size + 1, 5, none⟩ = some (.int .u64 q5) ∧ w'.cell? ⟨w.heap.size + 1, 6, none⟩ = some (.int .u64 q6) ∧ w'.cell? ⟨w.heap.size + 1, 7, none⟩ = some (.slice B qm.length cb) ∧ w'.cell? ⟨w.heap.size + 1, 8, none⟩ = some (.string q8) ∧ w'.cell? ⟨w.heap.size + 1 + 1 + 1, 0, none⟩ = some (.int .i64 mc) ∧ w'.cell? ⟨w.heap.size + 1 + 1 + 1, 1, none⟩ = some (.int .i64 mi) ∧ w'.cell? ⟨w.heap.size + 1 + 1 + 1, 2, none⟩ = some (.slice A' ml.length ca') ∧ w'.cell? ⟨w.heap.size + 1 + 1 + 1, 3, none⟩ = some (.int .i64 hc) ∧ w'.cell? ⟨w.heap.size + 1 + 1 + 1, 4, none⟩ = some (.int .u64 hz) ∧ w'.cell? ⟨w.heap.size + 1 + 1 + 1, 5, none⟩ = some (.int .u64 hf) ∧ w'.cell? ⟨w.heap.size + 1 + 1 + 1, 6, none⟩ = some (.slice B' hl.length cb') ∧ w'.cell? ⟨w.heap.size + 1 + 1 + 1, 7, none⟩ = some (.string sb) ∧ w'.cell? ⟨w.heap.size + 1 + 1 + 1 + 1, 0, none⟩ = some (.int .i64 nc) ∧ w'.cell? ⟨w.heap.size + 1 + 1 + 1 + 1, 1, none⟩ = some (.int .i64 ni) ∧ w'.cell? ⟨w.heap.size + 1 + 1 + 1 + 1, 2, none⟩ = some (.slice A3 nl.length ca3) ∧ w'.cell? ⟨w.heap.size + 1 + 1 + 1 + 1, 3, none⟩ = some (.int .i64 gc) ∧ w'.cell? ⟨w.heap.size + 1 + 1 + 1 + 1, 4, none⟩ = some (.int .u64 gz) ∧ w'.cell? ⟨w.heap.size + 1 + 1 + 1 + 1, 5, none⟩ = some (.int .u64 gf) ∧ w'.cell? ⟨w.heap.size + 1 + 1 + 1 + 1, 6, none⟩ = some (.slice B3 gl.length cb3) ∧ w'.cell? ⟨w.heap.size + 1 + 1 + 1 + 1, 7, none⟩ = some (.string ob2)) (first | (with_reducible exact keep _ hk5) | (with_reducible exact keep _ hk4) | (with_reducible exact keep _ hk3) | (with_reducible exact keep _ hk2) | (with_reducible exact keep _ hk1) | (with_reducible exact keep _ hq8)) (first | (go_at_call 15; with_reducible refine (hRt w8.drew (hB9 _ hq8)).mono ?_; rintro e v1 ⟨rfl, hr1⟩; have hk1 : Below w8.heap.size w8 v1 := hq8.trans (hr1.mono hq8.size)) | (go_at_call 16; with_reducible refine (hRr v1 (hB9 _ hk1)).mono ?_; rintro e v2 ⟨rfl, hr2⟩; have hk2 : Below w8.heap.size w8 v2 := hk1.trans (hr2.mono hk1.size)) | (go_at_call 17; with_reducible refine (hSc v2 (hB9 _ hk2)).mono ?_; rintro e v3 ⟨rfl, hr3⟩; have hk3 : Below w8.heap.size w8 v3 := hk2.trans (hr3.mono hk2.size)) | (go_at_call 13; with_reducible refine (hSr v3 (hB9 _ hk3)).mono ?_; rintro e v4 ⟨rfl, hr4⟩; have hk4 : Below w8.heap.size w8 v4 := hk3.trans (hr4.mono hk3.size)) | (go_at_call 18; with_reducible refine (hId v4).mono ?_; rintro e v5 ⟨rfl, hr5⟩; have hk5 : Below w8.heap.size w8 v5 := hk4.trans (hr5.mono hk4.size)))
 all_goals
  have hBz := hB9 _ hk5
  go_wp2
  go_ret
  exact ⟨by first | rfl | simp, hBz⟩
end Go.Proofs.YtllgkohgcicbhaaGreatDoor
