/-
  The document's own Split and All of chapter 4 answer as the program's; nothing that was there is changed. Conditions: a text of at most 2^32 bytes; frames of at most 2^32 bytes in all.
-/
import Derived.Test.YtjpijggbkiihhaaDoorRFTake
import Derived.Test.YtjpijggbkiihhaaDoorRFRows
import Derived.Test.YtjpijggbkiihhaaDoorRFBytes
namespace Go.Proofs.YtjpijggbkiihhaaDoor
open Go.RowKit

theorem row3_below {w wr w1 : World} {e : TypeId} {size : Nat} {v : Value} {n : Nat} {xs : List Value} {tmp : Obj} (hrow : wr.ownsRow w.heap.size e size v n xs) (hb : Below w.heap.size w wr) (hg : (wr.alloc tmp).grownBy w1 v.ownBlock) : Below w.heap.size w w1 :=
  (hb.alloc hb.size tmp).grown hg (by have := hb.size; simp; omega) (fun j ej => by
    rcases hrow.2 with ⟨rfl, _⟩ | ⟨g, cap, cur, rfl, hbg, _, _⟩
    · simp [Value.ownBlock] at ej
    · obtain rfl : g = j := by simpa [Value.ownBlock] using ej
      exact hbg)

theorem row_kept {W W' : World} {b : Nat} {e : TypeId} {size : Nat} {v : Value} {k : Nat} {xs : List Value} (h : W.ownsRow b e size v k xs) (hb : Below W.heap.size W W') : W'.ownsRow b e size v k xs :=
  h.kept (grown_of_below hb none) (by cases hv : v.ownBlock <;> simp)

set_option maxRecDepth 100000 in
set_option maxHeartbeats 2000000 in
theorem rsplit_any (s : ByteArray) (m : Int) (w : World) (hs : s.size ≤ 4294967296) :
    Calls Tryd.prog 16 #[.string s, .int .i64 m] w fun e w' => ∃ v, e = .returned (.tuple #[v, .string (spR s m), .int .i64 (spE s m)]) ∧ w'.ownsRow w.heap.size 23 3 v (frs s m).1.length (rowFr (frs s m).1) ∧ Below w.heap.size w w' := by
  have H1 := Lib.hid (show spR s m = if (frs s m).2.2 = 2 then (frs s m).2.1 else ⟨#[]⟩ from rfl)
  have H2 := Lib.hid (show spE s m = if (frs s m).2.2 = 2 then 0 else (frs s m).2.2 from rfl)
  have hlen : (frs s m).1.length ≤ 536870912 := by have := (frs_facts m s.size s (Nat.le_refl _)).1; omega
  have HL := Lib.hid hlen
  clear hlen
  obtain ⟨i0, hi, hz0, hz1, hz2⟩ := info_parts3 infoFrame
  go_enter Tryd.func16, Tryd.ntmps16
  go_wp2
  go_loopw [0, 7] (fun p o wr => ∃ (pre : List Fr) (r : ByteArray), p = .string r ∧ r.size ≤ s.size ∧ Hid (frs s m = (pre ++ (frs r m).1, (frs r m).2)) ∧ wr.ownsRow w.heap.size 23 3 o pre.length (rowFr pre) ∧ Below w.heap.size w wr) (fun p _ _ => strLen p)
  case atStart => exact ⟨[], s, rfl, Nat.le_refl _, Lib.hid rfl, World.ownsRow_nil _ _ _ _, Below.refl _ _⟩
  case round =>
    obtain ⟨pre, r, rfl, hle, HX, hown, hb⟩ := hrel
    go_wp2_with fail
    refine (rftake_any r m wr (by omega)).mono ?_
    rintro e w2 ⟨rfl, hb2⟩
    have hown2 := row_kept hown hb2
    have hbr := hb.trans (hb2.mono hb.size)
    clear hb hb2 hown
    rcases frE_cases r m with he | he | he
    · rw [frTakeV_ok he]
      have hq := frs_go he
      have hz := fr_sizes he
      have hseq : frs s m = ((pre ++ [frGot r]) ++ (frs (frRest r) m).1, (frs (frRest r) m).2) := by rw [HX.out, hq]; simp
      have hpl : pre.length + 1 ≤ 536870912 := by have := HL.out; rw [hseq] at this; simp at this; omega
      have HS := Lib.hid hseq
      have HG := Lib.hid (show frGot r = ⟨frCode r, frChan r, ttA 4 (fr2 r)⟩ from rfl)
      have HR : frRest r = takeR (frEnd r) 1 := rfl
      rw [HR] at hz HS
      clear hq hseq HX HR he
      generalize takeR (frEnd r) 1 = y at hz HS ⊢
      generalize frCode r = co at *
      generalize frChan r = ch at *
      generalize ttA 4 (fr2 r) = da at *
      have hown3 := hown2.alloc (.cells #[.int .i64 co, .int .i64 ch, .string da] 23)
      have hb3 := hbr.alloc hbr.size (.cells #[.int .i64 co, .int .i64 ch, .string da] 23)
      have hbs := hb3.size
      clear hown2 hbr
      go_wp2_with (first
        | (at_builtin; refine wpList_append_own _ rfl _ _ 34 rfl w.heap.size 23 i0 (.agg #[.int .i64 0, .int .i64 0, .string ⟨#[]⟩]) 3 32 Tryd.underlying34 hi hz0 hz1 hz2 rfl (by decide) _ _ _ rfl (hown3.alloc _) ⟨w2.heap.size + 1, 0, none⟩ 1 1 [.int .i64 co, .int .i64 ch, .string da] rfl rfl ?cells (by simp [Value.oneCell']) (by unfold maxLen; omega) (by omega) (by simp at hbs ⊢; omega) ?_))
      case cells =>
        have h := cell_three_new (w2.alloc (.cells #[.int .i64 co, .int .i64 ch, .string da] 23)) (.int .i64 co) (.int .i64 ch) (.string da) 23
        rw [World.size_alloc] at h
        exact h
      intro o' w4 hown' hgrow _
      have hb4 := row3_below hown3 hb3 hgrow
      have Hown : Hid (w4.ownsRow w.heap.size 23 3 o' (pre ++ [frGot r]).length (rowFr (pre ++ [frGot r]))) := Lib.hid (by rw [rowFr_snoc, List.length_append, HG.out]; exact hown')
      clear hown' hgrow hown3 hb3
      go_wp2
      go_roundw
      case rel => exact ⟨pre ++ [frGot r], y, rfl, by omega, HS, Hown.out, hb4⟩
      case measure => simp only [strLen]; omega
    · rw [frTakeV_bad he (by decide)]
      have hq := frs_stop (show frE r m ≠ 0 by rw [he]; decide)
      have hseq : frs s m = (pre, r, 2) := by rw [HX.out, hq, he]; simp
      have HR := Lib.hid (show spR s m = r ∧ spE s m = 0 ∧ (frs s m).1 = pre by rw [H1.out, H2.out, hseq]; exact ⟨rfl, rfl, rfl⟩)
      clear hq hseq HX he H1 H2
      have hown3 := hown2.alloc (.cells #[.int .i64 0, .int .i64 0, .string ⟨#[]⟩] 23)
      have hb3 := hbr.alloc hbr.size (.cells #[.int .i64 0, .int .i64 0, .string ⟨#[]⟩] 23)
      go_wp2
      go_ret3
      exact ⟨_, by rw [HR.out.1, HR.out.2.1]; rfl, by rw [HR.out.2.2]; exact hown3, hb3⟩
    · rw [frTakeV_bad he (by decide)]
      have hq := frs_stop (show frE r m ≠ 0 by rw [he]; decide)
      have hseq : frs s m = (pre, r, 6) := by rw [HX.out, hq, he]; simp
      have HR := Lib.hid (show spR s m = ⟨#[]⟩ ∧ spE s m = 6 ∧ (frs s m).1 = pre by rw [H1.out, H2.out, hseq]; exact ⟨rfl, rfl, rfl⟩)
      clear hq hseq HX he H1 H2
      have hown3 := hown2.alloc (.cells #[.int .i64 0, .int .i64 0, .string ⟨#[]⟩] 23)
      have hb3 := hbr.alloc hbr.size (.cells #[.int .i64 0, .int .i64 0, .string ⟨#[]⟩] 23)
      go_wp2
      go_ret3
      exact ⟨_, by rw [HR.out.1, HR.out.2.1]; rfl, by rw [HR.out.2.2]; exact hown3, hb3⟩
end Go.Proofs.YtjpijggbkiihhaaDoor
