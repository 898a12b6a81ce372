/-
  interchangelaw04.FrameRows answers true; nothing that was there is changed. Conditions: the tables of widths and kinds are as their texts lay them; frames of at most 1048576 bytes in all.
-/
import Derived.Test.YtjpijggbkiihhaaDoorWFShown
import Derived.Test.YtjpijggbkiihhaaDoorRFAll
import Derived.Test.YtjpijggbkiihhaaDoorLFramePieces
namespace Go.Proofs.YtjpijggbkiihhaaDoor
open Go.RowKit

theorem all_rows {l : List Fr} (h : ∀ f ∈ l, frRight f = true ∧ f.d.size ≤ 4000) : (frs (allB l) 4096).1 = l ∧ spR (allB l) 4096 = ⟨#[]⟩ ∧ spE (allB l) 4096 = 0 := by
  have e := frs_rows 4096 l (fun f hf => ⟨(h f hf).1, by have := (h f hf).2; have : roomOf 4096 = 4088 := by decide
                                                         omega⟩)
  rw [spR, spE, e]
  exact ⟨rfl, rfl, rfl⟩

set_option maxRecDepth 100000 in
set_option maxHeartbeats 2000000 in
theorem frameRows_walk (A : Option Addr) (c : Nat) (l : List Fr) (w : World) (hw : Wid w) (hk : Kin w) (hA : ValsAt w A (rowFr l)) (hl : frSum l ≤ 1048576) :
    Calls Tryd.prog 6 #[.slice A l.length c] w fun e w' => e = .returned (.bool true) ∧ Below w.heap.size w w' := by
  have hlen := frSum_length l
  have hall := allB_size l
  go_enter Tryd.func6, Tryd.ntmps6
  go_wp2_with fail
  refine (frShown_any w hw hk).mono ?_
  rintro e w1 ⟨rfl, hb1⟩
  go_wp2
  go_loopw [4] (fun v wr => ∃ k : Nat, k ≤ l.length ∧ v = .int .i64 k ∧ Hid (∀ f ∈ l.take k, frRight f = true ∧ f.d.size ≤ 4000) ∧ Below w.heap.size w wr) (fun v _ => l.length - (intOf v).toNat)
  case atStart => exact ⟨0, Nat.zero_le _, rfl, Lib.hid (fun f hf => by simp at hf), hb1⟩
  case round =>
    obtain ⟨k, hk', rfl, HF, hb⟩ := hrel
    clear hb1
    by_cases hlt : k < l.length
    · obtain ⟨b1, o1, rfl, -, g1⟩ := vals_frame hA k hlt
      obtain ⟨c1, c2, c3⟩ := g1 wr hb
      have R := right_any l[k] wr (hk.below hb)
      unfold encFr at R
      have HN := Lib.hid (fun (h1 : frRight l[k] = true) (h2 : l[k].d.size ≤ 4000) => show ∀ f ∈ l.take (k + 1), frRight f = true ∧ f.d.size ≤ 4000 from fun f hf => by
        rw [List.take_succ_eq_append_getElem hlt, List.mem_append] at hf
        rcases hf with hf | hf
        · exact HF.out f hf
        · rw [List.mem_singleton.1 hf]; exact ⟨h1, h2⟩)
      generalize l[k] = f at *
      cases hr : frRight f
      · rw [hr] at R
        clear HN hr
        go_wp2_with fail
        refine R.mono ?_
        rintro e w2 ⟨rfl, hb2⟩
        go_wp2
        go_ret
        exact ⟨rfl, hb.trans (hb2.mono hb.size)⟩
      · rw [hr] at R
        go_wp2_with fail
        refine R.mono ?_
        rintro e w2 ⟨rfl, hb2⟩
        have hb3 := hb.trans (hb2.mono hb.size)
        obtain ⟨d1, d2, d3⟩ := g1 w2 hb3
        clear R c1 c2 c3 hb hb2 g1 d1 d2
        by_cases h4 : 4000 < f.d.size
        · clear HN hr
          go_wp2
          go_ret
          exact ⟨rfl, hb3⟩
        · have HN2 := Lib.hid (HN.out hr (by omega))
          clear HN hr
          go_wp2
          go_roundw
          case rel => exact ⟨k + 1, by omega, by go_num, HN2, hb3⟩
          case measure => simp [intOf]; omega
    · obtain rfl : k = l.length := by omega
      have hr := HF.out
      rw [List.take_length] at hr
      obtain ⟨e1, e2, e3⟩ := all_rows hr
      have SP := fun w (hb) (hk) => split_any (allB l) 4096 w hb hk (by omega)
      have RA := rall_any A c l wr (hA.below hb) hl
      rw [e1, e2, e3] at SP
      clear e1 e2 e3 hr HF
      generalize allB l = s at *
      go_wp2_with fail
      refine RA.mono ?_
      rintro e w2 ⟨rfl, hb2⟩
      have hb3 := hb.trans (hb2.mono hb.size)
      clear RA hb hb2
      go_wp2_with fail
      refine (SP w2 (hw.below hb3) (hk.below hb3)).mono ?_
      rintro e w3 ⟨v, rfl, row, hb4⟩
      have hb5 := hb3.trans (hb4.mono hb3.size)
      clear hb3 hb4 SP
      obtain ⟨A2, q2, rfl, va2, -, -⟩ := vals_of_row3 row
      clear row
      have SM := same_any A2 A q2 c l w3 va2 (hA.below hb5) (by omega)
      go_wp2_with fail
      refine SM.mono ?_
      rintro e w4 ⟨rfl, hb⟩
      have hb6 := hb5.trans (hb.mono hb5.size)
      clear SM va2 hb
      go_wp2
      go_ret
      exact ⟨rfl, hb6⟩
end Go.Proofs.YtjpijggbkiihhaaDoor
