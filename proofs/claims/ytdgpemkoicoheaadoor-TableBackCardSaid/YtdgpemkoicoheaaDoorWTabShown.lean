/-
  The document's example of chapter 3, and the empty table; the law's own look at the example answers true. Condition: the package num's table of widths holds 1, 2, 4, 8.
-/
import Derived.Test.YtdgpemkoicoheaaDoorWMake
namespace Go.Proofs.YtdgpemkoicoheaaDoor
open Go.RowKit

theorem val_flat_lit {s t : ByteArray} {c : Int} (room : Int) (h1 : takeOk s 1 = true) (h2 : takeV s 1 = c) (h3 : takeR s 1 = t) (hk : kindV c = -1 ∨ 0 ≤ kindV c) : val s room = flat t (kindV c) := by
  have := val_flat room h1 (by rw [h2]; exact hk)
  rwa [h2, h3] at this
theorem shown_val : val ⟨#[116, 1]⟩ 32 = ⟨0, ⟨#[]⟩, 0⟩ := by
  rw [val_flat_lit (c := 116) (t := ⟨#[1]⟩) 32 (by decide) (by decide) (by decide) (by decide)]
  have e : kindV 116 = 1 := by decide
  rw [e, flat, if_neg (by decide)]
  have e1 : skipB ⟨#[1]⟩ 1 = ⟨#[]⟩ := by decide
  have e2 : skipE ⟨#[1]⟩ 1 = 0 := by decide
  rw [e1, e2]
theorem shown_make : makeE [⟨#[97]⟩] [⟨#[116, 1]⟩] = 0 ∧ makeR [⟨#[97]⟩] [⟨#[116, 1]⟩] = ⟨#[0, 0, 0, 4, 1, 97, 116, 1]⟩ := by
  have ez : ([⟨#[97]⟩] : List ByteArray).zip ([⟨#[116, 1]⟩] : List ByteArray) = ([(⟨#[97]⟩, ⟨#[116, 1]⟩)] : Pairs) := rfl
  have hp : pairE ⟨#[97]⟩ ⟨#[116, 1]⟩ = 0 := by
    rw [pairE, if_pos (by decide), shown_val]
    rfl
  have he : pairsErr [(⟨#[97]⟩, ⟨#[116, 1]⟩)] = 0 := by rw [pairsErr, if_pos hp, pairsErr]
  have hb : pairsBody [(⟨#[97]⟩, ⟨#[116, 1]⟩)] = ⟨#[1, 97, 116, 1]⟩ := by decide
  have hd : pairsDeep [(⟨#[97]⟩, ⟨#[116, 1]⟩)] = 0 := by
    rw [pairsDeep, shown_val]
    rfl
  have h0 : makeE [⟨#[97]⟩] [⟨#[116, 1]⟩] = 0 := by
    have el : ([⟨#[97]⟩] : List ByteArray).length = ([⟨#[116, 1]⟩] : List ByteArray).length := rfl
    rw [makeE, if_pos el, ez, if_pos he, hb, if_pos (by decide), hd]
    rfl
  refine ⟨h0, ?_⟩
  rw [makeR, if_pos h0, ez, hb]
  decide
theorem empty_make : makeE [] [] = 0 ∧ makeR [] [] = ⟨#[0, 0, 0, 0]⟩ := by
  have hb : pairsBody [] = ⟨#[]⟩ := rfl
  have h0 : makeE [] [] = 0 := by
    have el : ([] : List ByteArray).length = ([] : List ByteArray).length := rfl
    have he : pairsErr [] = 0 := rfl
    have hd : pairsDeep [] = 0 := rfl
    rw [makeE, if_pos el, List.zip_nil_left, if_pos he, hb, if_pos (by decide), hd]
    rfl
  refine ⟨h0, ?_⟩
  rw [makeR, if_pos h0, List.zip_nil_left, hb]
  decide
/-- the empty table is one deep, and has no fields -/
theorem empty_nest : aloneD (nest true ⟨#[0, 0, 0, 0]⟩ 32) = 1 ∧ aloneE (nest true ⟨#[0, 0, 0, 0]⟩ 32) = 0 ∧ tabFs ⟨#[0, 0, 0, 0]⟩ = [] := by
  have h := make_taken empty_make.1 ⟨#[]⟩
  have hi := make_items empty_make.1
  rw [ba_append_empty, empty_make.2] at h
  rw [empty_make.2] at hi
  rw [h]
  exact ⟨rfl, rfl, hi⟩

set_option maxHeartbeats 1000000 in
theorem tabShown_any (w : World) (hw : Wid w) :
    Calls Tryd.prog 10 #[] w fun e w' => e = .returned (.bool true) ∧ Below w.heap.size w w' := by
  have hb0 : Below w.heap.size w ((w.alloc (.cells #[.string ⟨#[97]⟩] 9)).alloc (.cells #[.string ⟨#[116, 1]⟩] 9)) := ((Below.refl _ w).alloc (Nat.le_refl _) _).alloc (by simp) _
  have v1 : ValsAt ((w.alloc (.cells #[.string ⟨#[97]⟩] 9)).alloc (.cells #[.string ⟨#[116, 1]⟩] 9)) (some ⟨w.heap.size, 0, none⟩) ([⟨#[97]⟩].map Value.string) := fun _ =>
    ⟨w.heap.size, 0, rfl, by simp; omega, fun i hi => by
      obtain rfl : i = 0 := by simp at hi; omega
      exact ((Boxed.new w 9 (.string ⟨#[97]⟩)).alloc _).cell⟩
  have v2 : ValsAt ((w.alloc (.cells #[.string ⟨#[97]⟩] 9)).alloc (.cells #[.string ⟨#[116, 1]⟩] 9)) (some ⟨w.heap.size + 1, 0, none⟩) ([⟨#[116, 1]⟩].map Value.string) := fun _ =>
    ⟨w.heap.size + 1, 0, rfl, by simp, fun i hi => by
      obtain rfl : i = 0 := by simp at hi; omega
      have h := Boxed.new (w.alloc (.cells #[.string ⟨#[97]⟩] 9)) 9 (.string ⟨#[116, 1]⟩)
      rw [World.size_alloc] at h
      exact h.cell⟩
  have HS := Lib.hid shown_make
  go_enter Tryd.func10, Tryd.ntmps10
  go_wp2_with fail
  refine (make_any (some ⟨w.heap.size, 0, none⟩) (some ⟨w.heap.size + 1, 0, none⟩) 1 1 1 1 [⟨#[97]⟩] [⟨#[116, 1]⟩] _ (hw.below hb0) rfl rfl (by omega) v1 v2 (by decide)).mono ?_
  rintro e w1 ⟨rfl, hb⟩
  rw [HS.out.1, HS.out.2]
  go_wp2
  go_ret
  exact ⟨rfl, hb0.trans (hb.mono hb0.size)⟩
end Go.Proofs.YtdgpemkoicoheaaDoor
