/-
  The document's examples, at the head of all statements of layer 2, come out true; nothing that was there is changed. Condition: the package num's table of widths holds 1, 2, 4, 8.
-/
import Derived.Test.YtnaplfekhjjknaaDoorWText
import Derived.Test.YtnaplfekhjjknaaDoorWPairs
namespace Go.Proofs.YtnaplfekhjjknaaDoor
open Go.RowKit

theorem lay_hi : layR 1 ⟨#[104, 105]⟩ = ⟨#[2, 104, 105]⟩ ∧ layE 1 ⟨#[104, 105]⟩ = 0 := ⟨by kernel_rfl, by kernel_rfl⟩
theorem pair_up : pairA ⟨#[0, 117, 0, 112]⟩ = ⟨#[117]⟩ ∧ pairB ⟨#[0, 117, 0, 112]⟩ = ⟨#[112]⟩ ∧ pairOk ⟨#[0, 117, 0, 112]⟩ = true := ⟨by kernel_rfl, by kernel_rfl, by kernel_rfl⟩

theorem tshown_any (w : World) (hw : Wid w) : Calls Tryd.prog 11 #[] w fun e w' => e = .returned (.bool true) ∧ Below w.heap.size w w' := by
  go_enter Tryd.func11, Tryd.ntmps11
  go_wp2_with fail
  refine (short_any ⟨#[104, 105]⟩ w hw (by decide)).mono ?_
  rintro e w1 ⟨rfl, hb⟩
  rw [lay_hi.1, lay_hi.2]
  go_wp2_with fail
  refine (pairs_any ⟨#[0, 117, 0, 112]⟩ w1 (by decide)).mono ?_
  rintro e w2 ⟨rfl, hb2⟩
  rw [pair_up.1, pair_up.2.1, pair_up.2.2]
  go_wp2
  go_ret
  exact ⟨rfl, hb.trans (hb2.mono hb.size)⟩
end Go.Proofs.YtnaplfekhjjknaaDoor
