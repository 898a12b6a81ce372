/-
  The document's example of chapter 4: the law's own look at it answers true. Conditions: the tables of widths and kinds are as their texts lay them.
-/
import Derived.Test.YtjpijggbkiihhaaDoorWBytes
import Derived.Test.YtjpijggbkiihhaaDoorWBegin
namespace Go.Proofs.YtjpijggbkiihhaaDoor
open Go.RowKit

def frBeat : Fr := ⟨8, 0, ⟨#[]⟩⟩
theorem beat_bytes : frBytes frBeat = ⟨#[8, 0, 0, 0, 0, 0, 0, 206]⟩ := by decide
theorem beat_right : frRight frBeat = true := by decide
theorem beat_bytesE : frBytesE frBeat = 0 := by decide

set_option maxHeartbeats 1000000 in
theorem frShown_any (w : World) (hw : Wid w) (hk : Kin w) :
    Calls Tryd.prog 10 #[] w fun e w' => e = .returned (.bool true) ∧ Below w.heap.size w w' := by
  go_enter Tryd.func10, Tryd.ntmps10
  go_wp2_with fail
  refine (frbytes_any frBeat w hw hk).mono ?_
  rintro e w1 ⟨rfl, hb1⟩
  rw [beat_bytes, beat_bytesE]
  go_wp2_with fail
  refine (header_any _).mono ?_
  rintro e w2 ⟨rfl, rfl⟩
  go_wp2
  go_ret
  exact ⟨rfl, hb1⟩
end Go.Proofs.YtjpijggbkiihhaaDoor
