/-
  dial.Take: what its plain function answers; nothing that was there is changed. Conditions: as WDial4 has them; user and word have fewer than 2^60 bytes, the texts of the method fewer than 2^62.
-/
import Derived.Test.YtkdiccedkjbpeaaGreatDoorRKH
import Derived.Test.YtkdiccedkjbpeaaGreatDoorRWDial2
import Derived.Test.YtkdiccedkjbpeaaGreatDoorRWDial3
namespace Go.Proofs.YtkdiccedkjbpeaaGreatDoorR
open Go.RowKit

theorem dTake_any (h : Hd) (m : Me) (A : Option Addr) (cap : Nat) (w : World) (hw : Wid w) (hv : wfM m) (hA : ValsAt w A (rowV m.l)) (hb : -9223372036854775808 ≤ h.st ∧ h.st ≤ 9223372036854775807) (hus : h.us.size < 1152921504606846976) (hwo : h.wo.size < 1152921504606846976) (hz : ∀ k, (argV m.l k).s.size < 4611686018427387904) : Calls Tryz.prog 10 #[encHd h, encM m A cap] w (DnPost (dTake h m) w) := by
  by_cases hE : mE m = 0
  · by_cases h1 : h.st = 1
    · rw [show dTake h m = dStart h m by rw [dTake, if_pos hE, if_pos h1]]
      exact dTake_1 h m A cap w hw hv hA hE h1 _ (fun W hW => dStart_any h m A cap W (hw.below hW) hv (hA.below hW) hus hwo hz)
    by_cases h2 : h.st = 2
    · rw [show dTake h m = dTune h m by rw [dTake, if_pos hE, if_neg h1, if_pos h2]]
      exact dTake_2 h m A cap w hw hv hA hE h2 _ (fun W hW => dTune_any h m A cap W (hw.below hW) hv (hA.below hW))
    by_cases h3 : h.st = 3
    · rw [show dTake h m = dOpens h m by rw [dTake, if_pos hE, if_neg h1, if_neg h2, if_pos h3]]
      exact dTake_3 h m A cap w hw hv hA hE h3 _ (fun W hW => dOpen_any h m A cap W (hw.below hW) hv (hA.below hW))
    by_cases h4 : h.st = 4
    · rw [show dTake h m = dRuns h m by rw [dTake, if_pos hE, if_neg h1, if_neg h2, if_neg h3, if_pos h4]]
      exact dTake_4 h m A cap w hw hv hA hE h4 _ (fun W hW => dRun_any h m A cap W (hw.below hW) hv (hA.below hW))
    by_cases h5 : h.st = 5
    · rw [show dTake h m = ofTn (hTake h m) by rw [dTake, if_pos hE, if_neg h1, if_neg h2, if_neg h3, if_neg h4, if_pos (.inl h5)]]
      exact dTake_5 h m A cap w hw hv hA hE h5 _ (fun W hW => dEnds_any h m A cap W (hw.below hW) hv (hA.below hW))
    by_cases h6 : h.st = 6
    · rw [show dTake h m = ofTn (hTake h m) by rw [dTake, if_pos hE, if_neg h1, if_neg h2, if_neg h3, if_neg h4, if_pos (.inr h6)]]
      exact dTake_6 h m A cap w hw hv hA hE h6 _ (fun W hW => dEnds_any h m A cap W (hw.below hW) hv (hA.below hW))
    rw [show dTake h m = dRefuse h 16 by rw [dTake, if_pos hE, if_neg h1, if_neg h2, if_neg h3, if_neg h4, if_neg (fun hh => hh.elim h5 h6)]]
    exact dTake_out h m A cap w hw hv hA hE hb (by omega)
  · rw [show dTake h m = dRefuse h 7 by rw [dTake, if_neg hE]]
    exact dTake_bad h m A cap w hw hv hA hE
end Go.Proofs.YtkdiccedkjbpeaaGreatDoorR
