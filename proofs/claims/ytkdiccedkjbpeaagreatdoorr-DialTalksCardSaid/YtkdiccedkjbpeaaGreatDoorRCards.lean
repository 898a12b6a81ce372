/-
  DERIVED. GIVEN WITH THE SEED: THE CARDS: each row of YtkdiccedkjbpeaaGreatDoorRRows.lean that lists a variable, with what it lists TIED to the program's text (the seventh form; the later family's looks); each row that meets fmt, with fmt's text TOLD by the authors' own Lean function (tested against real Go, not proved from fmt's source: count such statements apart). THE CARD IS WHAT COUNTS. Prove the row's statement (the work); the ties are given (YtkdiccedkjbpeaaGreatDoorRTie.lean); close each card by the builder's one call (the guide's Derived/Test/ToyasCard.lean, 'card_holds'). Laid BY PROGRAM, IN A SANDBOX (cutbox-door.mjs). By AI agents, Wed Nov 11 2026. No macro, syntax, notation, axiom, sorry.
-/
import Derived.Test.YtkdiccedkjbpeaaGreatDoorRRows
import GoSem.ClaimSeven
namespace Go.Proofs.YtkdiccedkjbpeaaGreatDoorR
namespace Rows

/-- THE TIED CARD OF 'interchangelaw11.DialTalks'. -/
def dialTalksCard : Claim7 := { stood := { row := dialTalksRow, standIns := [], harness := (true, "661ae0086bd6603f59438ef519b13d787d90468117acc3647ee3006ee94071de"), looks := false }, kinds := [], alts := [], laidByText := true, laidKinds := [.data], laidTests := true, laidLooks := .later }
def DialTalksCardSaid : Prop := Claim7.holds Tryz.pinned (.plain (OpenSpec.ofChange dialTalksSpec)) dialTalksCard

/-- THE TIED CARD OF 'interchangelaw11.DialRises'. -/
def dialRisesCard : Claim7 := { stood := { row := dialRisesRow, standIns := [], harness := (true, "661ae0086bd6603f59438ef519b13d787d90468117acc3647ee3006ee94071de"), looks := false }, kinds := [], alts := [], laidByText := true, laidKinds := [.data], laidTests := true, laidLooks := .later }
def DialRisesCardSaid : Prop := Claim7.holds Tryz.pinned (.plain (OpenSpec.ofChange dialRisesSpec)) dialRisesCard

/-- THE TIED CARD OF 'interchangelaw11.DialWrong'. -/
def dialWrongCard : Claim7 := { stood := { row := dialWrongRow, standIns := [], harness := (true, "661ae0086bd6603f59438ef519b13d787d90468117acc3647ee3006ee94071de"), looks := false }, kinds := [], alts := [], laidByText := true, laidKinds := [.data], laidTests := true, laidLooks := .later }
def DialWrongCardSaid : Prop := Claim7.holds Tryz.pinned (.plain (OpenSpec.ofChange dialWrongSpec)) dialWrongCard

/-- THE SECOND FORM's CARD OF 'interchangelaw11.DialTalks'. -/
def dialTalksUptoCard : Claim7 := { stood := { row := dialTalksUptoRow, standIns := [], harness := (true, "661ae0086bd6603f59438ef519b13d787d90468117acc3647ee3006ee94071de"), looks := false }, kinds := [], alts := [], laidByText := true, laidKinds := [.data], laidTests := true, laidLooks := .later }
def DialTalksUptoCardSaid : Prop := Claim7.holds Tryz.pinned (.plain (OpenSpec.upto dialTalksSpec)) dialTalksUptoCard

/-- THE SECOND FORM's CARD OF 'interchangelaw11.DialRises'. -/
def dialRisesUptoCard : Claim7 := { stood := { row := dialRisesUptoRow, standIns := [], harness := (true, "661ae0086bd6603f59438ef519b13d787d90468117acc3647ee3006ee94071de"), looks := false }, kinds := [], alts := [], laidByText := true, laidKinds := [.data], laidTests := true, laidLooks := .later }
def DialRisesUptoCardSaid : Prop := Claim7.holds Tryz.pinned (.plain (OpenSpec.upto dialRisesSpec)) dialRisesUptoCard

/-- THE SECOND FORM's CARD OF 'interchangelaw11.DialWrong'. -/
def dialWrongUptoCard : Claim7 := { stood := { row := dialWrongUptoRow, standIns := [], harness := (true, "661ae0086bd6603f59438ef519b13d787d90468117acc3647ee3006ee94071de"), looks := false }, kinds := [], alts := [], laidByText := true, laidKinds := [.data], laidTests := true, laidLooks := .later }
def DialWrongUptoCardSaid : Prop := Claim7.holds Tryz.pinned (.plain (OpenSpec.upto dialWrongSpec)) dialWrongUptoCard
end Rows
end Go.Proofs.YtkdiccedkjbpeaaGreatDoorR
