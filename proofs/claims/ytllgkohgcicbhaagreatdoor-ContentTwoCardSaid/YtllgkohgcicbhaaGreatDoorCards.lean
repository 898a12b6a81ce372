/-
  DERIVED. GIVEN WITH THE SEED: THE CARDS: each row of YtllgkohgcicbhaaGreatDoorRows.lean that lists a variable, with what it lists TIED to the program's text (the seventh form; the later family's looks); each row that meets fmt, with fmt's text TOLD by the authors' own Lean function (tested against real Go, not proved from fmt's source: count such statements apart). THE CARD IS WHAT COUNTS. Prove the row's statement (the work); the ties are given (YtllgkohgcicbhaaGreatDoorTie.lean); close each card by the builder's one call (the guide's Derived/Test/ToyasCard.lean, 'card_holds'). Laid BY PROGRAM, IN A SANDBOX (cutbox-door.mjs). By AI agents, Wed Nov 11 2026. No macro, syntax, notation, axiom, sorry.
-/
import Derived.Test.YtllgkohgcicbhaaGreatDoorRows
import GoSem.ClaimSeven
namespace Go.Proofs.YtllgkohgcicbhaaGreatDoor
namespace Rows

/-- THE TIED CARD OF 'interchangelaw08.ContentFeeds'. -/
def contentFeedsCard : Claim7 := { stood := { row := contentFeedsRow, standIns := [], harness := (true, "00b35ac9161b67be62d4f0f06eeae15192ed359fc17684b6b215c45cf01d477e"), looks := false }, kinds := [], alts := [], laidByText := true, laidKinds := [.data, .data, .data, .pinned], laidTests := true, laidLooks := .later }
def ContentFeedsCardSaid : Prop := Claim7.holds Tryz.pinned (.plain (OpenSpec.ofChange contentFeedsSpec)) contentFeedsCard

/-- THE TIED CARD OF 'interchangelaw08.ContentBack'. -/
def contentBackCard : Claim7 := { stood := { row := contentBackRow, standIns := [], harness := (true, "00b35ac9161b67be62d4f0f06eeae15192ed359fc17684b6b215c45cf01d477e"), looks := false }, kinds := [], alts := [], laidByText := true, laidKinds := [.data, .data, .data, .pinned], laidTests := true, laidLooks := .later }
def ContentBackCardSaid : Prop := Claim7.holds Tryz.pinned (.plain (OpenSpec.ofChange contentBackSpec)) contentBackCard

/-- THE TIED CARD OF 'interchangelaw08.ContentOnly'. -/
def contentOnlyCard : Claim7 := { stood := { row := contentOnlyRow, standIns := [], harness := (true, "00b35ac9161b67be62d4f0f06eeae15192ed359fc17684b6b215c45cf01d477e"), looks := false }, kinds := [], alts := [], laidByText := true, laidKinds := [.data, .data, .data, .pinned], laidTests := true, laidLooks := .later }
def ContentOnlyCardSaid : Prop := Claim7.holds Tryz.pinned (.plain (OpenSpec.ofChange contentOnlySpec)) contentOnlyCard

/-- THE TIED CARD OF 'interchangelaw08.ContentTwo'. -/
def contentTwoCard : Claim7 := { stood := { row := contentTwoRow, standIns := [], harness := (true, "00b35ac9161b67be62d4f0f06eeae15192ed359fc17684b6b215c45cf01d477e"), looks := false }, kinds := [], alts := [], laidByText := true, laidKinds := [.data, .data, .data, .pinned], laidTests := true, laidLooks := .later }
def ContentTwoCardSaid : Prop := Claim7.holds Tryz.pinned (.plain (OpenSpec.ofChange contentTwoSpec)) contentTwoCard

/-- THE SECOND FORM's CARD OF 'interchangelaw08.ContentFeeds'. -/
def contentFeedsUptoCard : Claim7 := { stood := { row := contentFeedsUptoRow, standIns := [], harness := (true, "00b35ac9161b67be62d4f0f06eeae15192ed359fc17684b6b215c45cf01d477e"), looks := false }, kinds := [], alts := [], laidByText := true, laidKinds := [.data, .data, .data, .pinned], laidTests := true, laidLooks := .later }
def ContentFeedsUptoCardSaid : Prop := Claim7.holds Tryz.pinned (.plain (OpenSpec.upto contentFeedsSpec)) contentFeedsUptoCard

/-- THE SECOND FORM's CARD OF 'interchangelaw08.ContentBack'. -/
def contentBackUptoCard : Claim7 := { stood := { row := contentBackUptoRow, standIns := [], harness := (true, "00b35ac9161b67be62d4f0f06eeae15192ed359fc17684b6b215c45cf01d477e"), looks := false }, kinds := [], alts := [], laidByText := true, laidKinds := [.data, .data, .data, .pinned], laidTests := true, laidLooks := .later }
def ContentBackUptoCardSaid : Prop := Claim7.holds Tryz.pinned (.plain (OpenSpec.upto contentBackSpec)) contentBackUptoCard

/-- THE SECOND FORM's CARD OF 'interchangelaw08.ContentOnly'. -/
def contentOnlyUptoCard : Claim7 := { stood := { row := contentOnlyUptoRow, standIns := [], harness := (true, "00b35ac9161b67be62d4f0f06eeae15192ed359fc17684b6b215c45cf01d477e"), looks := false }, kinds := [], alts := [], laidByText := true, laidKinds := [.data, .data, .data, .pinned], laidTests := true, laidLooks := .later }
def ContentOnlyUptoCardSaid : Prop := Claim7.holds Tryz.pinned (.plain (OpenSpec.upto contentOnlySpec)) contentOnlyUptoCard

/-- THE SECOND FORM's CARD OF 'interchangelaw08.ContentTwo'. -/
def contentTwoUptoCard : Claim7 := { stood := { row := contentTwoUptoRow, standIns := [], harness := (true, "00b35ac9161b67be62d4f0f06eeae15192ed359fc17684b6b215c45cf01d477e"), looks := false }, kinds := [], alts := [], laidByText := true, laidKinds := [.data, .data, .data, .pinned], laidTests := true, laidLooks := .later }
def ContentTwoUptoCardSaid : Prop := Claim7.holds Tryz.pinned (.plain (OpenSpec.upto contentTwoSpec)) contentTwoUptoCard
end Rows
end Go.Proofs.YtllgkohgcicbhaaGreatDoor
