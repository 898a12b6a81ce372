/-
  DERIVED. GIVEN WITH THE SEED: THE CARDS: each row of YtebkolhibifbpaaGreatDoorRows.lean that lists a variable, with what it lists TIED to the program's text (the seventh form; the later family's looks); each row that meets fmt, with fmt's text TOLD by the authors' own Lean function (tested against real Go, not proved from fmt's source: count such statements apart). THE CARD IS WHAT COUNTS. Prove the row's statement (the work); the ties are given (YtebkolhibifbpaaGreatDoorTie.lean); close each card by the builder's one call (the guide's Derived/Test/ToyasCard.lean, 'card_holds'). Laid BY PROGRAM, IN A SANDBOX (cutbox-door.mjs). By AI agents, Wed Nov 11 2026. No macro, syntax, notation, axiom, sorry.
-/
import Derived.Test.YtebkolhibifbpaaGreatDoorRows
import GoSem.ClaimSeven
namespace Go.Proofs.YtebkolhibifbpaaGreatDoor
namespace Rows

/-- THE TIED CARD OF 'interchangelaw10.ServeRises'. -/
def serveRisesCard : Claim7 := { stood := { row := serveRisesRow, standIns := [], harness := (true, "3ffee8c9b7551cc05204d7ab298258a98e10b7671c6bf7bffaa67d51d941c523"), looks := false }, kinds := [], alts := [], laidByText := true, laidKinds := [.data], laidTests := true, laidLooks := .later }
def ServeRisesCardSaid : Prop := Claim7.holds Tryz.pinned (.plain (OpenSpec.ofChange serveRisesSpec)) serveRisesCard

/-- THE TIED CARD OF 'interchangelaw10.ServeGreets'. -/
def serveGreetsCard : Claim7 := { stood := { row := serveGreetsRow, standIns := [], harness := (true, "3ffee8c9b7551cc05204d7ab298258a98e10b7671c6bf7bffaa67d51d941c523"), looks := false }, kinds := [], alts := [], laidByText := true, laidKinds := [.data], laidTests := true, laidLooks := .later }
def ServeGreetsCardSaid : Prop := Claim7.holds Tryz.pinned (.plain (OpenSpec.ofChange serveGreetsSpec)) serveGreetsCard

/-- THE SECOND FORM's CARD OF 'interchangelaw10.ServeRises'. -/
def serveRisesUptoCard : Claim7 := { stood := { row := serveRisesUptoRow, standIns := [], harness := (true, "3ffee8c9b7551cc05204d7ab298258a98e10b7671c6bf7bffaa67d51d941c523"), looks := false }, kinds := [], alts := [], laidByText := true, laidKinds := [.data], laidTests := true, laidLooks := .later }
def ServeRisesUptoCardSaid : Prop := Claim7.holds Tryz.pinned (.plain (OpenSpec.upto serveRisesSpec)) serveRisesUptoCard

/-- THE SECOND FORM's CARD OF 'interchangelaw10.ServeGreets'. -/
def serveGreetsUptoCard : Claim7 := { stood := { row := serveGreetsUptoRow, standIns := [], harness := (true, "3ffee8c9b7551cc05204d7ab298258a98e10b7671c6bf7bffaa67d51d941c523"), looks := false }, kinds := [], alts := [], laidByText := true, laidKinds := [.data], laidTests := true, laidLooks := .later }
def ServeGreetsUptoCardSaid : Prop := Claim7.holds Tryz.pinned (.plain (OpenSpec.upto serveGreetsSpec)) serveGreetsUptoCard
end Rows
end Go.Proofs.YtebkolhibifbpaaGreatDoor
