/-
  DERIVED. GIVEN WITH THE SEED: THE CARDS: each row of YtaclpijcfgniiaaGreatDoorRows.lean that lists a variable, with what it lists TIED to the program's text (the seventh form; the later family's looks); each row that meets fmt, with fmt's text TOLD by the authors' own Lean function (tested against real Go, not proved from fmt's source: count such statements apart). THE CARD IS WHAT COUNTS. Prove the row's statement (the work); the ties are given (YtaclpijcfgniiaaGreatDoorTie.lean); close each card by the builder's one call (the guide's Derived/Test/ToyasCard.lean, 'card_holds'). Laid BY PROGRAM, IN A SANDBOX (cutbox-door.mjs). By AI agents, Wed Nov 11 2026. No macro, syntax, notation, axiom, sorry.
-/
import Derived.Test.YtaclpijcfgniiaaGreatDoorRows
import GoSem.ClaimSeven
namespace Go.Proofs.YtaclpijcfgniiaaGreatDoor
namespace Rows

/-- THE TIED CARD OF 'interchangelaw06.MethodTakes'. -/
def methodTakesCard : Claim7 := { stood := { row := methodTakesRow, standIns := [], harness := (true, "9a5e37d8d89cc054aa24dd8b66b927e7af2b81b84961fbe676733a4e4034188c"), looks := false }, kinds := [], alts := [], laidByText := true, laidKinds := [.data, .data, .pinned], laidTests := true, laidLooks := .later }
def MethodTakesCardSaid : Prop := Claim7.holds Tryz.pinned (.plain (OpenSpec.ofChange methodTakesSpec)) methodTakesCard

/-- THE SECOND FORM's CARD OF 'interchangelaw06.MethodTakes'. -/
def methodTakesUptoCard : Claim7 := { stood := { row := methodTakesUptoRow, standIns := [], harness := (true, "9a5e37d8d89cc054aa24dd8b66b927e7af2b81b84961fbe676733a4e4034188c"), looks := false }, kinds := [], alts := [], laidByText := true, laidKinds := [.data, .data, .pinned], laidTests := true, laidLooks := .later }
def MethodTakesUptoCardSaid : Prop := Claim7.holds Tryz.pinned (.plain (OpenSpec.upto methodTakesSpec)) methodTakesUptoCard
end Rows
end Go.Proofs.YtaclpijcfgniiaaGreatDoor
