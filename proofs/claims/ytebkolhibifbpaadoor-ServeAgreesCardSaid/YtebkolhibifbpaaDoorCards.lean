/-
  DERIVED. GIVEN WITH THE SEED: THE CARDS: each row of YtebkolhibifbpaaDoorRows.lean that lists a variable, with what it lists TIED to the program's text (the seventh form; the later family's looks); each row that meets fmt, with fmt's text TOLD by the authors' own Lean function (tested against real Go, not proved from fmt's source: count such statements apart). THE CARD IS WHAT COUNTS. Prove the row's statement (the work); the ties are given (YtebkolhibifbpaaDoorTie.lean); close each card by the builder's one call (the guide's Derived/Test/ToyasCard.lean, 'card_holds'). Laid BY PROGRAM, IN A SANDBOX (cutbox-door.mjs). By AI agents, Wed Nov 11 2026. No macro, syntax, notation, axiom, sorry.
-/
import Derived.Test.YtebkolhibifbpaaDoorRows
import GoSem.ClaimSeven
namespace Go.Proofs.YtebkolhibifbpaaDoor
namespace Rows

/-- THE TIED CARD OF 'interchangelaw10.ServeAgrees'. -/
def serveAgreesCard : Claim7 := { stood := { row := serveAgreesRow, standIns := [], harness := (true, "a928bd16d83b373b9f23d98eab0eb13bb71c21fd10501a7df0348065c2637779"), looks := false }, kinds := [], alts := [], laidByText := true, laidKinds := [.data], laidTests := true, laidLooks := .later }
def ServeAgreesCardSaid : Prop := Claim7.holds Tryd.pinned (.plain (OpenSpec.ofChange serveAgreesSpec)) serveAgreesCard

/-- THE TIED CARD OF 'interchangelaw10.ServeWrong'. -/
def serveWrongCard : Claim7 := { stood := { row := serveWrongRow, standIns := [], harness := (true, "a928bd16d83b373b9f23d98eab0eb13bb71c21fd10501a7df0348065c2637779"), looks := false }, kinds := [], alts := [], laidByText := true, laidKinds := [.data], laidTests := true, laidLooks := .later }
def ServeWrongCardSaid : Prop := Claim7.holds Tryd.pinned (.plain (OpenSpec.ofChange serveWrongSpec)) serveWrongCard

/-- THE TIED CARD OF 'interchangelaw10.ServeNames'. -/
def serveNamesCard : Claim7 := { stood := { row := serveNamesRow, standIns := [], harness := (true, "a928bd16d83b373b9f23d98eab0eb13bb71c21fd10501a7df0348065c2637779"), looks := false }, kinds := [], alts := [], laidByText := true, laidKinds := [.data], laidTests := true, laidLooks := .later }
def ServeNamesCardSaid : Prop := Claim7.holds Tryd.pinned (.plain (OpenSpec.ofChange serveNamesSpec)) serveNamesCard

/-- THE SECOND FORM's CARD OF 'interchangelaw10.ServeAgrees'. -/
def serveAgreesUptoCard : Claim7 := { stood := { row := serveAgreesUptoRow, standIns := [], harness := (true, "a928bd16d83b373b9f23d98eab0eb13bb71c21fd10501a7df0348065c2637779"), looks := false }, kinds := [], alts := [], laidByText := true, laidKinds := [.data], laidTests := true, laidLooks := .later }
def ServeAgreesUptoCardSaid : Prop := Claim7.holds Tryd.pinned (.plain (OpenSpec.upto serveAgreesSpec)) serveAgreesUptoCard

/-- THE SECOND FORM's CARD OF 'interchangelaw10.ServeWrong'. -/
def serveWrongUptoCard : Claim7 := { stood := { row := serveWrongUptoRow, standIns := [], harness := (true, "a928bd16d83b373b9f23d98eab0eb13bb71c21fd10501a7df0348065c2637779"), looks := false }, kinds := [], alts := [], laidByText := true, laidKinds := [.data], laidTests := true, laidLooks := .later }
def ServeWrongUptoCardSaid : Prop := Claim7.holds Tryd.pinned (.plain (OpenSpec.upto serveWrongSpec)) serveWrongUptoCard

/-- THE SECOND FORM's CARD OF 'interchangelaw10.ServeNames'. -/
def serveNamesUptoCard : Claim7 := { stood := { row := serveNamesUptoRow, standIns := [], harness := (true, "a928bd16d83b373b9f23d98eab0eb13bb71c21fd10501a7df0348065c2637779"), looks := false }, kinds := [], alts := [], laidByText := true, laidKinds := [.data], laidTests := true, laidLooks := .later }
def ServeNamesUptoCardSaid : Prop := Claim7.holds Tryd.pinned (.plain (OpenSpec.upto serveNamesSpec)) serveNamesUptoCard
end Rows
end Go.Proofs.YtebkolhibifbpaaDoor
