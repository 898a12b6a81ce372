/-
  DERIVED. GIVEN WITH THE SEED: THE CARDS: each row of YtapjpkcollkikaaDoorRows.lean that lists a variable, with what it lists TIED to the program's text (the seventh form; the later family's looks); each row that meets fmt, with fmt's text TOLD by the authors' own Lean function (tested against real Go, not proved from fmt's source: count such statements apart). THE CARD IS WHAT COUNTS. Prove the row's statement (the work); the ties are given (YtapjpkcollkikaaDoorTie.lean); close each card by the builder's one call (the guide's Derived/Test/ToyasCard.lean, 'card_holds'). Laid BY PROGRAM, IN A SANDBOX (cutbox-door.mjs). By AI agents, Wed Nov 11 2026. No macro, syntax, notation, axiom, sorry.
-/
import Derived.Test.YtapjpkcollkikaaDoorRows
import GoSem.ClaimSeven
namespace Go.Proofs.YtapjpkcollkikaaDoor
namespace Rows

/-- THE TIED CARD OF 'interchangelaw05.SigTells'. -/
def sigTellsCard : Claim7 := { stood := { row := sigTellsRow, standIns := [], harness := (true, "dab8025be2b34b0ed7ef566fb59bd1f223b1a83f66ca6c31e26ba1e53b5f61be"), looks := false }, kinds := [], alts := [], laidByText := true, laidKinds := [.data], laidTests := true, laidLooks := .later }
def SigTellsCardSaid : Prop := Claim7.holds Tryd.pinned (.plain (OpenSpec.ofChange sigTellsSpec)) sigTellsCard

/-- THE TIED CARD OF 'interchangelaw05.SigLetters'. -/
def sigLettersCard : Claim7 := { stood := { row := sigLettersRow, standIns := [], harness := (true, "dab8025be2b34b0ed7ef566fb59bd1f223b1a83f66ca6c31e26ba1e53b5f61be"), looks := false }, kinds := [], alts := [], laidByText := true, laidKinds := [.data], laidTests := true, laidLooks := .later }
def SigLettersCardSaid : Prop := Claim7.holds Tryd.pinned (.plain (OpenSpec.ofChange sigLettersSpec)) sigLettersCard

/-- THE TIED CARD OF 'interchangelaw05.SigContents'. -/
def sigContentsCard : Claim7 := { stood := { row := sigContentsRow, standIns := [], harness := (true, "dab8025be2b34b0ed7ef566fb59bd1f223b1a83f66ca6c31e26ba1e53b5f61be"), looks := false }, kinds := [], alts := [], laidByText := true, laidKinds := [.data], laidTests := true, laidLooks := .later }
def SigContentsCardSaid : Prop := Claim7.holds Tryd.pinned (.plain (OpenSpec.ofChange sigContentsSpec)) sigContentsCard

/-- THE SECOND FORM's CARD OF 'interchangelaw05.SigTells'. -/
def sigTellsUptoCard : Claim7 := { stood := { row := sigTellsUptoRow, standIns := [], harness := (true, "dab8025be2b34b0ed7ef566fb59bd1f223b1a83f66ca6c31e26ba1e53b5f61be"), looks := false }, kinds := [], alts := [], laidByText := true, laidKinds := [.data], laidTests := true, laidLooks := .later }
def SigTellsUptoCardSaid : Prop := Claim7.holds Tryd.pinned (.plain (OpenSpec.upto sigTellsSpec)) sigTellsUptoCard

/-- THE SECOND FORM's CARD OF 'interchangelaw05.SigLetters'. -/
def sigLettersUptoCard : Claim7 := { stood := { row := sigLettersUptoRow, standIns := [], harness := (true, "dab8025be2b34b0ed7ef566fb59bd1f223b1a83f66ca6c31e26ba1e53b5f61be"), looks := false }, kinds := [], alts := [], laidByText := true, laidKinds := [.data], laidTests := true, laidLooks := .later }
def SigLettersUptoCardSaid : Prop := Claim7.holds Tryd.pinned (.plain (OpenSpec.upto sigLettersSpec)) sigLettersUptoCard

/-- THE SECOND FORM's CARD OF 'interchangelaw05.SigContents'. -/
def sigContentsUptoCard : Claim7 := { stood := { row := sigContentsUptoRow, standIns := [], harness := (true, "dab8025be2b34b0ed7ef566fb59bd1f223b1a83f66ca6c31e26ba1e53b5f61be"), looks := false }, kinds := [], alts := [], laidByText := true, laidKinds := [.data], laidTests := true, laidLooks := .later }
def SigContentsUptoCardSaid : Prop := Claim7.holds Tryd.pinned (.plain (OpenSpec.upto sigContentsSpec)) sigContentsUptoCard
end Rows
end Go.Proofs.YtapjpkcollkikaaDoor
