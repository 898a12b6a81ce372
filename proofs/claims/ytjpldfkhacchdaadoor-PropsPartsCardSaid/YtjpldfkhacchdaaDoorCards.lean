/-
  DERIVED. GIVEN WITH THE SEED: THE CARDS: each row of YtjpldfkhacchdaaDoorRows.lean that lists a variable, with what it lists TIED to the program's text (the seventh form; the later family's looks); each row that meets fmt, with fmt's text TOLD by the authors' own Lean function (tested against real Go, not proved from fmt's source: count such statements apart). THE CARD IS WHAT COUNTS. Prove the row's statement (the work); the ties are given (YtjpldfkhacchdaaDoorTie.lean); close each card by the builder's one call (the guide's Derived/Test/ToyasCard.lean, 'card_holds'). Laid BY PROGRAM, IN A SANDBOX (cutbox-door.mjs). By AI agents, Wed Nov 11 2026. No macro, syntax, notation, axiom, sorry.
-/
import Derived.Test.YtjpldfkhacchdaaDoorRows
import GoSem.ClaimSeven
namespace Go.Proofs.YtjpldfkhacchdaaDoor
namespace Rows

/-- THE TIED CARD OF 'interchangelaw07.PropsTakes'. -/
def propsTakesCard : Claim7 := { stood := { row := propsTakesRow, standIns := [], harness := (true, "739ba801fd42d9bfd0b0526ebb42549c35323c6668e37b895940308799fd528d"), looks := false }, kinds := [], alts := [], laidByText := true, laidKinds := [.data], laidTests := true, laidLooks := .later }
def PropsTakesCardSaid : Prop := Claim7.holds Tryd.pinned (.plain (OpenSpec.ofChange propsTakesSpec)) propsTakesCard

/-- THE TIED CARD OF 'interchangelaw07.PropsParts'. -/
def propsPartsCard : Claim7 := { stood := { row := propsPartsRow, standIns := [], harness := (true, "739ba801fd42d9bfd0b0526ebb42549c35323c6668e37b895940308799fd528d"), looks := false }, kinds := [], alts := [], laidByText := true, laidKinds := [.data], laidTests := true, laidLooks := .later }
def PropsPartsCardSaid : Prop := Claim7.holds Tryd.pinned (.plain (OpenSpec.ofChange propsPartsSpec)) propsPartsCard

/-- THE TIED CARD OF 'interchangelaw07.PropsBack'. -/
def propsBackCard : Claim7 := { stood := { row := propsBackRow, standIns := [], harness := (true, "739ba801fd42d9bfd0b0526ebb42549c35323c6668e37b895940308799fd528d"), looks := false }, kinds := [], alts := [], laidByText := true, laidKinds := [.data], laidTests := true, laidLooks := .later }
def PropsBackCardSaid : Prop := Claim7.holds Tryd.pinned (.plain (OpenSpec.ofChange propsBackSpec)) propsBackCard

/-- THE TIED CARD OF 'interchangelaw07.PropsSet'. -/
def propsSetCard : Claim7 := { stood := { row := propsSetRow, standIns := [], harness := (true, "739ba801fd42d9bfd0b0526ebb42549c35323c6668e37b895940308799fd528d"), looks := false }, kinds := [], alts := [], laidByText := true, laidKinds := [.data], laidTests := true, laidLooks := .later }
def PropsSetCardSaid : Prop := Claim7.holds Tryd.pinned (.plain (OpenSpec.ofChange propsSetSpec)) propsSetCard

/-- THE TIED CARD OF 'interchangelaw07.PropsTwo'. -/
def propsTwoCard : Claim7 := { stood := { row := propsTwoRow, standIns := [], harness := (true, "739ba801fd42d9bfd0b0526ebb42549c35323c6668e37b895940308799fd528d"), looks := false }, kinds := [], alts := [], laidByText := true, laidKinds := [.data], laidTests := true, laidLooks := .later }
def PropsTwoCardSaid : Prop := Claim7.holds Tryd.pinned (.plain (OpenSpec.ofChange propsTwoSpec)) propsTwoCard

/-- THE TIED CARD OF 'interchangelaw07.PropsMany'. -/
def propsManyCard : Claim7 := { stood := { row := propsManyRow, standIns := [], harness := (true, "739ba801fd42d9bfd0b0526ebb42549c35323c6668e37b895940308799fd528d"), looks := false }, kinds := [], alts := [], laidByText := true, laidKinds := [.data], laidTests := true, laidLooks := .later }
def PropsManyCardSaid : Prop := Claim7.holds Tryd.pinned (.plain (OpenSpec.ofChange propsManySpec)) propsManyCard

/-- THE SECOND FORM's CARD OF 'interchangelaw07.PropsTakes'. -/
def propsTakesUptoCard : Claim7 := { stood := { row := propsTakesUptoRow, standIns := [], harness := (true, "739ba801fd42d9bfd0b0526ebb42549c35323c6668e37b895940308799fd528d"), looks := false }, kinds := [], alts := [], laidByText := true, laidKinds := [.data], laidTests := true, laidLooks := .later }
def PropsTakesUptoCardSaid : Prop := Claim7.holds Tryd.pinned (.plain (OpenSpec.upto propsTakesSpec)) propsTakesUptoCard

/-- THE SECOND FORM's CARD OF 'interchangelaw07.PropsParts'. -/
def propsPartsUptoCard : Claim7 := { stood := { row := propsPartsUptoRow, standIns := [], harness := (true, "739ba801fd42d9bfd0b0526ebb42549c35323c6668e37b895940308799fd528d"), looks := false }, kinds := [], alts := [], laidByText := true, laidKinds := [.data], laidTests := true, laidLooks := .later }
def PropsPartsUptoCardSaid : Prop := Claim7.holds Tryd.pinned (.plain (OpenSpec.upto propsPartsSpec)) propsPartsUptoCard

/-- THE SECOND FORM's CARD OF 'interchangelaw07.PropsBack'. -/
def propsBackUptoCard : Claim7 := { stood := { row := propsBackUptoRow, standIns := [], harness := (true, "739ba801fd42d9bfd0b0526ebb42549c35323c6668e37b895940308799fd528d"), looks := false }, kinds := [], alts := [], laidByText := true, laidKinds := [.data], laidTests := true, laidLooks := .later }
def PropsBackUptoCardSaid : Prop := Claim7.holds Tryd.pinned (.plain (OpenSpec.upto propsBackSpec)) propsBackUptoCard

/-- THE SECOND FORM's CARD OF 'interchangelaw07.PropsSet'. -/
def propsSetUptoCard : Claim7 := { stood := { row := propsSetUptoRow, standIns := [], harness := (true, "739ba801fd42d9bfd0b0526ebb42549c35323c6668e37b895940308799fd528d"), looks := false }, kinds := [], alts := [], laidByText := true, laidKinds := [.data], laidTests := true, laidLooks := .later }
def PropsSetUptoCardSaid : Prop := Claim7.holds Tryd.pinned (.plain (OpenSpec.upto propsSetSpec)) propsSetUptoCard

/-- THE SECOND FORM's CARD OF 'interchangelaw07.PropsTwo'. -/
def propsTwoUptoCard : Claim7 := { stood := { row := propsTwoUptoRow, standIns := [], harness := (true, "739ba801fd42d9bfd0b0526ebb42549c35323c6668e37b895940308799fd528d"), looks := false }, kinds := [], alts := [], laidByText := true, laidKinds := [.data], laidTests := true, laidLooks := .later }
def PropsTwoUptoCardSaid : Prop := Claim7.holds Tryd.pinned (.plain (OpenSpec.upto propsTwoSpec)) propsTwoUptoCard

/-- THE SECOND FORM's CARD OF 'interchangelaw07.PropsMany'. -/
def propsManyUptoCard : Claim7 := { stood := { row := propsManyUptoRow, standIns := [], harness := (true, "739ba801fd42d9bfd0b0526ebb42549c35323c6668e37b895940308799fd528d"), looks := false }, kinds := [], alts := [], laidByText := true, laidKinds := [.data], laidTests := true, laidLooks := .later }
def PropsManyUptoCardSaid : Prop := Claim7.holds Tryd.pinned (.plain (OpenSpec.upto propsManySpec)) propsManyUptoCard
end Rows
end Go.Proofs.YtjpldfkhacchdaaDoor
