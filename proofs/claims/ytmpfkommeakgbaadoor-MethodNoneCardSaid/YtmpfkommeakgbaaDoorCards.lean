/-
  DERIVED. GIVEN WITH THE SEED: THE CARDS: each row of YtmpfkommeakgbaaDoorRows.lean that lists a variable, with what it lists TIED to the program's text (the seventh form; the later family's looks); each row that meets fmt, with fmt's text TOLD by the authors' own Lean function (tested against real Go, not proved from fmt's source: count such statements apart). THE CARD IS WHAT COUNTS. Prove the row's statement (the work); the ties are given (YtmpfkommeakgbaaDoorTie.lean); close each card by the builder's one call (the guide's Derived/Test/ToyasCard.lean, 'card_holds'). Laid BY PROGRAM, IN A SANDBOX (cutbox-door.mjs). By AI agents, Wed Nov 11 2026. No macro, syntax, notation, axiom, sorry.
-/
import Derived.Test.YtmpfkommeakgbaaDoorRows
import GoSem.ClaimSeven
namespace Go.Proofs.YtmpfkommeakgbaaDoor
namespace Rows

/-- THE TIED CARD OF 'interchangelaw06.MethodArgs'. -/
def methodArgsCard : Claim7 := { stood := { row := methodArgsRow, standIns := [], harness := (true, "5c57cb9834822acd15b1143466ff632b4f495c738bc03e575e2be29f5613327f"), looks := false }, kinds := [], alts := [], laidByText := true, laidKinds := [.data], laidTests := true, laidLooks := .later }
def MethodArgsCardSaid : Prop := Claim7.holds Tryd.pinned (.plain (OpenSpec.ofChange methodArgsSpec)) methodArgsCard

/-- THE TIED CARD OF 'interchangelaw06.MethodBack'. -/
def methodBackCard : Claim7 := { stood := { row := methodBackRow, standIns := [], harness := (true, "5c57cb9834822acd15b1143466ff632b4f495c738bc03e575e2be29f5613327f"), looks := false }, kinds := [], alts := [], laidByText := true, laidKinds := [.data, .data, .pinned], laidTests := true, laidLooks := .later }
def MethodBackCardSaid : Prop := Claim7.holds Tryd.pinned (.plain (OpenSpec.ofChange methodBackSpec)) methodBackCard

/-- THE TIED CARD OF 'interchangelaw06.MethodCut'. -/
def methodCutCard : Claim7 := { stood := { row := methodCutRow, standIns := [], harness := (true, "5c57cb9834822acd15b1143466ff632b4f495c738bc03e575e2be29f5613327f"), looks := false }, kinds := [], alts := [], laidByText := true, laidKinds := [.data, .data, .pinned], laidTests := true, laidLooks := .later }
def MethodCutCardSaid : Prop := Claim7.holds Tryd.pinned (.plain (OpenSpec.ofChange methodCutSpec)) methodCutCard

/-- THE TIED CARD OF 'interchangelaw06.MethodOne'. -/
def methodOneCard : Claim7 := { stood := { row := methodOneRow, standIns := [], harness := (true, "5c57cb9834822acd15b1143466ff632b4f495c738bc03e575e2be29f5613327f"), looks := false }, kinds := [], alts := [], laidByText := true, laidKinds := [.data], laidTests := true, laidLooks := .later }
def MethodOneCardSaid : Prop := Claim7.holds Tryd.pinned (.plain (OpenSpec.ofChange methodOneSpec)) methodOneCard

/-- THE TIED CARD OF 'interchangelaw06.MethodNone'. -/
def methodNoneCard : Claim7 := { stood := { row := methodNoneRow, standIns := [], harness := (true, "5c57cb9834822acd15b1143466ff632b4f495c738bc03e575e2be29f5613327f"), looks := false }, kinds := [], alts := [], laidByText := true, laidKinds := [.data], laidTests := true, laidLooks := .later }
def MethodNoneCardSaid : Prop := Claim7.holds Tryd.pinned (.plain (OpenSpec.ofChange methodNoneSpec)) methodNoneCard

/-- THE TIED CARD OF 'interchangelaw06.MethodApart'. -/
def methodApartCard : Claim7 := { stood := { row := methodApartRow, standIns := [], harness := (true, "5c57cb9834822acd15b1143466ff632b4f495c738bc03e575e2be29f5613327f"), looks := false }, kinds := [], alts := [], laidByText := true, laidKinds := [.data], laidTests := true, laidLooks := .later }
def MethodApartCardSaid : Prop := Claim7.holds Tryd.pinned (.plain (OpenSpec.ofChange methodApartSpec)) methodApartCard

/-- THE TIED CARD OF 'interchangelaw06.MethodArg'. -/
def methodArgCard : Claim7 := { stood := { row := methodArgRow, standIns := [], harness := (true, "5c57cb9834822acd15b1143466ff632b4f495c738bc03e575e2be29f5613327f"), looks := false }, kinds := [], alts := [], laidByText := true, laidKinds := [.data], laidTests := true, laidLooks := .later }
def MethodArgCardSaid : Prop := Claim7.holds Tryd.pinned (.plain (OpenSpec.ofChange methodArgSpec)) methodArgCard

/-- THE SECOND FORM's CARD OF 'interchangelaw06.MethodArgs'. -/
def methodArgsUptoCard : Claim7 := { stood := { row := methodArgsUptoRow, standIns := [], harness := (true, "5c57cb9834822acd15b1143466ff632b4f495c738bc03e575e2be29f5613327f"), looks := false }, kinds := [], alts := [], laidByText := true, laidKinds := [.data], laidTests := true, laidLooks := .later }
def MethodArgsUptoCardSaid : Prop := Claim7.holds Tryd.pinned (.plain (OpenSpec.upto methodArgsSpec)) methodArgsUptoCard

/-- THE SECOND FORM's CARD OF 'interchangelaw06.MethodBack'. -/
def methodBackUptoCard : Claim7 := { stood := { row := methodBackUptoRow, standIns := [], harness := (true, "5c57cb9834822acd15b1143466ff632b4f495c738bc03e575e2be29f5613327f"), looks := false }, kinds := [], alts := [], laidByText := true, laidKinds := [.data, .data, .pinned], laidTests := true, laidLooks := .later }
def MethodBackUptoCardSaid : Prop := Claim7.holds Tryd.pinned (.plain (OpenSpec.upto methodBackSpec)) methodBackUptoCard

/-- THE SECOND FORM's CARD OF 'interchangelaw06.MethodCut'. -/
def methodCutUptoCard : Claim7 := { stood := { row := methodCutUptoRow, standIns := [], harness := (true, "5c57cb9834822acd15b1143466ff632b4f495c738bc03e575e2be29f5613327f"), looks := false }, kinds := [], alts := [], laidByText := true, laidKinds := [.data, .data, .pinned], laidTests := true, laidLooks := .later }
def MethodCutUptoCardSaid : Prop := Claim7.holds Tryd.pinned (.plain (OpenSpec.upto methodCutSpec)) methodCutUptoCard

/-- THE SECOND FORM's CARD OF 'interchangelaw06.MethodOne'. -/
def methodOneUptoCard : Claim7 := { stood := { row := methodOneUptoRow, standIns := [], harness := (true, "5c57cb9834822acd15b1143466ff632b4f495c738bc03e575e2be29f5613327f"), looks := false }, kinds := [], alts := [], laidByText := true, laidKinds := [.data], laidTests := true, laidLooks := .later }
def MethodOneUptoCardSaid : Prop := Claim7.holds Tryd.pinned (.plain (OpenSpec.upto methodOneSpec)) methodOneUptoCard

/-- THE SECOND FORM's CARD OF 'interchangelaw06.MethodNone'. -/
def methodNoneUptoCard : Claim7 := { stood := { row := methodNoneUptoRow, standIns := [], harness := (true, "5c57cb9834822acd15b1143466ff632b4f495c738bc03e575e2be29f5613327f"), looks := false }, kinds := [], alts := [], laidByText := true, laidKinds := [.data], laidTests := true, laidLooks := .later }
def MethodNoneUptoCardSaid : Prop := Claim7.holds Tryd.pinned (.plain (OpenSpec.upto methodNoneSpec)) methodNoneUptoCard

/-- THE SECOND FORM's CARD OF 'interchangelaw06.MethodApart'. -/
def methodApartUptoCard : Claim7 := { stood := { row := methodApartUptoRow, standIns := [], harness := (true, "5c57cb9834822acd15b1143466ff632b4f495c738bc03e575e2be29f5613327f"), looks := false }, kinds := [], alts := [], laidByText := true, laidKinds := [.data], laidTests := true, laidLooks := .later }
def MethodApartUptoCardSaid : Prop := Claim7.holds Tryd.pinned (.plain (OpenSpec.upto methodApartSpec)) methodApartUptoCard

/-- THE SECOND FORM's CARD OF 'interchangelaw06.MethodArg'. -/
def methodArgUptoCard : Claim7 := { stood := { row := methodArgUptoRow, standIns := [], harness := (true, "5c57cb9834822acd15b1143466ff632b4f495c738bc03e575e2be29f5613327f"), looks := false }, kinds := [], alts := [], laidByText := true, laidKinds := [.data], laidTests := true, laidLooks := .later }
def MethodArgUptoCardSaid : Prop := Claim7.holds Tryd.pinned (.plain (OpenSpec.upto methodArgSpec)) methodArgUptoCard
end Rows
end Go.Proofs.YtmpfkommeakgbaaDoor
