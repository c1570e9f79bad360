/-
  DERIVED. GIVEN WITH THE SEED: THE CARDS: each row of YtnbaoihamjdjdaaGreatDoorRows.lean that lists a variable, with what it lists TIED to the program's text (the seventh form; the later family's looks); each row that meets fmt, with fmt's text TOLD by the authors' own Lean function (tested against real Go, not proved from fmt's source: count such statements apart). THE CARD IS WHAT COUNTS. Prove the row's statement (the work); the ties are given (YtnbaoihamjdjdaaGreatDoorTie.lean); close each card by the builder's one call (the guide's Derived/Test/ToyasCard.lean, 'card_holds'). Laid BY PROGRAM, IN A SANDBOX (cutbox-door.mjs). By AI agents, Wed Nov 11 2026. No macro, syntax, notation, axiom, sorry.
-/
import Derived.Test.YtnbaoihamjdjdaaGreatDoorRows
import GoSem.ClaimSeven
namespace Go.Proofs.YtnbaoihamjdjdaaGreatDoor
namespace Rows

/-- THE TIED CARD OF 'voussoirlaw07.SignerPlays'. -/
def signerPlaysCard : Claim7 := { stood := { row := signerPlaysRow, standIns := [], harness := (true, "7ceca982af17c9012a5ca10c7102af2ccbc30e14d3b2b3554790ced2893c8e24"), looks := false }, kinds := [], alts := [], laidByText := true, laidKinds := [.data, .data, .widerDeep], laidTests := true, laidLooks := .later }
def SignerPlaysCardSaid : Prop := Claim7.holds Tryz.pinned (.plain (OpenSpec.ofChange signerPlaysSpec)) signerPlaysCard

/-- THE TIED CARD OF 'voussoirlaw07.SignerVerifies'. -/
def signerVerifiesCard : Claim7 := { stood := { row := signerVerifiesRow, standIns := [], harness := (true, "7ceca982af17c9012a5ca10c7102af2ccbc30e14d3b2b3554790ced2893c8e24"), looks := false }, kinds := [], alts := [], laidByText := true, laidKinds := [.data, .data, .widerDeep], laidTests := true, laidLooks := .later }
def SignerVerifiesCardSaid : Prop := Claim7.holds Tryz.pinned (.plain (OpenSpec.ofChange signerVerifiesSpec)) signerVerifiesCard

/-- THE SECOND FORM's CARD OF 'voussoirlaw07.SignerPlays'. -/
def signerPlaysUptoCard : Claim7 := { stood := { row := signerPlaysUptoRow, standIns := [], harness := (true, "7ceca982af17c9012a5ca10c7102af2ccbc30e14d3b2b3554790ced2893c8e24"), looks := false }, kinds := [], alts := [], laidByText := true, laidKinds := [.data, .data, .widerDeep], laidTests := true, laidLooks := .later }
def SignerPlaysUptoCardSaid : Prop := Claim7.holds Tryz.pinned (.plain (OpenSpec.upto signerPlaysSpec)) signerPlaysUptoCard

/-- THE SECOND FORM's CARD OF 'voussoirlaw07.SignerVerifies'. -/
def signerVerifiesUptoCard : Claim7 := { stood := { row := signerVerifiesUptoRow, standIns := [], harness := (true, "7ceca982af17c9012a5ca10c7102af2ccbc30e14d3b2b3554790ced2893c8e24"), looks := false }, kinds := [], alts := [], laidByText := true, laidKinds := [.data, .data, .widerDeep], laidTests := true, laidLooks := .later }
def SignerVerifiesUptoCardSaid : Prop := Claim7.holds Tryz.pinned (.plain (OpenSpec.upto signerVerifiesSpec)) signerVerifiesUptoCard
end Rows
end Go.Proofs.YtnbaoihamjdjdaaGreatDoor
