/-
  DERIVED. GIVEN WITH THE SEED: THE CARDS: each row of YtaebhecnekdcfaaDoorRows.lean that lists a variable, with what it lists TIED to the program's text (the seventh form; the later family's looks); each row that meets fmt, with fmt's text TOLD by the authors' own Lean function (tested against real Go, not proved from fmt's source: count such statements apart). THE CARD IS WHAT COUNTS. Prove the row's statement (the work); the ties are given (YtaebhecnekdcfaaDoorTie.lean); close each card by the builder's one call (the guide's Derived/Test/ToyasCard.lean, 'card_holds'). Laid BY PROGRAM, IN A SANDBOX (cutbox-door.mjs). By AI agents, Wed Nov 11 2026. No macro, syntax, notation, axiom, sorry.
-/
import Derived.Test.YtaebhecnekdcfaaDoorRows
import GoSem.ClaimSeven
namespace Go.Proofs.YtaebhecnekdcfaaDoor
namespace Rows

/-- THE TIED CARD OF 'voussoirlaw03.AmountTells'. -/
def amountTellsCard : Claim7 := { stood := { row := amountTellsRow, standIns := [], harness := (true, "8a41861e9ae3b48779e832b7bd860de094f5c8c4f3cc93b88c4b18df4533855b"), looks := false }, kinds := [], alts := [], laidByText := true, laidKinds := [.data, .data, .data], laidTests := true, laidLooks := .later }
def AmountTellsCardSaid : Prop := Claim7.holds Tryd.pinned (.plain (OpenSpec.ofChange amountTellsSpec)) amountTellsCard

/-- THE TIED CARD OF 'voussoirlaw03.AmountBack'. -/
def amountBackCard : Claim7 := { stood := { row := amountBackRow, standIns := [], harness := (true, "8a41861e9ae3b48779e832b7bd860de094f5c8c4f3cc93b88c4b18df4533855b"), looks := false }, kinds := [], alts := [], laidByText := true, laidKinds := [.data, .data, .data], laidTests := true, laidLooks := .later }
def AmountBackCardSaid : Prop := Claim7.holds Tryd.pinned (.plain (OpenSpec.ofChange amountBackSpec)) amountBackCard

/-- THE TIED CARD OF 'voussoirlaw03.AmountSums'. -/
def amountSumsCard : Claim7 := { stood := { row := amountSumsRow, standIns := [], harness := (true, "8a41861e9ae3b48779e832b7bd860de094f5c8c4f3cc93b88c4b18df4533855b"), looks := false }, kinds := [], alts := [], laidByText := true, laidKinds := [.data, .data, .data], laidTests := true, laidLooks := .later }
def AmountSumsCardSaid : Prop := Claim7.holds Tryd.pinned (.plain (OpenSpec.ofChange amountSumsSpec)) amountSumsCard

/-- THE TIED CARD OF 'voussoirlaw03.AmountDigits'. -/
def amountDigitsCard : Claim7 := { stood := { row := amountDigitsRow, standIns := [], harness := (true, "8a41861e9ae3b48779e832b7bd860de094f5c8c4f3cc93b88c4b18df4533855b"), looks := false }, kinds := [], alts := [], laidByText := true, laidKinds := [.data, .data, .data], laidTests := true, laidLooks := .later }
def AmountDigitsCardSaid : Prop := Claim7.holds Tryd.pinned (.plain (OpenSpec.ofChange amountDigitsSpec)) amountDigitsCard

/-- THE TIED CARD OF 'voussoirlaw03.AmountOrder'. -/
def amountOrderCard : Claim7 := { stood := { row := amountOrderRow, standIns := [], harness := (true, "8a41861e9ae3b48779e832b7bd860de094f5c8c4f3cc93b88c4b18df4533855b"), looks := false }, kinds := [], alts := [], laidByText := true, laidKinds := [.data, .data, .data], laidTests := true, laidLooks := .later }
def AmountOrderCardSaid : Prop := Claim7.holds Tryd.pinned (.plain (OpenSpec.ofChange amountOrderSpec)) amountOrderCard

/-- THE TIED CARD OF 'voussoirlaw03.AmountRefuses'. -/
def amountRefusesCard : Claim7 := { stood := { row := amountRefusesRow, standIns := [], harness := (true, "8a41861e9ae3b48779e832b7bd860de094f5c8c4f3cc93b88c4b18df4533855b"), looks := false }, kinds := [], alts := [], laidByText := true, laidKinds := [.data, .data, .data], laidTests := true, laidLooks := .later }
def AmountRefusesCardSaid : Prop := Claim7.holds Tryd.pinned (.plain (OpenSpec.ofChange amountRefusesSpec)) amountRefusesCard

/-- THE SECOND FORM's CARD OF 'voussoirlaw03.AmountTells'. -/
def amountTellsUptoCard : Claim7 := { stood := { row := amountTellsUptoRow, standIns := [], harness := (true, "8a41861e9ae3b48779e832b7bd860de094f5c8c4f3cc93b88c4b18df4533855b"), looks := false }, kinds := [], alts := [], laidByText := true, laidKinds := [.data, .data, .data], laidTests := true, laidLooks := .later }
def AmountTellsUptoCardSaid : Prop := Claim7.holds Tryd.pinned (.plain (OpenSpec.upto amountTellsSpec)) amountTellsUptoCard

/-- THE SECOND FORM's CARD OF 'voussoirlaw03.AmountBack'. -/
def amountBackUptoCard : Claim7 := { stood := { row := amountBackUptoRow, standIns := [], harness := (true, "8a41861e9ae3b48779e832b7bd860de094f5c8c4f3cc93b88c4b18df4533855b"), looks := false }, kinds := [], alts := [], laidByText := true, laidKinds := [.data, .data, .data], laidTests := true, laidLooks := .later }
def AmountBackUptoCardSaid : Prop := Claim7.holds Tryd.pinned (.plain (OpenSpec.upto amountBackSpec)) amountBackUptoCard

/-- THE SECOND FORM's CARD OF 'voussoirlaw03.AmountSums'. -/
def amountSumsUptoCard : Claim7 := { stood := { row := amountSumsUptoRow, standIns := [], harness := (true, "8a41861e9ae3b48779e832b7bd860de094f5c8c4f3cc93b88c4b18df4533855b"), looks := false }, kinds := [], alts := [], laidByText := true, laidKinds := [.data, .data, .data], laidTests := true, laidLooks := .later }
def AmountSumsUptoCardSaid : Prop := Claim7.holds Tryd.pinned (.plain (OpenSpec.upto amountSumsSpec)) amountSumsUptoCard

/-- THE SECOND FORM's CARD OF 'voussoirlaw03.AmountDigits'. -/
def amountDigitsUptoCard : Claim7 := { stood := { row := amountDigitsUptoRow, standIns := [], harness := (true, "8a41861e9ae3b48779e832b7bd860de094f5c8c4f3cc93b88c4b18df4533855b"), looks := false }, kinds := [], alts := [], laidByText := true, laidKinds := [.data, .data, .data], laidTests := true, laidLooks := .later }
def AmountDigitsUptoCardSaid : Prop := Claim7.holds Tryd.pinned (.plain (OpenSpec.upto amountDigitsSpec)) amountDigitsUptoCard

/-- THE SECOND FORM's CARD OF 'voussoirlaw03.AmountOrder'. -/
def amountOrderUptoCard : Claim7 := { stood := { row := amountOrderUptoRow, standIns := [], harness := (true, "8a41861e9ae3b48779e832b7bd860de094f5c8c4f3cc93b88c4b18df4533855b"), looks := false }, kinds := [], alts := [], laidByText := true, laidKinds := [.data, .data, .data], laidTests := true, laidLooks := .later }
def AmountOrderUptoCardSaid : Prop := Claim7.holds Tryd.pinned (.plain (OpenSpec.upto amountOrderSpec)) amountOrderUptoCard

/-- THE SECOND FORM's CARD OF 'voussoirlaw03.AmountRefuses'. -/
def amountRefusesUptoCard : Claim7 := { stood := { row := amountRefusesUptoRow, standIns := [], harness := (true, "8a41861e9ae3b48779e832b7bd860de094f5c8c4f3cc93b88c4b18df4533855b"), looks := false }, kinds := [], alts := [], laidByText := true, laidKinds := [.data, .data, .data], laidTests := true, laidLooks := .later }
def AmountRefusesUptoCardSaid : Prop := Claim7.holds Tryd.pinned (.plain (OpenSpec.upto amountRefusesSpec)) amountRefusesUptoCard
end Rows
end Go.Proofs.YtaebhecnekdcfaaDoor
