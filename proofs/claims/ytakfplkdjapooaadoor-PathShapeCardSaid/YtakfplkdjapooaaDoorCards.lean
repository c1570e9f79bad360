/-
  DERIVED. GIVEN WITH THE SEED: THE CARDS: each row of YtakfplkdjapooaaDoorRows.lean that lists a variable, with what it lists TIED to the program's text (the seventh form; the later family's looks); each row that meets fmt, with fmt's text TOLD by the authors' own Lean function (tested against real Go, not proved from fmt's source: count such statements apart). THE CARD IS WHAT COUNTS. Prove the row's statement (the work); the ties are given (YtakfplkdjapooaaDoorTie.lean); close each card by the builder's one call (the guide's Derived/Test/ToyasCard.lean, 'card_holds'). Laid BY PROGRAM, IN A SANDBOX (cutbox-door.mjs). By AI agents, Wed Nov 11 2026. No macro, syntax, notation, axiom, sorry.
-/
import Derived.Test.YtakfplkdjapooaaDoorRows
import GoSem.ClaimSeven
namespace Go.Proofs.YtakfplkdjapooaaDoor
namespace Rows

/-- THE TIED CARD OF 'voussoirlaw04.PathTells'. -/
def pathTellsCard : Claim7 := { stood := { row := pathTellsRow, standIns := [], harness := (true, "6f4ffea0a065bac428b1f2e45c247f749a82d3eb2598a4a9aa8739981a0ab247"), looks := false }, kinds := [], alts := [], laidByText := true, laidKinds := [.data, .data, .data], laidTests := true, laidLooks := .later }
def PathTellsCardSaid : Prop := Claim7.holds Tryd.pinned (.plain (OpenSpec.ofChange pathTellsSpec)) pathTellsCard

/-- THE TIED CARD OF 'voussoirlaw04.PathBack'. -/
def pathBackCard : Claim7 := { stood := { row := pathBackRow, standIns := [], harness := (true, "6f4ffea0a065bac428b1f2e45c247f749a82d3eb2598a4a9aa8739981a0ab247"), looks := false }, kinds := [], alts := [], laidByText := true, laidKinds := [.data, .data, .data], laidTests := true, laidLooks := .later }
def PathBackCardSaid : Prop := Claim7.holds Tryd.pinned (.plain (OpenSpec.ofChange pathBackSpec)) pathBackCard

/-- THE TIED CARD OF 'voussoirlaw04.PathForth'. -/
def pathForthCard : Claim7 := { stood := { row := pathForthRow, standIns := [], harness := (true, "6f4ffea0a065bac428b1f2e45c247f749a82d3eb2598a4a9aa8739981a0ab247"), looks := false }, kinds := [], alts := [], laidByText := true, laidKinds := [.data, .data, .data], laidTests := true, laidLooks := .later }
def PathForthCardSaid : Prop := Claim7.holds Tryd.pinned (.plain (OpenSpec.ofChange pathForthSpec)) pathForthCard

/-- THE TIED CARD OF 'voussoirlaw04.PathKinds'. -/
def pathKindsCard : Claim7 := { stood := { row := pathKindsRow, standIns := [], harness := (true, "6f4ffea0a065bac428b1f2e45c247f749a82d3eb2598a4a9aa8739981a0ab247"), looks := false }, kinds := [], alts := [], laidByText := true, laidKinds := [.data, .data, .data], laidTests := true, laidLooks := .later }
def PathKindsCardSaid : Prop := Claim7.holds Tryd.pinned (.plain (OpenSpec.ofChange pathKindsSpec)) pathKindsCard

/-- THE TIED CARD OF 'voussoirlaw04.PathShape'. -/
def pathShapeCard : Claim7 := { stood := { row := pathShapeRow, standIns := [], harness := (true, "6f4ffea0a065bac428b1f2e45c247f749a82d3eb2598a4a9aa8739981a0ab247"), looks := false }, kinds := [], alts := [], laidByText := true, laidKinds := [.data, .data, .data], laidTests := true, laidLooks := .later }
def PathShapeCardSaid : Prop := Claim7.holds Tryd.pinned (.plain (OpenSpec.ofChange pathShapeSpec)) pathShapeCard

/-- THE TIED CARD OF 'voussoirlaw04.PathOthers'. -/
def pathOthersCard : Claim7 := { stood := { row := pathOthersRow, standIns := [], harness := (true, "6f4ffea0a065bac428b1f2e45c247f749a82d3eb2598a4a9aa8739981a0ab247"), looks := false }, kinds := [], alts := [], laidByText := true, laidKinds := [.data, .data, .data], laidTests := true, laidLooks := .later }
def PathOthersCardSaid : Prop := Claim7.holds Tryd.pinned (.plain (OpenSpec.ofChange pathOthersSpec)) pathOthersCard

/-- THE SECOND FORM's CARD OF 'voussoirlaw04.PathTells'. -/
def pathTellsUptoCard : Claim7 := { stood := { row := pathTellsUptoRow, standIns := [], harness := (true, "6f4ffea0a065bac428b1f2e45c247f749a82d3eb2598a4a9aa8739981a0ab247"), looks := false }, kinds := [], alts := [], laidByText := true, laidKinds := [.data, .data, .data], laidTests := true, laidLooks := .later }
def PathTellsUptoCardSaid : Prop := Claim7.holds Tryd.pinned (.plain (OpenSpec.upto pathTellsSpec)) pathTellsUptoCard

/-- THE SECOND FORM's CARD OF 'voussoirlaw04.PathBack'. -/
def pathBackUptoCard : Claim7 := { stood := { row := pathBackUptoRow, standIns := [], harness := (true, "6f4ffea0a065bac428b1f2e45c247f749a82d3eb2598a4a9aa8739981a0ab247"), looks := false }, kinds := [], alts := [], laidByText := true, laidKinds := [.data, .data, .data], laidTests := true, laidLooks := .later }
def PathBackUptoCardSaid : Prop := Claim7.holds Tryd.pinned (.plain (OpenSpec.upto pathBackSpec)) pathBackUptoCard

/-- THE SECOND FORM's CARD OF 'voussoirlaw04.PathForth'. -/
def pathForthUptoCard : Claim7 := { stood := { row := pathForthUptoRow, standIns := [], harness := (true, "6f4ffea0a065bac428b1f2e45c247f749a82d3eb2598a4a9aa8739981a0ab247"), looks := false }, kinds := [], alts := [], laidByText := true, laidKinds := [.data, .data, .data], laidTests := true, laidLooks := .later }
def PathForthUptoCardSaid : Prop := Claim7.holds Tryd.pinned (.plain (OpenSpec.upto pathForthSpec)) pathForthUptoCard

/-- THE SECOND FORM's CARD OF 'voussoirlaw04.PathKinds'. -/
def pathKindsUptoCard : Claim7 := { stood := { row := pathKindsUptoRow, standIns := [], harness := (true, "6f4ffea0a065bac428b1f2e45c247f749a82d3eb2598a4a9aa8739981a0ab247"), looks := false }, kinds := [], alts := [], laidByText := true, laidKinds := [.data, .data, .data], laidTests := true, laidLooks := .later }
def PathKindsUptoCardSaid : Prop := Claim7.holds Tryd.pinned (.plain (OpenSpec.upto pathKindsSpec)) pathKindsUptoCard

/-- THE SECOND FORM's CARD OF 'voussoirlaw04.PathShape'. -/
def pathShapeUptoCard : Claim7 := { stood := { row := pathShapeUptoRow, standIns := [], harness := (true, "6f4ffea0a065bac428b1f2e45c247f749a82d3eb2598a4a9aa8739981a0ab247"), looks := false }, kinds := [], alts := [], laidByText := true, laidKinds := [.data, .data, .data], laidTests := true, laidLooks := .later }
def PathShapeUptoCardSaid : Prop := Claim7.holds Tryd.pinned (.plain (OpenSpec.upto pathShapeSpec)) pathShapeUptoCard

/-- THE SECOND FORM's CARD OF 'voussoirlaw04.PathOthers'. -/
def pathOthersUptoCard : Claim7 := { stood := { row := pathOthersUptoRow, standIns := [], harness := (true, "6f4ffea0a065bac428b1f2e45c247f749a82d3eb2598a4a9aa8739981a0ab247"), looks := false }, kinds := [], alts := [], laidByText := true, laidKinds := [.data, .data, .data], laidTests := true, laidLooks := .later }
def PathOthersUptoCardSaid : Prop := Claim7.holds Tryd.pinned (.plain (OpenSpec.upto pathOthersSpec)) pathOthersUptoCard
end Rows
end Go.Proofs.YtakfplkdjapooaaDoor
