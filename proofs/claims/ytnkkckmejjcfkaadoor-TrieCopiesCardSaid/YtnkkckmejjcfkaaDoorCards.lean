/-
  DERIVED. GIVEN WITH THE SEED: THE CARDS: each row of YtnkkckmejjcfkaaDoorRows.lean that lists a variable, with what it lists TIED to the program's text (the seventh form; the later family's looks); each row that meets fmt, with fmt's text TOLD by the authors' own Lean function (tested against real Go, not proved from fmt's source: count such statements apart). THE CARD IS WHAT COUNTS. Prove the row's statement (the work); the ties are given (YtnkkckmejjcfkaaDoorTie.lean); close each card by the builder's one call (the guide's Derived/Test/ToyasCard.lean, 'card_holds'). Laid BY PROGRAM, IN A SANDBOX (cutbox-door.mjs). By AI agents, Wed Nov 11 2026. No macro, syntax, notation, axiom, sorry.
-/
import Derived.Test.YtnkkckmejjcfkaaDoorRows
import GoSem.ClaimSeven
namespace Go.Proofs.YtnkkckmejjcfkaaDoor
namespace Rows

/-- THE TIED CARD OF 'voussoirlaw08.TrieTells'. -/
def trieTellsCard : Claim7 := { stood := { row := trieTellsRow, standIns := [], harness := (true, "a020ef45886e8ba89937f43cae95dc39d81462a5802d4c26d857c216831b64fe"), looks := true }, kinds := [], alts := [], laidByText := true, laidKinds := [.data, .data, .widerDeep], laidTests := true, laidLooks := .later }
def TrieTellsCardSaid : Prop := Claim7.holds Tryd.pinned (.plain (OpenSpec.ofChange trieTellsSpec)) trieTellsCard

/-- THE TIED CARD OF 'voussoirlaw08.TrieProves'. -/
def trieProvesCard : Claim7 := { stood := { row := trieProvesRow, standIns := [], harness := (true, "a020ef45886e8ba89937f43cae95dc39d81462a5802d4c26d857c216831b64fe"), looks := true }, kinds := [], alts := [], laidByText := true, laidKinds := [.data, .data, .widerDeep], laidTests := true, laidLooks := .later }
def TrieProvesCardSaid : Prop := Claim7.holds Tryd.pinned (.plain (OpenSpec.ofChange trieProvesSpec)) trieProvesCard

/-- THE TIED CARD OF 'voussoirlaw08.TrieOrder'. -/
def trieOrderCard : Claim7 := { stood := { row := trieOrderRow, standIns := [], harness := (true, "a020ef45886e8ba89937f43cae95dc39d81462a5802d4c26d857c216831b64fe"), looks := true }, kinds := [], alts := [], laidByText := true, laidKinds := [.data, .data, .widerDeep], laidTests := true, laidLooks := .later }
def TrieOrderCardSaid : Prop := Claim7.holds Tryd.pinned (.plain (OpenSpec.ofChange trieOrderSpec)) trieOrderCard

/-- THE TIED CARD OF 'voussoirlaw08.TrieApart'. -/
def trieApartCard : Claim7 := { stood := { row := trieApartRow, standIns := [], harness := (true, "a020ef45886e8ba89937f43cae95dc39d81462a5802d4c26d857c216831b64fe"), looks := true }, kinds := [], alts := [], laidByText := true, laidKinds := [.data, .data, .widerDeep], laidTests := true, laidLooks := .later }
def TrieApartCardSaid : Prop := Claim7.holds Tryd.pinned (.plain (OpenSpec.ofChange trieApartSpec)) trieApartCard

/-- THE TIED CARD OF 'voussoirlaw08.TrieModel'. -/
def trieModelCard : Claim7 := { stood := { row := trieModelRow, standIns := [], harness := (true, "a020ef45886e8ba89937f43cae95dc39d81462a5802d4c26d857c216831b64fe"), looks := true }, kinds := [], alts := [], laidByText := true, laidKinds := [.data, .data, .widerDeep], laidTests := true, laidLooks := .later }
def TrieModelCardSaid : Prop := Claim7.holds Tryd.pinned (.plain (OpenSpec.ofChange trieModelSpec)) trieModelCard

/-- THE TIED CARD OF 'voussoirlaw08.TrieBack'. -/
def trieBackCard : Claim7 := { stood := { row := trieBackRow, standIns := [], harness := (true, "a020ef45886e8ba89937f43cae95dc39d81462a5802d4c26d857c216831b64fe"), looks := true }, kinds := [], alts := [], laidByText := true, laidKinds := [.data, .data, .widerDeep], laidTests := true, laidLooks := .later }
def TrieBackCardSaid : Prop := Claim7.holds Tryd.pinned (.plain (OpenSpec.ofChange trieBackSpec)) trieBackCard

/-- THE TIED CARD OF 'voussoirlaw08.TrieCopies'. -/
def trieCopiesCard : Claim7 := { stood := { row := trieCopiesRow, standIns := [], harness := (true, "a020ef45886e8ba89937f43cae95dc39d81462a5802d4c26d857c216831b64fe"), looks := true }, kinds := [], alts := [], laidByText := true, laidKinds := [.data, .data, .widerDeep], laidTests := true, laidLooks := .later }
def TrieCopiesCardSaid : Prop := Claim7.holds Tryd.pinned (.plain (OpenSpec.ofChange trieCopiesSpec)) trieCopiesCard

/-- THE TIED CARD OF 'voussoirlaw08.TrieForm'. -/
def trieFormCard : Claim7 := { stood := { row := trieFormRow, standIns := [], harness := (true, "a020ef45886e8ba89937f43cae95dc39d81462a5802d4c26d857c216831b64fe"), looks := true }, kinds := [], alts := [], laidByText := true, laidKinds := [.data, .data, .widerDeep], laidTests := true, laidLooks := .later }
def TrieFormCardSaid : Prop := Claim7.holds Tryd.pinned (.plain (OpenSpec.ofChange trieFormSpec)) trieFormCard

/-- THE SECOND FORM's CARD OF 'voussoirlaw08.TrieTells'. -/
def trieTellsUptoCard : Claim7 := { stood := { row := trieTellsUptoRow, standIns := [], harness := (true, "a020ef45886e8ba89937f43cae95dc39d81462a5802d4c26d857c216831b64fe"), looks := true }, kinds := [], alts := [], laidByText := true, laidKinds := [.data, .data, .widerDeep], laidTests := true, laidLooks := .later }
def TrieTellsUptoCardSaid : Prop := Claim7.holds Tryd.pinned (.plain (OpenSpec.upto trieTellsSpec)) trieTellsUptoCard

/-- THE SECOND FORM's CARD OF 'voussoirlaw08.TrieProves'. -/
def trieProvesUptoCard : Claim7 := { stood := { row := trieProvesUptoRow, standIns := [], harness := (true, "a020ef45886e8ba89937f43cae95dc39d81462a5802d4c26d857c216831b64fe"), looks := true }, kinds := [], alts := [], laidByText := true, laidKinds := [.data, .data, .widerDeep], laidTests := true, laidLooks := .later }
def TrieProvesUptoCardSaid : Prop := Claim7.holds Tryd.pinned (.plain (OpenSpec.upto trieProvesSpec)) trieProvesUptoCard

/-- THE SECOND FORM's CARD OF 'voussoirlaw08.TrieOrder'. -/
def trieOrderUptoCard : Claim7 := { stood := { row := trieOrderUptoRow, standIns := [], harness := (true, "a020ef45886e8ba89937f43cae95dc39d81462a5802d4c26d857c216831b64fe"), looks := true }, kinds := [], alts := [], laidByText := true, laidKinds := [.data, .data, .widerDeep], laidTests := true, laidLooks := .later }
def TrieOrderUptoCardSaid : Prop := Claim7.holds Tryd.pinned (.plain (OpenSpec.upto trieOrderSpec)) trieOrderUptoCard

/-- THE SECOND FORM's CARD OF 'voussoirlaw08.TrieApart'. -/
def trieApartUptoCard : Claim7 := { stood := { row := trieApartUptoRow, standIns := [], harness := (true, "a020ef45886e8ba89937f43cae95dc39d81462a5802d4c26d857c216831b64fe"), looks := true }, kinds := [], alts := [], laidByText := true, laidKinds := [.data, .data, .widerDeep], laidTests := true, laidLooks := .later }
def TrieApartUptoCardSaid : Prop := Claim7.holds Tryd.pinned (.plain (OpenSpec.upto trieApartSpec)) trieApartUptoCard

/-- THE SECOND FORM's CARD OF 'voussoirlaw08.TrieModel'. -/
def trieModelUptoCard : Claim7 := { stood := { row := trieModelUptoRow, standIns := [], harness := (true, "a020ef45886e8ba89937f43cae95dc39d81462a5802d4c26d857c216831b64fe"), looks := true }, kinds := [], alts := [], laidByText := true, laidKinds := [.data, .data, .widerDeep], laidTests := true, laidLooks := .later }
def TrieModelUptoCardSaid : Prop := Claim7.holds Tryd.pinned (.plain (OpenSpec.upto trieModelSpec)) trieModelUptoCard

/-- THE SECOND FORM's CARD OF 'voussoirlaw08.TrieBack'. -/
def trieBackUptoCard : Claim7 := { stood := { row := trieBackUptoRow, standIns := [], harness := (true, "a020ef45886e8ba89937f43cae95dc39d81462a5802d4c26d857c216831b64fe"), looks := true }, kinds := [], alts := [], laidByText := true, laidKinds := [.data, .data, .widerDeep], laidTests := true, laidLooks := .later }
def TrieBackUptoCardSaid : Prop := Claim7.holds Tryd.pinned (.plain (OpenSpec.upto trieBackSpec)) trieBackUptoCard

/-- THE SECOND FORM's CARD OF 'voussoirlaw08.TrieCopies'. -/
def trieCopiesUptoCard : Claim7 := { stood := { row := trieCopiesUptoRow, standIns := [], harness := (true, "a020ef45886e8ba89937f43cae95dc39d81462a5802d4c26d857c216831b64fe"), looks := true }, kinds := [], alts := [], laidByText := true, laidKinds := [.data, .data, .widerDeep], laidTests := true, laidLooks := .later }
def TrieCopiesUptoCardSaid : Prop := Claim7.holds Tryd.pinned (.plain (OpenSpec.upto trieCopiesSpec)) trieCopiesUptoCard

/-- THE SECOND FORM's CARD OF 'voussoirlaw08.TrieForm'. -/
def trieFormUptoCard : Claim7 := { stood := { row := trieFormUptoRow, standIns := [], harness := (true, "a020ef45886e8ba89937f43cae95dc39d81462a5802d4c26d857c216831b64fe"), looks := true }, kinds := [], alts := [], laidByText := true, laidKinds := [.data, .data, .widerDeep], laidTests := true, laidLooks := .later }
def TrieFormUptoCardSaid : Prop := Claim7.holds Tryd.pinned (.plain (OpenSpec.upto trieFormSpec)) trieFormUptoCard
end Rows
end Go.Proofs.YtnkkckmejjcfkaaDoor
