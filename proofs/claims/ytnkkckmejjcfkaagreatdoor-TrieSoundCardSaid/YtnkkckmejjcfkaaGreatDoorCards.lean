/-
  DERIVED. GIVEN WITH THE SEED: THE CARDS: each row of YtnkkckmejjcfkaaGreatDoorRows.lean that lists a variable, with what it lists TIED to the program's text (the seventh form; the later family's looks); each row that meets fmt, with fmt's text TOLD by the authors' own Lean function (tested against real Go, not proved from fmt's source: count such statements apart). THE CARD IS WHAT COUNTS. Prove the row's statement (the work); the ties are given (YtnkkckmejjcfkaaGreatDoorTie.lean); close each card by the builder's one call (the guide's Derived/Test/ToyasCard.lean, 'card_holds'). Laid BY PROGRAM, IN A SANDBOX (cutbox-door.mjs). By AI agents, Wed Nov 11 2026. No macro, syntax, notation, axiom, sorry.
-/
import Derived.Test.YtnkkckmejjcfkaaGreatDoorRows
import GoSem.ClaimSeven
namespace Go.Proofs.YtnkkckmejjcfkaaGreatDoor
namespace Rows

/-- THE TIED CARD OF 'voussoirlaw08.TriePlays'. -/
def triePlaysCard : Claim7 := { stood := { row := triePlaysRow, standIns := [], harness := (true, "a70c936901f9f56c9a38b30883480301a5133057fb60032e7c76e54bbac0d38a"), looks := true }, kinds := [], alts := [], laidByText := true, laidKinds := [.data, .data, .widerDeep], laidTests := true, laidLooks := .later }
def TriePlaysCardSaid : Prop := Claim7.holds Tryz.pinned (.plain (OpenSpec.ofChange triePlaysSpec)) triePlaysCard

/-- THE TIED CARD OF 'voussoirlaw08.TrieHolds'. -/
def trieHoldsCard : Claim7 := { stood := { row := trieHoldsRow, standIns := [], harness := (true, "a70c936901f9f56c9a38b30883480301a5133057fb60032e7c76e54bbac0d38a"), looks := true }, kinds := [], alts := [], laidByText := true, laidKinds := [.data, .data, .widerDeep], laidTests := true, laidLooks := .later }
def TrieHoldsCardSaid : Prop := Claim7.holds Tryz.pinned (.plain (OpenSpec.ofChange trieHoldsSpec)) trieHoldsCard

/-- THE TIED CARD OF 'voussoirlaw08.TrieSound'. -/
def trieSoundCard : Claim7 := { stood := { row := trieSoundRow, standIns := [], harness := (true, "a70c936901f9f56c9a38b30883480301a5133057fb60032e7c76e54bbac0d38a"), looks := true }, kinds := [], alts := [], laidByText := true, laidKinds := [.data, .data, .widerDeep], laidTests := true, laidLooks := .later }
def TrieSoundCardSaid : Prop := Claim7.holds Tryz.pinned (.plain (OpenSpec.ofChange trieSoundSpec)) trieSoundCard

/-- THE TIED CARD OF 'voussoirlaw08.TrieRoots'. -/
def trieRootsCard : Claim7 := { stood := { row := trieRootsRow, standIns := [], harness := (true, "a70c936901f9f56c9a38b30883480301a5133057fb60032e7c76e54bbac0d38a"), looks := true }, kinds := [], alts := [], laidByText := true, laidKinds := [.data, .data, .widerDeep], laidTests := true, laidLooks := .later }
def TrieRootsCardSaid : Prop := Claim7.holds Tryz.pinned (.plain (OpenSpec.ofChange trieRootsSpec)) trieRootsCard

/-- THE SECOND FORM's CARD OF 'voussoirlaw08.TriePlays'. -/
def triePlaysUptoCard : Claim7 := { stood := { row := triePlaysUptoRow, standIns := [], harness := (true, "a70c936901f9f56c9a38b30883480301a5133057fb60032e7c76e54bbac0d38a"), looks := true }, kinds := [], alts := [], laidByText := true, laidKinds := [.data, .data, .widerDeep], laidTests := true, laidLooks := .later }
def TriePlaysUptoCardSaid : Prop := Claim7.holds Tryz.pinned (.plain (OpenSpec.upto triePlaysSpec)) triePlaysUptoCard

/-- THE SECOND FORM's CARD OF 'voussoirlaw08.TrieHolds'. -/
def trieHoldsUptoCard : Claim7 := { stood := { row := trieHoldsUptoRow, standIns := [], harness := (true, "a70c936901f9f56c9a38b30883480301a5133057fb60032e7c76e54bbac0d38a"), looks := true }, kinds := [], alts := [], laidByText := true, laidKinds := [.data, .data, .widerDeep], laidTests := true, laidLooks := .later }
def TrieHoldsUptoCardSaid : Prop := Claim7.holds Tryz.pinned (.plain (OpenSpec.upto trieHoldsSpec)) trieHoldsUptoCard

/-- THE SECOND FORM's CARD OF 'voussoirlaw08.TrieSound'. -/
def trieSoundUptoCard : Claim7 := { stood := { row := trieSoundUptoRow, standIns := [], harness := (true, "a70c936901f9f56c9a38b30883480301a5133057fb60032e7c76e54bbac0d38a"), looks := true }, kinds := [], alts := [], laidByText := true, laidKinds := [.data, .data, .widerDeep], laidTests := true, laidLooks := .later }
def TrieSoundUptoCardSaid : Prop := Claim7.holds Tryz.pinned (.plain (OpenSpec.upto trieSoundSpec)) trieSoundUptoCard

/-- THE SECOND FORM's CARD OF 'voussoirlaw08.TrieRoots'. -/
def trieRootsUptoCard : Claim7 := { stood := { row := trieRootsUptoRow, standIns := [], harness := (true, "a70c936901f9f56c9a38b30883480301a5133057fb60032e7c76e54bbac0d38a"), looks := true }, kinds := [], alts := [], laidByText := true, laidKinds := [.data, .data, .widerDeep], laidTests := true, laidLooks := .later }
def TrieRootsUptoCardSaid : Prop := Claim7.holds Tryz.pinned (.plain (OpenSpec.upto trieRootsSpec)) trieRootsUptoCard
end Rows
end Go.Proofs.YtnkkckmejjcfkaaGreatDoor
