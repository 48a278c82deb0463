/-
  DERIVED. GIVEN WITH THE SEED: THE CARDS: each row of YtmceebdaaegkeaaDoorRows.lean that lists a variable, with what it lists TIED to the program's text (the seventh form; the later family's looks); each row that meets fmt, with fmt's text TOLD by the authors' own Lean function (tested against real Go, not proved from fmt's source: count such statements apart). THE CARD IS WHAT COUNTS. Prove the row's statement (the work); the ties are given (YtmceebdaaegkeaaDoorTie.lean); close each card by the builder's one call (the guide's Derived/Test/ToyasCard.lean, 'card_holds'). Laid BY PROGRAM, IN A SANDBOX (cutbox-door.mjs). By AI agents, Wed Nov 11 2026. No macro, syntax, notation, axiom, sorry.
-/
import Derived.Test.YtmceebdaaegkeaaDoorRows
import GoSem.ClaimSeven
namespace Go.Proofs.YtmceebdaaegkeaaDoor
namespace Rows

/-- THE TIED CARD OF 'skifflaw07.SignBack'. -/
def signBackCard : Claim7 := { stood := { row := signBackRow, standIns := [], harness := (true, "3a355b8f88e15f04ff9479a4c71b76297926c36db87f5140a13546dd394c9982"), looks := false }, kinds := [], alts := [], laidByText := true, laidKinds := [.data, .data, .data, .data, .data, .data, .data], laidTests := true, laidLooks := .later }
def SignBackCardSaid : Prop := Claim7.holds Tryd.pinned (.plain (OpenSpec.ofChange signBackSpec)) signBackCard

/-- THE TIED CARD OF 'skifflaw07.SignMixed'. -/
def signMixedCard : Claim7 := { stood := { row := signMixedRow, standIns := [], harness := (true, "3a355b8f88e15f04ff9479a4c71b76297926c36db87f5140a13546dd394c9982"), looks := false }, kinds := [], alts := [], laidByText := true, laidKinds := [.data, .data, .data, .data, .data], laidTests := true, laidLooks := .later }
def SignMixedCardSaid : Prop := Claim7.holds Tryd.pinned (.plain (OpenSpec.ofChange signMixedSpec)) signMixedCard

/-- THE SECOND FORM's CARD OF 'skifflaw07.SignBack'. -/
def signBackUptoCard : Claim7 := { stood := { row := signBackUptoRow, standIns := [], harness := (true, "3a355b8f88e15f04ff9479a4c71b76297926c36db87f5140a13546dd394c9982"), looks := false }, kinds := [], alts := [], laidByText := true, laidKinds := [.data, .data, .data, .data, .data, .data, .data], laidTests := true, laidLooks := .later }
def SignBackUptoCardSaid : Prop := Claim7.holds Tryd.pinned (.plain (OpenSpec.upto signBackSpec)) signBackUptoCard

/-- THE SECOND FORM's CARD OF 'skifflaw07.SignMixed'. -/
def signMixedUptoCard : Claim7 := { stood := { row := signMixedUptoRow, standIns := [], harness := (true, "3a355b8f88e15f04ff9479a4c71b76297926c36db87f5140a13546dd394c9982"), looks := false }, kinds := [], alts := [], laidByText := true, laidKinds := [.data, .data, .data, .data, .data], laidTests := true, laidLooks := .later }
def SignMixedUptoCardSaid : Prop := Claim7.holds Tryd.pinned (.plain (OpenSpec.upto signMixedSpec)) signMixedUptoCard
end Rows
end Go.Proofs.YtmceebdaaegkeaaDoor
