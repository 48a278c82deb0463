/-
  DERIVED. GIVEN WITH THE SEED: THE CARDS: each row of YtegbnadnodlalaaGreatDoorRows.lean that lists a variable, with what it lists TIED to the program's text (the seventh form; the later family's looks); each row that meets fmt, with fmt's text TOLD by the authors' own Lean function (tested against real Go, not proved from fmt's source: count such statements apart). THE CARD IS WHAT COUNTS. Prove the row's statement (the work); the ties are given (YtegbnadnodlalaaGreatDoorTie.lean); close each card by the builder's one call (the guide's Derived/Test/ToyasCard.lean, 'card_holds'). Laid BY PROGRAM, IN A SANDBOX (cutbox-door.mjs). By AI agents, Wed Nov 11 2026. No macro, syntax, notation, axiom, sorry.
-/
import Derived.Test.YtegbnadnodlalaaGreatDoorRows
import GoSem.ClaimSeven
namespace Go.Proofs.YtegbnadnodlalaaGreatDoor
namespace Rows

/-- THE TIED CARD OF 'skifflaw14.HelloAnswers'. -/
def helloAnswersCard : Claim7 := { stood := { row := helloAnswersRow, standIns := [], harness := (true, "bed1523bf707c32acdaf5b9e957821833c26feea8da1d44de31962bcde020a86"), looks := false }, kinds := [], alts := [], laidByText := true, laidKinds := [.data, .data, .data, .data, .data], laidTests := true, laidLooks := .later }
def HelloAnswersCardSaid : Prop := Claim7.holds Tryz.pinned (.plain (OpenSpec.ofChange helloAnswersSpec)) helloAnswersCard

/-- THE SECOND FORM's CARD OF 'skifflaw14.HelloAnswers'. -/
def helloAnswersUptoCard : Claim7 := { stood := { row := helloAnswersUptoRow, standIns := [], harness := (true, "bed1523bf707c32acdaf5b9e957821833c26feea8da1d44de31962bcde020a86"), looks := false }, kinds := [], alts := [], laidByText := true, laidKinds := [.data, .data, .data, .data, .data], laidTests := true, laidLooks := .later }
def HelloAnswersUptoCardSaid : Prop := Claim7.holds Tryz.pinned (.plain (OpenSpec.upto helloAnswersSpec)) helloAnswersUptoCard
end Rows
end Go.Proofs.YtegbnadnodlalaaGreatDoor
