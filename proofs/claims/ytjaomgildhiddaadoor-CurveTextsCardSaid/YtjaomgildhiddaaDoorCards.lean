/-
  DERIVED. GIVEN WITH THE SEED: THE CARDS: each row of YtjaomgildhiddaaDoorRows.lean that lists a variable, with what it lists TIED to the program's text (the seventh form; the later family's looks); each row that meets fmt, with fmt's text TOLD by the authors' own Lean function (tested against real Go, not proved from fmt's source: count such statements apart). THE CARD IS WHAT COUNTS. Prove the row's statement (the work); the ties are given (YtjaomgildhiddaaDoorTie.lean); close each card by the builder's one call (the guide's Derived/Test/ToyasCard.lean, 'card_holds'). Laid BY PROGRAM, IN A SANDBOX (cutbox-door.mjs). By AI agents, Wed Nov 11 2026. No macro, syntax, notation, axiom, sorry.
-/
import Derived.Test.YtjaomgildhiddaaDoorRows
import GoSem.ClaimSeven
namespace Go.Proofs.YtjaomgildhiddaaDoor
namespace Rows

/-- THE TIED CARD OF 'skifflaw06.CurveTexts'. -/
def curveTextsCard : Claim7 := { stood := { row := curveTextsRow, standIns := [], harness := (true, "39bcf81dffb4cb47e237308254fb53b996fcbd7f7b69faced7eacf15d6d8151c"), looks := false }, kinds := [], alts := [], laidByText := true, laidKinds := [.data, .data], laidTests := true, laidLooks := .later }
def CurveTextsCardSaid : Prop := Claim7.holds Tryd.pinned (.plain (OpenSpec.ofChange curveTextsSpec)) curveTextsCard

/-- THE TIED CARD OF 'skifflaw06.CurveSums'. -/
def curveSumsCard : Claim7 := { stood := { row := curveSumsRow, standIns := [], harness := (true, "39bcf81dffb4cb47e237308254fb53b996fcbd7f7b69faced7eacf15d6d8151c"), looks := false }, kinds := [], alts := [], laidByText := true, laidKinds := [.data, .data, .data], laidTests := true, laidLooks := .later }
def CurveSumsCardSaid : Prop := Claim7.holds Tryd.pinned (.plain (OpenSpec.ofChange curveSumsSpec)) curveSumsCard

/-- THE TIED CARD OF 'skifflaw06.CurveTimes'. -/
def curveTimesCard : Claim7 := { stood := { row := curveTimesRow, standIns := [], harness := (true, "39bcf81dffb4cb47e237308254fb53b996fcbd7f7b69faced7eacf15d6d8151c"), looks := false }, kinds := [], alts := [], laidByText := true, laidKinds := [.data, .data, .data], laidTests := true, laidLooks := .later }
def CurveTimesCardSaid : Prop := Claim7.holds Tryd.pinned (.plain (OpenSpec.ofChange curveTimesSpec)) curveTimesCard

/-- THE TIED CARD OF 'skifflaw06.CurveLaws'. -/
def curveLawsCard : Claim7 := { stood := { row := curveLawsRow, standIns := [], harness := (true, "39bcf81dffb4cb47e237308254fb53b996fcbd7f7b69faced7eacf15d6d8151c"), looks := false }, kinds := [], alts := [], laidByText := true, laidKinds := [.data, .data, .data], laidTests := true, laidLooks := .later }
def CurveLawsCardSaid : Prop := Claim7.holds Tryd.pinned (.plain (OpenSpec.ofChange curveLawsSpec)) curveLawsCard

/-- THE TIED CARD OF 'skifflaw06.CurveSame'. -/
def curveSameCard : Claim7 := { stood := { row := curveSameRow, standIns := [], harness := (true, "39bcf81dffb4cb47e237308254fb53b996fcbd7f7b69faced7eacf15d6d8151c"), looks := false }, kinds := [], alts := [], laidByText := true, laidKinds := [.data, .data, .data], laidTests := true, laidLooks := .later }
def CurveSameCardSaid : Prop := Claim7.holds Tryd.pinned (.plain (OpenSpec.ofChange curveSameSpec)) curveSameCard

/-- THE TIED CARD OF 'skifflaw06.CurveEight'. -/
def curveEightCard : Claim7 := { stood := { row := curveEightRow, standIns := [], harness := (true, "39bcf81dffb4cb47e237308254fb53b996fcbd7f7b69faced7eacf15d6d8151c"), looks := false }, kinds := [], alts := [], laidByText := true, laidKinds := [.data, .data, .data], laidTests := true, laidLooks := .later }
def CurveEightCardSaid : Prop := Claim7.holds Tryd.pinned (.plain (OpenSpec.ofChange curveEightSpec)) curveEightCard

/-- THE SECOND FORM's CARD OF 'skifflaw06.CurveTexts'. -/
def curveTextsUptoCard : Claim7 := { stood := { row := curveTextsUptoRow, standIns := [], harness := (true, "39bcf81dffb4cb47e237308254fb53b996fcbd7f7b69faced7eacf15d6d8151c"), looks := false }, kinds := [], alts := [], laidByText := true, laidKinds := [.data, .data], laidTests := true, laidLooks := .later }
def CurveTextsUptoCardSaid : Prop := Claim7.holds Tryd.pinned (.plain (OpenSpec.upto curveTextsSpec)) curveTextsUptoCard

/-- THE SECOND FORM's CARD OF 'skifflaw06.CurveSums'. -/
def curveSumsUptoCard : Claim7 := { stood := { row := curveSumsUptoRow, standIns := [], harness := (true, "39bcf81dffb4cb47e237308254fb53b996fcbd7f7b69faced7eacf15d6d8151c"), looks := false }, kinds := [], alts := [], laidByText := true, laidKinds := [.data, .data, .data], laidTests := true, laidLooks := .later }
def CurveSumsUptoCardSaid : Prop := Claim7.holds Tryd.pinned (.plain (OpenSpec.upto curveSumsSpec)) curveSumsUptoCard

/-- THE SECOND FORM's CARD OF 'skifflaw06.CurveTimes'. -/
def curveTimesUptoCard : Claim7 := { stood := { row := curveTimesUptoRow, standIns := [], harness := (true, "39bcf81dffb4cb47e237308254fb53b996fcbd7f7b69faced7eacf15d6d8151c"), looks := false }, kinds := [], alts := [], laidByText := true, laidKinds := [.data, .data, .data], laidTests := true, laidLooks := .later }
def CurveTimesUptoCardSaid : Prop := Claim7.holds Tryd.pinned (.plain (OpenSpec.upto curveTimesSpec)) curveTimesUptoCard

/-- THE SECOND FORM's CARD OF 'skifflaw06.CurveLaws'. -/
def curveLawsUptoCard : Claim7 := { stood := { row := curveLawsUptoRow, standIns := [], harness := (true, "39bcf81dffb4cb47e237308254fb53b996fcbd7f7b69faced7eacf15d6d8151c"), looks := false }, kinds := [], alts := [], laidByText := true, laidKinds := [.data, .data, .data], laidTests := true, laidLooks := .later }
def CurveLawsUptoCardSaid : Prop := Claim7.holds Tryd.pinned (.plain (OpenSpec.upto curveLawsSpec)) curveLawsUptoCard

/-- THE SECOND FORM's CARD OF 'skifflaw06.CurveSame'. -/
def curveSameUptoCard : Claim7 := { stood := { row := curveSameUptoRow, standIns := [], harness := (true, "39bcf81dffb4cb47e237308254fb53b996fcbd7f7b69faced7eacf15d6d8151c"), looks := false }, kinds := [], alts := [], laidByText := true, laidKinds := [.data, .data, .data], laidTests := true, laidLooks := .later }
def CurveSameUptoCardSaid : Prop := Claim7.holds Tryd.pinned (.plain (OpenSpec.upto curveSameSpec)) curveSameUptoCard

/-- THE SECOND FORM's CARD OF 'skifflaw06.CurveEight'. -/
def curveEightUptoCard : Claim7 := { stood := { row := curveEightUptoRow, standIns := [], harness := (true, "39bcf81dffb4cb47e237308254fb53b996fcbd7f7b69faced7eacf15d6d8151c"), looks := false }, kinds := [], alts := [], laidByText := true, laidKinds := [.data, .data, .data], laidTests := true, laidLooks := .later }
def CurveEightUptoCardSaid : Prop := Claim7.holds Tryd.pinned (.plain (OpenSpec.upto curveEightSpec)) curveEightUptoCard
end Rows
end Go.Proofs.YtjaomgildhiddaaDoor
