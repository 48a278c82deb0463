/-
  DERIVED. GIVEN WITH THE SEED: THE CARDS: each row of YtpihgljdbpnehaaDoorRows.lean that lists a variable, with what it lists TIED to the program's text (the seventh form; the later family's looks); each row that meets fmt, with fmt's text TOLD by the authors' own Lean function (tested against real Go, not proved from fmt's source: count such statements apart). THE CARD IS WHAT COUNTS. Prove the row's statement (the work); the ties are given (YtpihgljdbpnehaaDoorTie.lean); close each card by the builder's one call (the guide's Derived/Test/ToyasCard.lean, 'card_holds'). Laid BY PROGRAM, IN A SANDBOX (cutbox-door.mjs). By AI agents, Wed Nov 11 2026. No macro, syntax, notation, axiom, sorry.
-/
import Derived.Test.YtpihgljdbpnehaaDoorRows
import GoSem.ClaimSeven
namespace Go.Proofs.YtpihgljdbpnehaaDoor
namespace Rows

/-- THE TIED CARD OF 'skifflaw13.GuardKeys'. -/
def guardKeysCard : Claim7 := { stood := { row := guardKeysRow, standIns := [], harness := (true, "044b6d4de4b1d01761820b3aa0253dc65f8cbd608a8440db042febec94356ec7"), looks := false }, kinds := [], alts := [], laidByText := true, laidKinds := [.data, .data, .data, .data], laidTests := true, laidLooks := .later }
def GuardKeysCardSaid : Prop := Claim7.holds Tryd.pinned (.plain (OpenSpec.ofChange guardKeysSpec)) guardKeysCard

/-- THE TIED CARD OF 'skifflaw13.GuardSeals'. -/
def guardSealsCard : Claim7 := { stood := { row := guardSealsRow, standIns := [], harness := (true, "044b6d4de4b1d01761820b3aa0253dc65f8cbd608a8440db042febec94356ec7"), looks := false }, kinds := [], alts := [], laidByText := true, laidKinds := [.data, .data], laidTests := true, laidLooks := .later }
def GuardSealsCardSaid : Prop := Claim7.holds Tryd.pinned (.plain (OpenSpec.ofChange guardSealsSpec)) guardSealsCard

/-- THE TIED CARD OF 'skifflaw13.GuardBack'. -/
def guardBackCard : Claim7 := { stood := { row := guardBackRow, standIns := [], harness := (true, "044b6d4de4b1d01761820b3aa0253dc65f8cbd608a8440db042febec94356ec7"), looks := false }, kinds := [], alts := [], laidByText := true, laidKinds := [.data, .data], laidTests := true, laidLooks := .later }
def GuardBackCardSaid : Prop := Claim7.holds Tryd.pinned (.plain (OpenSpec.ofChange guardBackSpec)) guardBackCard

/-- THE TIED CARD OF 'skifflaw13.GuardOpens'. -/
def guardOpensCard : Claim7 := { stood := { row := guardOpensRow, standIns := [], harness := (true, "044b6d4de4b1d01761820b3aa0253dc65f8cbd608a8440db042febec94356ec7"), looks := false }, kinds := [], alts := [], laidByText := true, laidKinds := [.data, .data], laidTests := true, laidLooks := .later }
def GuardOpensCardSaid : Prop := Claim7.holds Tryd.pinned (.plain (OpenSpec.ofChange guardOpensSpec)) guardOpensCard

/-- THE TIED CARD OF 'skifflaw13.GuardRow'. -/
def guardRowCard : Claim7 := { stood := { row := guardRowRow, standIns := [], harness := (true, "044b6d4de4b1d01761820b3aa0253dc65f8cbd608a8440db042febec94356ec7"), looks := false }, kinds := [], alts := [], laidByText := true, laidKinds := [.data, .data], laidTests := true, laidLooks := .later }
def GuardRowCardSaid : Prop := Claim7.holds Tryd.pinned (.plain (OpenSpec.ofChange guardRowSpec)) guardRowCard

/-- THE SECOND FORM's CARD OF 'skifflaw13.GuardKeys'. -/
def guardKeysUptoCard : Claim7 := { stood := { row := guardKeysUptoRow, standIns := [], harness := (true, "044b6d4de4b1d01761820b3aa0253dc65f8cbd608a8440db042febec94356ec7"), looks := false }, kinds := [], alts := [], laidByText := true, laidKinds := [.data, .data, .data, .data], laidTests := true, laidLooks := .later }
def GuardKeysUptoCardSaid : Prop := Claim7.holds Tryd.pinned (.plain (OpenSpec.upto guardKeysSpec)) guardKeysUptoCard

/-- THE SECOND FORM's CARD OF 'skifflaw13.GuardSeals'. -/
def guardSealsUptoCard : Claim7 := { stood := { row := guardSealsUptoRow, standIns := [], harness := (true, "044b6d4de4b1d01761820b3aa0253dc65f8cbd608a8440db042febec94356ec7"), looks := false }, kinds := [], alts := [], laidByText := true, laidKinds := [.data, .data], laidTests := true, laidLooks := .later }
def GuardSealsUptoCardSaid : Prop := Claim7.holds Tryd.pinned (.plain (OpenSpec.upto guardSealsSpec)) guardSealsUptoCard

/-- THE SECOND FORM's CARD OF 'skifflaw13.GuardBack'. -/
def guardBackUptoCard : Claim7 := { stood := { row := guardBackUptoRow, standIns := [], harness := (true, "044b6d4de4b1d01761820b3aa0253dc65f8cbd608a8440db042febec94356ec7"), looks := false }, kinds := [], alts := [], laidByText := true, laidKinds := [.data, .data], laidTests := true, laidLooks := .later }
def GuardBackUptoCardSaid : Prop := Claim7.holds Tryd.pinned (.plain (OpenSpec.upto guardBackSpec)) guardBackUptoCard

/-- THE SECOND FORM's CARD OF 'skifflaw13.GuardOpens'. -/
def guardOpensUptoCard : Claim7 := { stood := { row := guardOpensUptoRow, standIns := [], harness := (true, "044b6d4de4b1d01761820b3aa0253dc65f8cbd608a8440db042febec94356ec7"), looks := false }, kinds := [], alts := [], laidByText := true, laidKinds := [.data, .data], laidTests := true, laidLooks := .later }
def GuardOpensUptoCardSaid : Prop := Claim7.holds Tryd.pinned (.plain (OpenSpec.upto guardOpensSpec)) guardOpensUptoCard

/-- THE SECOND FORM's CARD OF 'skifflaw13.GuardRow'. -/
def guardRowUptoCard : Claim7 := { stood := { row := guardRowUptoRow, standIns := [], harness := (true, "044b6d4de4b1d01761820b3aa0253dc65f8cbd608a8440db042febec94356ec7"), looks := false }, kinds := [], alts := [], laidByText := true, laidKinds := [.data, .data], laidTests := true, laidLooks := .later }
def GuardRowUptoCardSaid : Prop := Claim7.holds Tryd.pinned (.plain (OpenSpec.upto guardRowSpec)) guardRowUptoCard
end Rows
end Go.Proofs.YtpihgljdbpnehaaDoor
