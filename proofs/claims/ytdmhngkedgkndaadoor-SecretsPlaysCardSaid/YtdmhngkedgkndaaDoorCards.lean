/-
  DERIVED. GIVEN WITH THE SEED: THE CARDS: each row of YtdmhngkedgkndaaDoorRows.lean that lists a variable, with what it lists TIED to the program's text (the seventh form; the later family's looks); each row that meets fmt, with fmt's text TOLD by the authors' own Lean function (tested against real Go, not proved from fmt's source: count such statements apart). THE CARD IS WHAT COUNTS. Prove the row's statement (the work); the ties are given (YtdmhngkedgkndaaDoorTie.lean); close each card by the builder's one call (the guide's Derived/Test/ToyasCard.lean, 'card_holds'). Laid BY PROGRAM, IN A SANDBOX (cutbox-door.mjs). By AI agents, Wed Nov 11 2026. No macro, syntax, notation, axiom, sorry.
-/
import Derived.Test.YtdmhngkedgkndaaDoorRows
import GoSem.ClaimSeven
namespace Go.Proofs.YtdmhngkedgkndaaDoor
namespace Rows

/-- THE TIED CARD OF 'skifflaw15.SecretsPlays'. -/
def secretsPlaysCard : Claim7 := { stood := { row := secretsPlaysRow, standIns := [], harness := (true, "bc5f158b4232b690e607fcb9ab7f7deef0fa6c9e207916dbd38f0045b8c56665"), looks := false }, kinds := [], alts := [], laidByText := true, laidKinds := [.data, .data, .data, .data], laidTests := true, laidLooks := .later }
def SecretsPlaysCardSaid : Prop := Claim7.holds Tryd.pinned (.plain (OpenSpec.ofChange secretsPlaysSpec)) secretsPlaysCard

/-- THE TIED CARD OF 'skifflaw15.SecretsFinished'. -/
def secretsFinishedCard : Claim7 := { stood := { row := secretsFinishedRow, standIns := [], harness := (true, "bc5f158b4232b690e607fcb9ab7f7deef0fa6c9e207916dbd38f0045b8c56665"), looks := false }, kinds := [], alts := [], laidByText := true, laidKinds := [.data, .data, .data, .data], laidTests := true, laidLooks := .later }
def SecretsFinishedCardSaid : Prop := Claim7.holds Tryd.pinned (.plain (OpenSpec.ofChange secretsFinishedSpec)) secretsFinishedCard

/-- THE TIED CARD OF 'skifflaw15.SecretsCuts'. -/
def secretsCutsCard : Claim7 := { stood := { row := secretsCutsRow, standIns := [], harness := (true, "bc5f158b4232b690e607fcb9ab7f7deef0fa6c9e207916dbd38f0045b8c56665"), looks := false }, kinds := [], alts := [], laidByText := true, laidKinds := [.data, .data, .data, .data], laidTests := true, laidLooks := .later }
def SecretsCutsCardSaid : Prop := Claim7.holds Tryd.pinned (.plain (OpenSpec.ofChange secretsCutsSpec)) secretsCutsCard

/-- THE TIED CARD OF 'skifflaw15.SecretsNil'. -/
def secretsNilCard : Claim7 := { stood := { row := secretsNilRow, standIns := [], harness := (true, "bc5f158b4232b690e607fcb9ab7f7deef0fa6c9e207916dbd38f0045b8c56665"), looks := false }, kinds := [], alts := [], laidByText := true, laidKinds := [.data, .data, .data, .data], laidTests := true, laidLooks := .later }
def SecretsNilCardSaid : Prop := Claim7.holds Tryd.pinned (.plain (OpenSpec.ofChange secretsNilSpec)) secretsNilCard

/-- THE SECOND FORM's CARD OF 'skifflaw15.SecretsPlays'. -/
def secretsPlaysUptoCard : Claim7 := { stood := { row := secretsPlaysUptoRow, standIns := [], harness := (true, "bc5f158b4232b690e607fcb9ab7f7deef0fa6c9e207916dbd38f0045b8c56665"), looks := false }, kinds := [], alts := [], laidByText := true, laidKinds := [.data, .data, .data, .data], laidTests := true, laidLooks := .later }
def SecretsPlaysUptoCardSaid : Prop := Claim7.holds Tryd.pinned (.plain (OpenSpec.upto secretsPlaysSpec)) secretsPlaysUptoCard

/-- THE SECOND FORM's CARD OF 'skifflaw15.SecretsFinished'. -/
def secretsFinishedUptoCard : Claim7 := { stood := { row := secretsFinishedUptoRow, standIns := [], harness := (true, "bc5f158b4232b690e607fcb9ab7f7deef0fa6c9e207916dbd38f0045b8c56665"), looks := false }, kinds := [], alts := [], laidByText := true, laidKinds := [.data, .data, .data, .data], laidTests := true, laidLooks := .later }
def SecretsFinishedUptoCardSaid : Prop := Claim7.holds Tryd.pinned (.plain (OpenSpec.upto secretsFinishedSpec)) secretsFinishedUptoCard

/-- THE SECOND FORM's CARD OF 'skifflaw15.SecretsCuts'. -/
def secretsCutsUptoCard : Claim7 := { stood := { row := secretsCutsUptoRow, standIns := [], harness := (true, "bc5f158b4232b690e607fcb9ab7f7deef0fa6c9e207916dbd38f0045b8c56665"), looks := false }, kinds := [], alts := [], laidByText := true, laidKinds := [.data, .data, .data, .data], laidTests := true, laidLooks := .later }
def SecretsCutsUptoCardSaid : Prop := Claim7.holds Tryd.pinned (.plain (OpenSpec.upto secretsCutsSpec)) secretsCutsUptoCard

/-- THE SECOND FORM's CARD OF 'skifflaw15.SecretsNil'. -/
def secretsNilUptoCard : Claim7 := { stood := { row := secretsNilUptoRow, standIns := [], harness := (true, "bc5f158b4232b690e607fcb9ab7f7deef0fa6c9e207916dbd38f0045b8c56665"), looks := false }, kinds := [], alts := [], laidByText := true, laidKinds := [.data, .data, .data, .data], laidTests := true, laidLooks := .later }
def SecretsNilUptoCardSaid : Prop := Claim7.holds Tryd.pinned (.plain (OpenSpec.upto secretsNilSpec)) secretsNilUptoCard
end Rows
end Go.Proofs.YtdmhngkedgkndaaDoor
