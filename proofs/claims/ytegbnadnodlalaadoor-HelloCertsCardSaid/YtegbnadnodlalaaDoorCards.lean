/-
  DERIVED. GIVEN WITH THE SEED: THE CARDS: each row of YtegbnadnodlalaaDoorRows.lean that lists a variable, with what it lists TIED to the program's text (the seventh form; the later family's looks); each row that meets fmt, with fmt's text TOLD by the authors' own Lean function (tested against real Go, not proved from fmt's source: count such statements apart). THE CARD IS WHAT COUNTS. Prove the row's statement (the work); the ties are given (YtegbnadnodlalaaDoorTie.lean); close each card by the builder's one call (the guide's Derived/Test/ToyasCard.lean, 'card_holds'). Laid BY PROGRAM, IN A SANDBOX (cutbox-door.mjs). By AI agents, Wed Nov 11 2026. No macro, syntax, notation, axiom, sorry.
-/
import Derived.Test.YtegbnadnodlalaaDoorRows
import GoSem.ClaimSeven
namespace Go.Proofs.YtegbnadnodlalaaDoor
namespace Rows

/-- THE TIED CARD OF 'skifflaw14.HelloMessages'. -/
def helloMessagesCard : Claim7 := { stood := { row := helloMessagesRow, standIns := [], harness := (true, "919e86a4eb38f78d51786f6dc283b0318d039cdb5b2ed14df630c09f20f352db"), looks := false }, kinds := [], alts := [], laidByText := true, laidKinds := [.data, .data, .data, .data, .data], laidTests := true, laidLooks := .later }
def HelloMessagesCardSaid : Prop := Claim7.holds Tryd.pinned (.plain (OpenSpec.ofChange helloMessagesSpec)) helloMessagesCard

/-- THE TIED CARD OF 'skifflaw14.HelloCerts'. -/
def helloCertsCard : Claim7 := { stood := { row := helloCertsRow, standIns := [], harness := (true, "919e86a4eb38f78d51786f6dc283b0318d039cdb5b2ed14df630c09f20f352db"), looks := false }, kinds := [], alts := [], laidByText := true, laidKinds := [.data, .data, .data, .data, .data], laidTests := true, laidLooks := .later }
def HelloCertsCardSaid : Prop := Claim7.holds Tryd.pinned (.plain (OpenSpec.ofChange helloCertsSpec)) helloCertsCard

/-- THE TIED CARD OF 'skifflaw14.HelloRows'. -/
def helloRowsCard : Claim7 := { stood := { row := helloRowsRow, standIns := [], harness := (true, "919e86a4eb38f78d51786f6dc283b0318d039cdb5b2ed14df630c09f20f352db"), looks := false }, kinds := [], alts := [], laidByText := true, laidKinds := [.data, .data, .data, .data, .data], laidTests := true, laidLooks := .later }
def HelloRowsCardSaid : Prop := Claim7.holds Tryd.pinned (.plain (OpenSpec.ofChange helloRowsSpec)) helloRowsCard

/-- THE SECOND FORM's CARD OF 'skifflaw14.HelloMessages'. -/
def helloMessagesUptoCard : Claim7 := { stood := { row := helloMessagesUptoRow, standIns := [], harness := (true, "919e86a4eb38f78d51786f6dc283b0318d039cdb5b2ed14df630c09f20f352db"), looks := false }, kinds := [], alts := [], laidByText := true, laidKinds := [.data, .data, .data, .data, .data], laidTests := true, laidLooks := .later }
def HelloMessagesUptoCardSaid : Prop := Claim7.holds Tryd.pinned (.plain (OpenSpec.upto helloMessagesSpec)) helloMessagesUptoCard

/-- THE SECOND FORM's CARD OF 'skifflaw14.HelloCerts'. -/
def helloCertsUptoCard : Claim7 := { stood := { row := helloCertsUptoRow, standIns := [], harness := (true, "919e86a4eb38f78d51786f6dc283b0318d039cdb5b2ed14df630c09f20f352db"), looks := false }, kinds := [], alts := [], laidByText := true, laidKinds := [.data, .data, .data, .data, .data], laidTests := true, laidLooks := .later }
def HelloCertsUptoCardSaid : Prop := Claim7.holds Tryd.pinned (.plain (OpenSpec.upto helloCertsSpec)) helloCertsUptoCard

/-- THE SECOND FORM's CARD OF 'skifflaw14.HelloRows'. -/
def helloRowsUptoCard : Claim7 := { stood := { row := helloRowsUptoRow, standIns := [], harness := (true, "919e86a4eb38f78d51786f6dc283b0318d039cdb5b2ed14df630c09f20f352db"), looks := false }, kinds := [], alts := [], laidByText := true, laidKinds := [.data, .data, .data, .data, .data], laidTests := true, laidLooks := .later }
def HelloRowsUptoCardSaid : Prop := Claim7.holds Tryd.pinned (.plain (OpenSpec.upto helloRowsSpec)) helloRowsUptoCard
end Rows
end Go.Proofs.YtegbnadnodlalaaDoor
