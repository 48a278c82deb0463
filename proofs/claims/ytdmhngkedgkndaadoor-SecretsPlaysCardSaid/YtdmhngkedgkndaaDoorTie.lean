/-
  DERIVED. GIVEN WITH THE SEED: THE PROGRAM's TIES (one call each: nine closed facts by the kernel) AND EACH ROW's TIE, after the 31st guide's Derived/Test/Toyas{Tie, Card}.lean. No idea stands in it: it is a product of the set-up. Laid BY PROGRAM, IN A SANDBOX (cutbox-door.mjs). By AI agents, Wed Nov 11 2026. No macro, syntax, notation, axiom, sorry.
-/
import Derived.Test.YtdmhngkedgkndaaDoorRows
import Derived.LaidByTextLater
import Derived.SevenTiedAt
import Derived.LaidSub
import Derived.LaidOnce
namespace Go.Proofs.YtdmhngkedgkndaaDoor
open Go
set_option maxRecDepth 100000
theorem seatTie1 : Tryd.prog.laidByTextLater [("skiff/sha2.squareRoots", Rows.laid_skiff_sha2_squareRoots), ("skiff/sha2.cubeRoots", Rows.laid_skiff_sha2_cubeRoots), ("skiff/skiffref03.thirds", Rows.laid_skiff_skiffref03_thirds), ("skiff/skiffref03.seconds", Rows.laid_skiff_skiffref03_seconds)] [.data, .data, .data, .data] true :=
  Program.laidByTextLater_by_one 29 8 81 (by kernel_rfl) (by kernel_rfl) (by kernel_rfl) (by kernel_rfl) (by kernel_rfl) (by kernel_rfl) (fun _ _ => by kernel_rfl)
theorem noOwnUnsafe : Tryd.pinned.checked.prog.headLifts.contains "ownunsafe" = false := by kernel_rfl
theorem tie : Tryd.prog.laidByTextLater [("skiff/sha2.squareRoots", Rows.laid_skiff_sha2_squareRoots), ("skiff/sha2.cubeRoots", Rows.laid_skiff_sha2_cubeRoots), ("skiff/skiffref03.thirds", Rows.laid_skiff_skiffref03_thirds), ("skiff/skiffref03.seconds", Rows.laid_skiff_skiffref03_seconds)] [.data, .data, .data, .data] true :=
  Program.laidByTextLater.sub seatTie1 ["skiff/sha2.squareRoots", "skiff/sha2.cubeRoots", "skiff/skiffref03.thirds", "skiff/skiffref03.seconds"] (by kernel_rfl) (by kernel_rfl)
theorem secretsPlays_row_tie : Rows.secretsPlaysRow.laidByTextAt .later Tryd.pinned [.data, .data, .data, .data] true :=
  OpenClaim.laidByTextAt_later rfl rfl tie noOwnUnsafe
theorem secretsFinished_row_tie : Rows.secretsFinishedRow.laidByTextAt .later Tryd.pinned [.data, .data, .data, .data] true :=
  OpenClaim.laidByTextAt_later rfl rfl tie noOwnUnsafe
theorem secretsCuts_row_tie : Rows.secretsCutsRow.laidByTextAt .later Tryd.pinned [.data, .data, .data, .data] true :=
  OpenClaim.laidByTextAt_later rfl rfl tie noOwnUnsafe
theorem secretsNil_row_tie : Rows.secretsNilRow.laidByTextAt .later Tryd.pinned [.data, .data, .data, .data] true :=
  OpenClaim.laidByTextAt_later rfl rfl tie noOwnUnsafe
theorem secretsPlaysUpto_row_tie : Rows.secretsPlaysUptoRow.laidByTextAt .later Tryd.pinned [.data, .data, .data, .data] true :=
  OpenClaim.laidByTextAt_later rfl rfl tie noOwnUnsafe
theorem secretsFinishedUpto_row_tie : Rows.secretsFinishedUptoRow.laidByTextAt .later Tryd.pinned [.data, .data, .data, .data] true :=
  OpenClaim.laidByTextAt_later rfl rfl tie noOwnUnsafe
theorem secretsCutsUpto_row_tie : Rows.secretsCutsUptoRow.laidByTextAt .later Tryd.pinned [.data, .data, .data, .data] true :=
  OpenClaim.laidByTextAt_later rfl rfl tie noOwnUnsafe
theorem secretsNilUpto_row_tie : Rows.secretsNilUptoRow.laidByTextAt .later Tryd.pinned [.data, .data, .data, .data] true :=
  OpenClaim.laidByTextAt_later rfl rfl tie noOwnUnsafe
end Go.Proofs.YtdmhngkedgkndaaDoor
