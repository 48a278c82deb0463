/-
  DERIVED. GIVEN WITH THE SEED: THE PROGRAM's TIES (one call each: nine closed facts by the kernel) AND EACH ROW's TIE, after the 31st guide's Derived/Test/Toyas{Tie, Card}.lean. No idea stands in it: it is a product of the set-up. Laid BY PROGRAM, IN A SANDBOX (cutbox-door.mjs). By AI agents, Wed Nov 11 2026. No macro, syntax, notation, axiom, sorry.
-/
import Derived.Test.YtegbnadnodlalaaGreatDoorRows
import Derived.LaidByTextLater
import Derived.SevenTiedAt
import Derived.LaidSub
import Derived.LaidOnce
namespace Go.Proofs.YtegbnadnodlalaaGreatDoor
open Go
set_option maxRecDepth 100000
theorem seatTie1 : Tryz.prog.laidByTextLater [("skiff/curve.dBytes", Rows.laid_skiff_curve_dBytes), ("skiff/curve.baseX", Rows.laid_skiff_curve_baseX), ("skiff/curve.baseY", Rows.laid_skiff_curve_baseY), ("skiff/sha2.squareRoots", Rows.laid_skiff_sha2_squareRoots), ("skiff/sha2.cubeRoots", Rows.laid_skiff_sha2_cubeRoots)] [.data, .data, .data, .data, .data] true :=
  Program.laidByTextLater_by_one 34 8 81 (by kernel_rfl) (by kernel_rfl) (by kernel_rfl) (by kernel_rfl) (by kernel_rfl) (by kernel_rfl) (fun _ _ => by kernel_rfl)
theorem noOwnUnsafe : Tryz.pinned.checked.prog.headLifts.contains "ownunsafe" = false := by kernel_rfl
theorem tie : Tryz.prog.laidByTextLater [("skiff/curve.dBytes", Rows.laid_skiff_curve_dBytes), ("skiff/curve.baseX", Rows.laid_skiff_curve_baseX), ("skiff/curve.baseY", Rows.laid_skiff_curve_baseY), ("skiff/sha2.squareRoots", Rows.laid_skiff_sha2_squareRoots), ("skiff/sha2.cubeRoots", Rows.laid_skiff_sha2_cubeRoots)] [.data, .data, .data, .data, .data] true :=
  Program.laidByTextLater.sub seatTie1 ["skiff/curve.dBytes", "skiff/curve.baseX", "skiff/curve.baseY", "skiff/sha2.squareRoots", "skiff/sha2.cubeRoots"] (by kernel_rfl) (by kernel_rfl)
theorem helloAnswers_row_tie : Rows.helloAnswersRow.laidByTextAt .later Tryz.pinned [.data, .data, .data, .data, .data] true :=
  OpenClaim.laidByTextAt_later rfl rfl tie noOwnUnsafe
theorem helloAnswersUpto_row_tie : Rows.helloAnswersUptoRow.laidByTextAt .later Tryz.pinned [.data, .data, .data, .data, .data] true :=
  OpenClaim.laidByTextAt_later rfl rfl tie noOwnUnsafe
end Go.Proofs.YtegbnadnodlalaaGreatDoor
