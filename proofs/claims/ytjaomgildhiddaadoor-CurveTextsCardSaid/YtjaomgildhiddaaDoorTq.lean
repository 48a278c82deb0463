/- The package's three variables, out of the rows' own condition. -/
import Derived.Test.YtjaomgildhiddaaDoorRows
import Derived.Test.YtjaomgildhiddaaDoorPn
import Derived.LaidMore
import Derived.Lib.LaidTab
import Derived.ProofKit
import Derived.OpenShut
import Derived.Stop.Joined
import Derived.Stop.LaidErr
namespace Go.Proofs.YtjaomgildhiddaaDoor
open Go.RowKit Go.ChangeShapes Go.WideShapes Go.ChangeAt Go.WideMaps Go.WideElems

theorem bx_data : (Rows.laid_skiff_curve_baseX : DataW Unit) = Lib.tabData .u8 (keyOf bxN) := by
  show DataW.agg _ = DataW.agg _
  congr 1
theorem by_data : (Rows.laid_skiff_curve_baseY : DataW Unit) = Lib.tabData .u8 (keyOf byN) := by
  show DataW.agg _ = DataW.agg _
  congr 1
theorem d_data : (Rows.laid_skiff_curve_dBytes : DataW Unit) = Lib.tabData .u8 (keyOf dN) := by
  show DataW.agg _ = DataW.agg _
  congr 1
theorem gBx : Tryd.prog.globalNamed "skiff/curve.baseX" = some 0 := by kernel_rfl
theorem gBy : Tryd.prog.globalNamed "skiff/curve.baseY" = some 1 := by kernel_rfl
theorem gDb : Tryd.prog.globalNamed "skiff/curve.dBytes" = some 2 := by kernel_rfl
theorem tBx : (Tryd.prog.globals[0]?).map (·.type) = some 23 := by kernel_rfl
theorem tBy : (Tryd.prog.globals[1]?).map (·.type) = some 23 := by kernel_rfl
theorem tDb : (Tryd.prog.globals[2]?).map (·.type) = some 23 := by kernel_rfl
theorem rng_of {W : World} {name : String} {N g : Nat} (s : Lib.TabIs Tryd.prog W name .u8 (keyOf N)) (hg : Tryd.prog.globalNamed name = some g) : Rng W g (Iv .u8 (keyOf N)) := by
  have sc : ∀ i, i < 32 → W.cell? ⟨g, i, none⟩ = some (.int .u8 ((keyOf N).getD i 0)) := fun i hi => s.cell hg i (by rw [keyOf_length]; exact hi)
  refine ⟨World.block_lt_of_cell? _ _ (sc 0 (by decide)), fun j v hv => ?_⟩
  have hj : j < 32 := by
    have := (List.getElem?_eq_some_iff.1 hv).1
    rw [Array.length_toList, Iv_size, keyOf_length] at this
    exact this
  rw [Nat.zero_add, sc j hj, ← hv, Array.getElem?_toList, Iv_get _ _ _ (by rw [keyOf_length]; exact hj)]
theorem xy_of_laid {W : World} {rest : List (String × DataW Unit)} (h : laidMet Tryd.prog (("skiff/curve.baseX", Rows.laid_skiff_curve_baseX) :: ("skiff/curve.baseY", Rows.laid_skiff_curve_baseY) :: rest) W) :
    Rng W 0 (Iv .u8 (keyOf bxN)) ∧ Rng W 1 (Iv .u8 (keyOf byN)) := by
  have h2 := laidMet.tail h
  rw [bx_data] at h
  rw [by_data] at h2
  exact ⟨rng_of (Lib.tabIs_of_head gBx tBx Tryd.underlying23 Tryd.underlying5 (by kernel_rfl) (by kernel_rfl) h) gBx,
    rng_of (Lib.tabIs_of_head gBy tBy Tryd.underlying23 Tryd.underlying5 (by kernel_rfl) (by kernel_rfl) h2) gBy⟩
theorem d_of_laid {W : World} {rest : List (String × DataW Unit)} (h : laidMet Tryd.prog (("skiff/curve.dBytes", Rows.laid_skiff_curve_dBytes) :: rest) W) : Rng W 2 (Iv .u8 (keyOf dN)) := by
  rw [d_data] at h
  exact rng_of (Lib.tabIs_of_head gDb tDb Tryd.underlying23 Tryd.underlying5 (by kernel_rfl) (by kernel_rfl) h) gDb
theorem door_met3 (os : Os) (args : Array Value) : laidMetH Tryd.prog Rows.curveLawsRow.laid ((World.doorLaid Tryd.prog 24 os).forCall (fun _ _ => 0) ⟨#[], args, []⟩).memory :=
  laidMetH_of_parts3 (fuel := 8) (laidMet_of_run' 8 (by kernel_rfl) (by kernel_rfl)) (by kernel_rfl) (by kernel_rfl)
theorem door_met2 (os : Os) (args : Array Value) : laidMetH Tryd.prog Rows.curveTextsRow.laid ((World.doorLaid Tryd.prog 24 os).forCall (fun _ _ => 0) ⟨#[], args, []⟩).memory :=
  laidMetH_of_parts3 (fuel := 8) (laidMet_of_run' 8 (by kernel_rfl) (by kernel_rfl)) (by kernel_rfl) (by kernel_rfl)
end Go.Proofs.YtjaomgildhiddaaDoor
