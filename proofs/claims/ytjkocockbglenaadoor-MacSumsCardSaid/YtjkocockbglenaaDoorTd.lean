/- The reference's tables, out of the rows' own condition: the same roots. -/
import Derived.Test.YtjkocockbglenaaDoorTb
import Derived.Test.YtjkocockbglenaaDoorQa
namespace Go.Proofs.YtjkocockbglenaaDoor
open Go.RowKit Go.ChangeShapes Go.WideShapes Go.ChangeAt Go.WideMaps Go.WideElems

theorem th_data : (Rows.laid_skiff_skiffref03_thirds : DataW Unit) = Lib.tabData .u64 cuZ := rfl
theorem se_data : (Rows.laid_skiff_skiffref03_seconds : DataW Unit) = Lib.tabData .u64 sqZ := rfl
theorem gTh : Tryd.prog.globalNamed "skiff/skiffref03.thirds" = some 1 := by kernel_rfl
theorem gSe : Tryd.prog.globalNamed "skiff/skiffref03.seconds" = some 2 := by kernel_rfl
theorem tTh : (Tryd.prog.globals[1]?).map (·.type) = some 58 := by kernel_rfl
theorem tSe : (Tryd.prog.globals[2]?).map (·.type) = some 52 := by kernel_rfl
theorem ref_of_laid {W : World} {x y : String × DataW Unit} {rest : List (String × DataW Unit)} (h : laidMet Tryd.prog (x :: y :: ("skiff/skiffref03.thirds", Rows.laid_skiff_skiffref03_thirds) :: ("skiff/skiffref03.seconds", Rows.laid_skiff_skiffref03_seconds) :: rest) W) : Ref W cuT sqT := by
  have h1 := laidMet.tail (laidMet.tail h)
  have h2 := laidMet.tail h1
  rw [th_data] at h1
  rw [se_data] at h2
  have c := Lib.tabIs_of_head gTh tTh Tryd.underlying58 Tryd.underlying51 (by kernel_rfl) (by kernel_rfl) h1
  have s := Lib.tabIs_of_head gSe tSe Tryd.underlying52 Tryd.underlying51 (by kernel_rfl) (by kernel_rfl) h2
  have sc : ∀ i, i < 8 → W.cell? ⟨2, i, none⟩ = some (.int .u64 ((sqT i : Nat) : Int)) := fun i hi => by
    rw [sqT_int]
    exact s.cell gSe i (by rw [sqZ_length]; exact hi)
  have cc : ∀ i, i < 80 → W.cell? ⟨1, i, none⟩ = some (.int .u64 ((cuT i : Nat) : Int)) := fun i hi => by
    rw [cuT_int]
    exact c.cell gTh i (by rw [cuZ_length]; exact hi)
  exact ⟨cc, sc, fun i => by have := getD_all cuZ_all i; have := cuT_int i; omega, fun i => by have := getD_all sqZ_all i; have := sqT_int i; omega, World.block_lt_of_cell? _ _ (cc 0 (by decide)), World.block_lt_of_cell? _ _ (sc 0 (by decide))⟩
theorem door_met4 (os : Os) (args : Array Value) : laidMetH Tryd.prog Rows.macSumsRow.laid ((World.doorLaid Tryd.prog 29 os).forCall (fun _ _ => 0) ⟨#[], args, []⟩).memory :=
  laidMetH_of_parts3 (fuel := 8) (laidMet_of_run' 8 (by kernel_rfl) (by kernel_rfl)) (by kernel_rfl) (by kernel_rfl)
end Go.Proofs.YtjkocockbglenaaDoor
