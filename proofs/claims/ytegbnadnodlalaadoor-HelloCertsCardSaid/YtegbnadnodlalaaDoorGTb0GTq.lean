/- The tables, out of the rows' own condition. The package's three variables, out of the rows' own condition. -/
import Derived.Test.YtegbnadnodlalaaDoorRows
import Derived.Test.YtegbnadnodlalaaDoorGHi0GSa
import Derived.LaidMore
import Derived.Lib.LaidTab
import Derived.ProofKit
import Derived.OpenShut
import Derived.Stop.Joined
import Derived.Stop.LaidErr
import Derived.Test.YtegbnadnodlalaaDoorGPn0GZd
namespace Go.Proofs.YtegbnadnodlalaaDoor.H5
open Go.RowKit Go.ChangeShapes Go.WideShapes Go.ChangeAt Go.WideMaps Go.WideElems
/-- The numbers of a table as a row lists it. -/
def intsOf : DataW Unit → List Int
  | .agg ds => ds.map fun | .lit (.int _ z) => z | _ => 0
  | _ => []
def sqZ : List Int := intsOf Rows.laid_skiff_sha2_squareRoots
def cuZ : List Int := intsOf Rows.laid_skiff_sha2_cubeRoots
def sqT (i : Nat) : Nat := (sqZ.getD i 0).toNat
def cuT (i : Nat) : Nat := (cuZ.getD i 0).toNat
theorem sqZ_length : sqZ.length = 8 := by kernel_rfl
theorem cuZ_length : cuZ.length = 80 := by kernel_rfl
theorem sqZ_data : (Rows.laid_skiff_sha2_squareRoots : DataW Unit) = Lib.tabData .u64 sqZ := rfl
theorem cuZ_data : (Rows.laid_skiff_sha2_cubeRoots : DataW Unit) = Lib.tabData .u64 cuZ := rfl
theorem sqZ_all : (sqZ.all fun z => decide (0 ≤ z ∧ z < 18446744073709551616)) = true := by kernel_rfl
theorem cuZ_all : (cuZ.all fun z => decide (0 ≤ z ∧ z < 18446744073709551616)) = true := by kernel_rfl
theorem getD_all {l : List Int} (h : (l.all fun z => decide (0 ≤ z ∧ z < 18446744073709551616)) = true) (i : Nat) : 0 ≤ l.getD i 0 ∧ l.getD i 0 < 18446744073709551616 := by
  by_cases hi : i < l.length
  · have := List.all_eq_true.1 h _ (List.getElem_mem hi)
    simp [hi] at this ⊢
    exact this
  · rw [List.getD_eq_getElem?_getD, List.getElem?_eq_none (by omega)]
    decide
theorem sqT_int (i : Nat) : ((sqT i : Nat) : Int) = sqZ.getD i 0 := by
  have := getD_all sqZ_all i
  unfold sqT
  omega
theorem cuT_int (i : Nat) : ((cuT i : Nat) : Int) = cuZ.getD i 0 := by
  have := getD_all cuZ_all i
  unfold cuT
  omega
theorem gSq : Tryd.prog.globalNamed "skiff/sha2.squareRoots" = some 0 := by kernel_rfl
theorem gCu : Tryd.prog.globalNamed "skiff/sha2.cubeRoots" = some 4 := by kernel_rfl
theorem tSq : (Tryd.prog.globals[0]?).map (·.type) = some 103 := by kernel_rfl
theorem tCu : (Tryd.prog.globals[4]?).map (·.type) = some 134 := by kernel_rfl
theorem tab_of_laid {W : World} {rest : List (String × DataW Unit)} (h : laidMet Tryd.prog (("skiff/sha2.squareRoots", Rows.laid_skiff_sha2_squareRoots) :: ("skiff/sha2.cubeRoots", Rows.laid_skiff_sha2_cubeRoots) :: rest) W) : Tab W cuT ∧ Sq W sqT := by
  have h2 := laidMet.tail h
  rw [sqZ_data] at h
  rw [cuZ_data] at h2
  have s := Lib.tabIs_of_head gSq tSq Tryd.underlying103 Tryd.underlying61 (by kernel_rfl) (by kernel_rfl) h
  have c := Lib.tabIs_of_head gCu tCu Tryd.underlying134 Tryd.underlying61 (by kernel_rfl) (by kernel_rfl) h2
  have sc : ∀ i, i < 8 → W.cell? ⟨0, i, none⟩ = some (.int .u64 ((sqT i : Nat) : Int)) := fun i hi => by
    rw [sqT_int]
    exact s.cell gSq i (by rw [sqZ_length]; exact hi)
  have cc : ∀ i, i < 80 → W.cell? ⟨4, i, none⟩ = some (.int .u64 ((cuT i : Nat) : Int)) := fun i hi => by
    rw [cuT_int]
    exact c.cell gCu i (by rw [cuZ_length]; exact hi)
  exact ⟨⟨cc, fun i => by have := getD_all cuZ_all i; have := cuT_int i; omega, World.block_lt_of_cell? _ _ (cc 0 (by decide))⟩, ⟨sc, fun i => by have := getD_all sqZ_all i; have := sqT_int i; omega, World.block_lt_of_cell? _ _ (sc 0 (by decide))⟩⟩
end Go.Proofs.YtegbnadnodlalaaDoor.H5
namespace Go.Proofs.YtegbnadnodlalaaDoor
open Go.RowKit Go.ChangeShapes Go.WideShapes Go.ChangeAt Go.WideMaps Go.WideElems
theorem bx_data : (Rows.laid_skiff_curve_baseX : DataW Unit) = Lib.tabData .u8 (keyOf bxN) := by
  show DataW.agg _ = DataW.agg _
  congr 1
theorem by_data : (Rows.laid_skiff_curve_baseY : DataW Unit) = Lib.tabData .u8 (keyOf byN) := by
  show DataW.agg _ = DataW.agg _
  congr 1
theorem d_data : (Rows.laid_skiff_curve_dBytes : DataW Unit) = Lib.tabData .u8 (keyOf dN) := by
  show DataW.agg _ = DataW.agg _
  congr 1
theorem gBx : Tryd.prog.globalNamed "skiff/curve.baseX" = some 1 := by kernel_rfl
theorem gBy : Tryd.prog.globalNamed "skiff/curve.baseY" = some 2 := by kernel_rfl
theorem gDb : Tryd.prog.globalNamed "skiff/curve.dBytes" = some 3 := by kernel_rfl
theorem tBx : (Tryd.prog.globals[1]?).map (·.type) = some 34 := by kernel_rfl
theorem tBy : (Tryd.prog.globals[2]?).map (·.type) = some 34 := by kernel_rfl
theorem tDb : (Tryd.prog.globals[3]?).map (·.type) = some 34 := by kernel_rfl
theorem rng_of {W : World} {name : String} {N g : Nat} (s : Lib.TabIs Tryd.prog W name .u8 (keyOf N)) (hg : Tryd.prog.globalNamed name = some g) : Rng W g (Iv .u8 (keyOf N)) := by
  have sc : ∀ i, i < 32 → W.cell? ⟨g, i, none⟩ = some (.int .u8 ((keyOf N).getD i 0)) := fun i hi => s.cell hg i (by rw [keyOf_length]; exact hi)
  refine ⟨World.block_lt_of_cell? _ _ (sc 0 (by decide)), fun j v hv => ?_⟩
  have hj : j < 32 := by
    have := (List.getElem?_eq_some_iff.1 hv).1
    rw [Array.length_toList, Iv_size, keyOf_length] at this
    exact this
  rw [Nat.zero_add, sc j hj, ← hv, Array.getElem?_toList, Iv_get _ _ _ (by rw [keyOf_length]; exact hj)]
theorem xy_of_laid {W : World} {rest : List (String × DataW Unit)} (h : laidMet Tryd.prog (("skiff/curve.baseX", Rows.laid_skiff_curve_baseX) :: ("skiff/curve.baseY", Rows.laid_skiff_curve_baseY) :: rest) W) :
    Rng W 1 (Iv .u8 (keyOf bxN)) ∧ Rng W 2 (Iv .u8 (keyOf byN)) := by
  have h2 := laidMet.tail h
  rw [bx_data] at h
  rw [by_data] at h2
  exact ⟨rng_of (Lib.tabIs_of_head gBx tBx Tryd.underlying34 Tryd.underlying5 (by kernel_rfl) (by kernel_rfl) h) gBx,
    rng_of (Lib.tabIs_of_head gBy tBy Tryd.underlying34 Tryd.underlying5 (by kernel_rfl) (by kernel_rfl) h2) gBy⟩
theorem d_of_laid {W : World} {rest : List (String × DataW Unit)} (h : laidMet Tryd.prog (("skiff/curve.dBytes", Rows.laid_skiff_curve_dBytes) :: rest) W) : Rng W 3 (Iv .u8 (keyOf dN)) := by
  rw [d_data] at h
  exact rng_of (Lib.tabIs_of_head gDb tDb Tryd.underlying34 Tryd.underlying5 (by kernel_rfl) (by kernel_rfl) h) gDb
end Go.Proofs.YtegbnadnodlalaaDoor
