/- The tables, out of the rows' own condition. -/
import Derived.Test.YtjkocockbglenaaDoorRows
import Derived.Test.YtjkocockbglenaaDoorMg
import Derived.LaidMore
import Derived.Lib.LaidTab
import Derived.ProofKit
import Derived.OpenShut
import Derived.Stop.Joined
import Derived.Stop.LaidErr
namespace Go.Proofs.YtjkocockbglenaaDoor
open Go.RowKit Go.ChangeShapes Go.WideShapes Go.ChangeAt Go.WideMaps Go.WideElems

/-- The numbers of a table as a row lists it. -/
def intsOf : DataW Unit → List Int
  | .agg ds => ds.map fun | .lit (.int _ z) => z | _ => 0
  | _ => []
def sqZ : List Int := intsOf Rows.laid_skiff_sha2_squareRoots
def cuZ : List Int := intsOf Rows.laid_skiff_sha2_cubeRoots
def sqT (i : Nat) : Nat := (sqZ.getD i 0).toNat
def cuT (i : Nat) : Nat := (cuZ.getD i 0).toNat
theorem sqZ_length : sqZ.length = 8 := by kernel_rfl
theorem cuZ_length : cuZ.length = 80 := by kernel_rfl
theorem sqZ_data : (Rows.laid_skiff_sha2_squareRoots : DataW Unit) = Lib.tabData .u64 sqZ := rfl
theorem cuZ_data : (Rows.laid_skiff_sha2_cubeRoots : DataW Unit) = Lib.tabData .u64 cuZ := rfl
theorem sqZ_all : (sqZ.all fun z => decide (0 ≤ z ∧ z < 18446744073709551616)) = true := by kernel_rfl
theorem cuZ_all : (cuZ.all fun z => decide (0 ≤ z ∧ z < 18446744073709551616)) = true := by kernel_rfl
theorem getD_all {l : List Int} (h : (l.all fun z => decide (0 ≤ z ∧ z < 18446744073709551616)) = true) (i : Nat) : 0 ≤ l.getD i 0 ∧ l.getD i 0 < 18446744073709551616 := by
  by_cases hi : i < l.length
  · have := List.all_eq_true.1 h _ (List.getElem_mem hi)
    simp [hi] at this ⊢
    exact this
  · rw [List.getD_eq_getElem?_getD, List.getElem?_eq_none (by omega)]
    decide
theorem sqT_int (i : Nat) : ((sqT i : Nat) : Int) = sqZ.getD i 0 := by
  have := getD_all sqZ_all i
  unfold sqT
  omega
theorem cuT_int (i : Nat) : ((cuT i : Nat) : Int) = cuZ.getD i 0 := by
  have := getD_all cuZ_all i
  unfold cuT
  omega
theorem gSq : Tryd.prog.globalNamed "skiff/sha2.squareRoots" = some 0 := by kernel_rfl
theorem gCu : Tryd.prog.globalNamed "skiff/sha2.cubeRoots" = some 3 := by kernel_rfl
theorem tSq : (Tryd.prog.globals[0]?).map (·.type) = some 52 := by kernel_rfl
theorem tCu : (Tryd.prog.globals[3]?).map (·.type) = some 58 := by kernel_rfl
theorem tab_of_laid {W : World} {rest : List (String × DataW Unit)} (h : laidMet Tryd.prog (("skiff/sha2.squareRoots", Rows.laid_skiff_sha2_squareRoots) :: ("skiff/sha2.cubeRoots", Rows.laid_skiff_sha2_cubeRoots) :: rest) W) : Tab W cuT ∧ Sq W sqT := by
  have h2 := laidMet.tail h
  rw [sqZ_data] at h
  rw [cuZ_data] at h2
  have s := Lib.tabIs_of_head gSq tSq Tryd.underlying52 Tryd.underlying51 (by kernel_rfl) (by kernel_rfl) h
  have c := Lib.tabIs_of_head gCu tCu Tryd.underlying58 Tryd.underlying51 (by kernel_rfl) (by kernel_rfl) h2
  have sc : ∀ i, i < 8 → W.cell? ⟨0, i, none⟩ = some (.int .u64 ((sqT i : Nat) : Int)) := fun i hi => by
    rw [sqT_int]
    exact s.cell gSq i (by rw [sqZ_length]; exact hi)
  have cc : ∀ i, i < 80 → W.cell? ⟨3, i, none⟩ = some (.int .u64 ((cuT i : Nat) : Int)) := fun i hi => by
    rw [cuT_int]
    exact c.cell gCu i (by rw [cuZ_length]; exact hi)
  exact ⟨⟨cc, fun i => by have := getD_all cuZ_all i; have := cuT_int i; omega, World.block_lt_of_cell? _ _ (cc 0 (by decide))⟩, ⟨sc, fun i => by have := getD_all sqZ_all i; have := sqT_int i; omega, World.block_lt_of_cell? _ _ (sc 0 (by decide))⟩⟩
/-- The door's own heap meets the condition. -/
theorem door_met2 (os : Os) (args : Array Value) : laidMetH Tryd.prog Rows.macMoreRow.laid ((World.doorLaid Tryd.prog 29 os).forCall (fun _ _ => 0) ⟨#[], args, []⟩).memory :=
  laidMetH_of_parts3 (fuel := 8) (laidMet_of_run' 8 (by kernel_rfl) (by kernel_rfl)) (by kernel_rfl) (by kernel_rfl)
end Go.Proofs.YtjkocockbglenaaDoor
