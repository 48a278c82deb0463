/-
  No cell of these rows narrows 'for every input' (looked for: loops, veiled, ifaces, maps, wideKeys, modest, calm, conditions, laid).
  DERIVED. THE GIVEN ROWS OF THIS SEAT. 6 by the template 'for every input the law returns true; each argument reads behind the call as it read before'; 0 by the template 'total and deterministic' (their statements: YtnglancehmdlpaaTotals.lean).
  GIVEN WITH THE SEED: the statements are not yours to turn. If you find one false, say at which input.
  Laid BY PROGRAM, IN A SANDBOX (cutbox-rows.mjs): the forced cells as the released guide's own fill.sh prints them over the translation 3c869557ea33a267… (all of the seat's roots in one cut). By AI agents, Wed Nov 11 2026. No macro, syntax, notation, axiom, sorry.
-/
import Derived.Test.YtnglancehmdlpaaChecked
import GoSem.Claim
import GoSem.ClaimJoined
import GoSem.ClaimMapViews
import Derived.JoinedTies
import Derived.KernelRfl
namespace Go.Proofs.Ytnglancehmdlpaa
/- THE CELL 'sum', in the pinned program and in every row, IS THE sha256 OF THE DUMP (.gsa) THAT YtnglancehmdlpaaProg.lean LOADS. Nothing in Lean hashes anything: it is a label: what it is worth is what the hold of that sum in a sandbox is worth. -/
noncomputable def Try.pinned : Pinned := { name := "ytnglancehmdlpaa", sum := "3c869557ea33a2678a528c377ec867bbb7cf019aa348b815fafc88a8e3ae6c48", checked := Try.checked }
namespace Rows
def none {H : Type} : Left H := { results := [], args := [] }

/-- 'skifflaw02.ScalarReduces': WHATEVER THE INPUT: true; the input reads as it did. -/
def scalarReducesSpec : ChangeSpec := { name := "scalarReduces", fn := fun _ => fun
  | [d1, d2] => { results := [.lit (.bool true)], args := [d1, d2] }
  | _ => none }
def scalarReducesRow : OpenClaim := { program := "ytnglancehmdlpaa", sum := "3c869557ea33a2678a528c377ec867bbb7cf019aa348b815fafc88a8e3ae6c48", func := "skiff/skifflaw02.ScalarReduces", spec := "scalarReduces", inPlace := ["math/bits.Add64", "math/bits.Sub64"], apart := false }
def ScalarReducesSaid : Prop := scalarReducesRow.holds Try.pinned (OpenSpec.ofChange scalarReducesSpec)

/-- ITS FALSE NEIGHBOUR: 'it returns false'. Refute it at one input. -/
def scalarReducesWrong : ChangeSpec := { name := "scalarReduces", fn := fun _ => fun
  | [d1, d2] => { results := [.lit (.bool false)], args := [d1, d2] }
  | _ => none }
def ScalarReducesWrongFalsely : Prop := scalarReducesRow.holds Try.pinned (OpenSpec.ofChange scalarReducesWrong)

/-- 'skifflaw02.ScalarNear': WHATEVER THE INPUT: true; the input reads as it did. -/
def scalarNearSpec : ChangeSpec := { name := "scalarNear", fn := fun _ => fun
  | [d1, d2] => { results := [.lit (.bool true)], args := [d1, d2] }
  | _ => none }
def scalarNearRow : OpenClaim := { program := "ytnglancehmdlpaa", sum := "3c869557ea33a2678a528c377ec867bbb7cf019aa348b815fafc88a8e3ae6c48", func := "skiff/skifflaw02.ScalarNear", spec := "scalarNear", inPlace := ["math/bits.Add64", "math/bits.Sub64"], apart := false }
def ScalarNearSaid : Prop := scalarNearRow.holds Try.pinned (OpenSpec.ofChange scalarNearSpec)

/-- ITS FALSE NEIGHBOUR: 'it returns false'. Refute it at one input. -/
def scalarNearWrong : ChangeSpec := { name := "scalarNear", fn := fun _ => fun
  | [d1, d2] => { results := [.lit (.bool false)], args := [d1, d2] }
  | _ => none }
def ScalarNearWrongFalsely : Prop := scalarNearRow.holds Try.pinned (OpenSpec.ofChange scalarNearWrong)

/-- 'skifflaw02.ScalarRuns': WHATEVER THE INPUT: true; the input reads as it did. -/
def scalarRunsSpec : ChangeSpec := { name := "scalarRuns", fn := fun _ => fun
  | [d1, d2, d3] => { results := [.lit (.bool true)], args := [d1, d2, d3] }
  | _ => none }
def scalarRunsRow : OpenClaim := { program := "ytnglancehmdlpaa", sum := "3c869557ea33a2678a528c377ec867bbb7cf019aa348b815fafc88a8e3ae6c48", func := "skiff/skifflaw02.ScalarRuns", spec := "scalarRuns", inPlace := ["math/bits.Add64", "math/bits.Sub64"], apart := false }
def ScalarRunsSaid : Prop := scalarRunsRow.holds Try.pinned (OpenSpec.ofChange scalarRunsSpec)

/-- ITS FALSE NEIGHBOUR: 'it returns false'. Refute it at one input. -/
def scalarRunsWrong : ChangeSpec := { name := "scalarRuns", fn := fun _ => fun
  | [d1, d2, d3] => { results := [.lit (.bool false)], args := [d1, d2, d3] }
  | _ => none }
def ScalarRunsWrongFalsely : Prop := scalarRunsRow.holds Try.pinned (OpenSpec.ofChange scalarRunsWrong)

/-- 'skifflaw02.ScalarLaws': WHATEVER THE INPUT: true; the input reads as it did. -/
def scalarLawsSpec : ChangeSpec := { name := "scalarLaws", fn := fun _ => fun
  | [d1, d2, d3] => { results := [.lit (.bool true)], args := [d1, d2, d3] }
  | _ => none }
def scalarLawsRow : OpenClaim := { program := "ytnglancehmdlpaa", sum := "3c869557ea33a2678a528c377ec867bbb7cf019aa348b815fafc88a8e3ae6c48", func := "skiff/skifflaw02.ScalarLaws", spec := "scalarLaws", inPlace := ["math/bits.Add64", "math/bits.Sub64"], apart := false }
def ScalarLawsSaid : Prop := scalarLawsRow.holds Try.pinned (OpenSpec.ofChange scalarLawsSpec)

/-- ITS FALSE NEIGHBOUR: 'it returns false'. Refute it at one input. -/
def scalarLawsWrong : ChangeSpec := { name := "scalarLaws", fn := fun _ => fun
  | [d1, d2, d3] => { results := [.lit (.bool false)], args := [d1, d2, d3] }
  | _ => none }
def ScalarLawsWrongFalsely : Prop := scalarLawsRow.holds Try.pinned (OpenSpec.ofChange scalarLawsWrong)

/-- 'skifflaw02.ScalarLong': WHATEVER THE INPUT: true; the input reads as it did. -/
def scalarLongSpec : ChangeSpec := { name := "scalarLong", fn := fun _ => fun
  | [d1, d2, d3] => { results := [.lit (.bool true)], args := [d1, d2, d3] }
  | _ => none }
def scalarLongRow : OpenClaim := { program := "ytnglancehmdlpaa", sum := "3c869557ea33a2678a528c377ec867bbb7cf019aa348b815fafc88a8e3ae6c48", func := "skiff/skifflaw02.ScalarLong", spec := "scalarLong", inPlace := ["math/bits.Add64", "math/bits.Sub64"], apart := false }
def ScalarLongSaid : Prop := scalarLongRow.holds Try.pinned (OpenSpec.ofChange scalarLongSpec)

/-- ITS FALSE NEIGHBOUR: 'it returns false'. Refute it at one input. -/
def scalarLongWrong : ChangeSpec := { name := "scalarLong", fn := fun _ => fun
  | [d1, d2, d3] => { results := [.lit (.bool false)], args := [d1, d2, d3] }
  | _ => none }
def ScalarLongWrongFalsely : Prop := scalarLongRow.holds Try.pinned (OpenSpec.ofChange scalarLongWrong)

/-- 'skifflaw02.ScalarOften': WHATEVER THE INPUT: true; the input reads as it did. -/
def scalarOftenSpec : ChangeSpec := { name := "scalarOften", fn := fun _ => fun
  | [d1, d2] => { results := [.lit (.bool true)], args := [d1, d2] }
  | _ => none }
def scalarOftenRow : OpenClaim := { program := "ytnglancehmdlpaa", sum := "3c869557ea33a2678a528c377ec867bbb7cf019aa348b815fafc88a8e3ae6c48", func := "skiff/skifflaw02.ScalarOften", spec := "scalarOften", inPlace := ["math/bits.Add64", "math/bits.Sub64"], apart := false }
def ScalarOftenSaid : Prop := scalarOftenRow.holds Try.pinned (OpenSpec.ofChange scalarOftenSpec)

/-- ITS FALSE NEIGHBOUR: 'it returns false'. Refute it at one input. -/
def scalarOftenWrong : ChangeSpec := { name := "scalarOften", fn := fun _ => fun
  | [d1, d2] => { results := [.lit (.bool false)], args := [d1, d2] }
  | _ => none }
def ScalarOftenWrongFalsely : Prop := scalarOftenRow.holds Try.pinned (OpenSpec.ofChange scalarOftenWrong)

/- THE SECOND FORM. 'bulk': how many values and letters a reading holds, each counted each time it is reached (what is shared counts as often as it is met; a slice's spare places count too). A statement '..UptoSaid' is the law's where the arguments, and the package variables that the reading takes, are together of bulk at most 1048576: NARROWER than '..Said'. Prove '..Said' where nothing that the law and all that it calls make is longer than what came in: it says more and counts as full. Else prove '..UptoSaid'. A law counts once. -/
mutual
def uptoBulk {H : Type} : DataW H → Nat
  | .lit (.string bytes) => bytes.length + 1
  | .lit _ => 1
  | .nil => 1
  | .ptr d => uptoBulk d + 1
  | .slice elems spare => uptoBulkAll elems + uptoBulkAll spare + 1
  | .agg parts => uptoBulkAll parts + 1
  | .iface _ d => uptoBulk d + 1
  | .map entries => uptoBulkEntries entries + 1
  | .held _ => 1
def uptoBulkAll {H : Type} : List (DataW H) → Nat
  | [] => 0
  | d :: r => uptoBulk d + uptoBulkAll r
def uptoBulkEntries {H : Type} : List (Lit × DataW H) → Nat
  | [] => 0
  | x :: r => uptoBulkEntry x + uptoBulkEntries r
def uptoBulkEntry {H : Type} : Lit × DataW H → Nat
  | (.string bytes, d) => bytes.length + uptoBulk d + 1
  | (_, d) => uptoBulk d + 1
 end
def uptoSmall : (H : Type) → List (DataW H) → Bool := fun _ ds => decide (uptoBulkAll ds ≤ 1048576)
def OpenSpec.upto (s : _root_.Go.ChangeSpec) : _root_.Go.OpenSpec := { _root_.Go.OpenSpec.ofChange s with cond := some uptoSmall }

/-- 'skifflaw02.ScalarReduces', WHERE WHAT IT READS IS OF BULK AT MOST 1048576: true; the input reads as it did. -/
def scalarReducesUptoRow : OpenClaim := { program := "ytnglancehmdlpaa", sum := "3c869557ea33a2678a528c377ec867bbb7cf019aa348b815fafc88a8e3ae6c48", func := "skiff/skifflaw02.ScalarReduces", spec := "scalarReduces", inPlace := ["math/bits.Add64", "math/bits.Sub64"], apart := false, narrowed := true }
def ScalarReducesUptoSaid : Prop := scalarReducesUptoRow.holds Try.pinned (OpenSpec.upto scalarReducesSpec)

/-- 'skifflaw02.ScalarNear', WHERE WHAT IT READS IS OF BULK AT MOST 1048576: true; the input reads as it did. -/
def scalarNearUptoRow : OpenClaim := { program := "ytnglancehmdlpaa", sum := "3c869557ea33a2678a528c377ec867bbb7cf019aa348b815fafc88a8e3ae6c48", func := "skiff/skifflaw02.ScalarNear", spec := "scalarNear", inPlace := ["math/bits.Add64", "math/bits.Sub64"], apart := false, narrowed := true }
def ScalarNearUptoSaid : Prop := scalarNearUptoRow.holds Try.pinned (OpenSpec.upto scalarNearSpec)

/-- 'skifflaw02.ScalarRuns', WHERE WHAT IT READS IS OF BULK AT MOST 1048576: true; the input reads as it did. -/
def scalarRunsUptoRow : OpenClaim := { program := "ytnglancehmdlpaa", sum := "3c869557ea33a2678a528c377ec867bbb7cf019aa348b815fafc88a8e3ae6c48", func := "skiff/skifflaw02.ScalarRuns", spec := "scalarRuns", inPlace := ["math/bits.Add64", "math/bits.Sub64"], apart := false, narrowed := true }
def ScalarRunsUptoSaid : Prop := scalarRunsUptoRow.holds Try.pinned (OpenSpec.upto scalarRunsSpec)

/-- 'skifflaw02.ScalarLaws', WHERE WHAT IT READS IS OF BULK AT MOST 1048576: true; the input reads as it did. -/
def scalarLawsUptoRow : OpenClaim := { program := "ytnglancehmdlpaa", sum := "3c869557ea33a2678a528c377ec867bbb7cf019aa348b815fafc88a8e3ae6c48", func := "skiff/skifflaw02.ScalarLaws", spec := "scalarLaws", inPlace := ["math/bits.Add64", "math/bits.Sub64"], apart := false, narrowed := true }
def ScalarLawsUptoSaid : Prop := scalarLawsUptoRow.holds Try.pinned (OpenSpec.upto scalarLawsSpec)

/-- 'skifflaw02.ScalarLong', WHERE WHAT IT READS IS OF BULK AT MOST 1048576: true; the input reads as it did. -/
def scalarLongUptoRow : OpenClaim := { program := "ytnglancehmdlpaa", sum := "3c869557ea33a2678a528c377ec867bbb7cf019aa348b815fafc88a8e3ae6c48", func := "skiff/skifflaw02.ScalarLong", spec := "scalarLong", inPlace := ["math/bits.Add64", "math/bits.Sub64"], apart := false, narrowed := true }
def ScalarLongUptoSaid : Prop := scalarLongUptoRow.holds Try.pinned (OpenSpec.upto scalarLongSpec)

/-- 'skifflaw02.ScalarOften', WHERE WHAT IT READS IS OF BULK AT MOST 1048576: true; the input reads as it did. -/
def scalarOftenUptoRow : OpenClaim := { program := "ytnglancehmdlpaa", sum := "3c869557ea33a2678a528c377ec867bbb7cf019aa348b815fafc88a8e3ae6c48", func := "skiff/skifflaw02.ScalarOften", spec := "scalarOften", inPlace := ["math/bits.Add64", "math/bits.Sub64"], apart := false, narrowed := true }
def ScalarOftenUptoSaid : Prop := scalarOftenUptoRow.holds Try.pinned (OpenSpec.upto scalarOftenSpec)

end Rows
end Go.Proofs.Ytnglancehmdlpaa
