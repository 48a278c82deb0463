/-
  No cell of these rows narrows 'for every input' (looked for: loops, veiled, ifaces, maps, wideKeys, modest, calm, conditions, laid).
  DERIVED. THE GIVEN ROWS OF THIS SEAT. 6 by the template 'for every input the law returns true; each argument reads behind the call as it read before'; 0 by the template 'total and deterministic' (their statements: YtfhiflakglhneaaTotals.lean).
  GIVEN WITH THE SEED: the statements are not yours to turn. If you find one false, say at which input.
  Laid BY PROGRAM, IN A SANDBOX (cutbox-rows.mjs): the forced cells as the released guide's own fill.sh prints them over the translation 541462219a462068… (all of the seat's roots in one cut). By AI agents, Wed Nov 11 2026. No macro, syntax, notation, axiom, sorry.
-/
import Derived.Test.YtfhiflakglhneaaChecked
import GoSem.Claim
import GoSem.ClaimJoined
import GoSem.ClaimMapViews
import Derived.JoinedTies
import Derived.KernelRfl
namespace Go.Proofs.Ytfhiflakglhneaa
/- THE CELL 'sum', in the pinned program and in every row, IS THE sha256 OF THE DUMP (.gsa) THAT YtfhiflakglhneaaProg.lean LOADS. Nothing in Lean hashes anything: it is a label: what it is worth is what the hold of that sum in a sandbox is worth. -/
noncomputable def Try.pinned : Pinned := { name := "ytfhiflakglhneaa", sum := "541462219a4620680a0fcfd1f78cb09ca1b411e06dd5329ad7081ba5dfa1aed8", checked := Try.checked }
namespace Rows
def none {H : Type} : Left H := { results := [], args := [] }

/-- 'skifflaw12.HeadNumbers': WHATEVER THE INPUT: true; the input reads as it did. -/
def headNumbersSpec : ChangeSpec := { name := "headNumbers", fn := fun _ => fun
  | [d1, d2, d3, d4, d5] => { results := [.lit (.bool true)], args := [d1, d2, d3, d4, d5] }
  | _ => none }
def headNumbersRow : OpenClaim := { program := "ytfhiflakglhneaa", sum := "541462219a4620680a0fcfd1f78cb09ca1b411e06dd5329ad7081ba5dfa1aed8", func := "skiff/skifflaw12.HeadNumbers", spec := "headNumbers", apart := false }
def HeadNumbersSaid : Prop := headNumbersRow.holds Try.pinned (OpenSpec.ofChange headNumbersSpec)

/-- ITS FALSE NEIGHBOUR: 'it returns false'. Refute it at one input. -/
def headNumbersWrong : ChangeSpec := { name := "headNumbers", fn := fun _ => fun
  | [d1, d2, d3, d4, d5] => { results := [.lit (.bool false)], args := [d1, d2, d3, d4, d5] }
  | _ => none }
def HeadNumbersWrongFalsely : Prop := headNumbersRow.holds Try.pinned (OpenSpec.ofChange headNumbersWrong)

/-- 'skifflaw12.HeadNear': WHATEVER THE INPUT: true; the input reads as it did. -/
def headNearSpec : ChangeSpec := { name := "headNear", fn := fun _ => fun
  | [d1, d2, d3] => { results := [.lit (.bool true)], args := [d1, d2, d3] }
  | _ => none }
def headNearRow : OpenClaim := { program := "ytfhiflakglhneaa", sum := "541462219a4620680a0fcfd1f78cb09ca1b411e06dd5329ad7081ba5dfa1aed8", func := "skiff/skifflaw12.HeadNear", spec := "headNear", apart := false }
def HeadNearSaid : Prop := headNearRow.holds Try.pinned (OpenSpec.ofChange headNearSpec)

/-- ITS FALSE NEIGHBOUR: 'it returns false'. Refute it at one input. -/
def headNearWrong : ChangeSpec := { name := "headNear", fn := fun _ => fun
  | [d1, d2, d3] => { results := [.lit (.bool false)], args := [d1, d2, d3] }
  | _ => none }
def HeadNearWrongFalsely : Prop := headNearRow.holds Try.pinned (OpenSpec.ofChange headNearWrong)

/-- 'skifflaw12.HeadPuts': WHATEVER THE INPUT: true; the input reads as it did. -/
def headPutsSpec : ChangeSpec := { name := "headPuts", fn := fun _ => fun
  | [d1, d2, d3, d4, d5] => { results := [.lit (.bool true)], args := [d1, d2, d3, d4, d5] }
  | _ => none }
def headPutsRow : OpenClaim := { program := "ytfhiflakglhneaa", sum := "541462219a4620680a0fcfd1f78cb09ca1b411e06dd5329ad7081ba5dfa1aed8", func := "skiff/skifflaw12.HeadPuts", spec := "headPuts", apart := false }
def HeadPutsSaid : Prop := headPutsRow.holds Try.pinned (OpenSpec.ofChange headPutsSpec)

/-- ITS FALSE NEIGHBOUR: 'it returns false'. Refute it at one input. -/
def headPutsWrong : ChangeSpec := { name := "headPuts", fn := fun _ => fun
  | [d1, d2, d3, d4, d5] => { results := [.lit (.bool false)], args := [d1, d2, d3, d4, d5] }
  | _ => none }
def HeadPutsWrongFalsely : Prop := headPutsRow.holds Try.pinned (OpenSpec.ofChange headPutsWrong)

/-- 'skifflaw12.HeadBack': WHATEVER THE INPUT: true; the input reads as it did. -/
def headBackSpec : ChangeSpec := { name := "headBack", fn := fun _ => fun
  | [d1, d2, d3, d4, d5, d6, d7] => { results := [.lit (.bool true)], args := [d1, d2, d3, d4, d5, d6, d7] }
  | _ => none }
def headBackRow : OpenClaim := { program := "ytfhiflakglhneaa", sum := "541462219a4620680a0fcfd1f78cb09ca1b411e06dd5329ad7081ba5dfa1aed8", func := "skiff/skifflaw12.HeadBack", spec := "headBack", apart := false }
def HeadBackSaid : Prop := headBackRow.holds Try.pinned (OpenSpec.ofChange headBackSpec)

/-- ITS FALSE NEIGHBOUR: 'it returns false'. Refute it at one input. -/
def headBackWrong : ChangeSpec := { name := "headBack", fn := fun _ => fun
  | [d1, d2, d3, d4, d5, d6, d7] => { results := [.lit (.bool false)], args := [d1, d2, d3, d4, d5, d6, d7] }
  | _ => none }
def HeadBackWrongFalsely : Prop := headBackRow.holds Try.pinned (OpenSpec.ofChange headBackWrong)

/-- 'skifflaw12.HeadCut': WHATEVER THE INPUT: true; the input reads as it did. -/
def headCutSpec : ChangeSpec := { name := "headCut", fn := fun _ => fun
  | [d1, d2, d3, d4, d5] => { results := [.lit (.bool true)], args := [d1, d2, d3, d4, d5] }
  | _ => none }
def headCutRow : OpenClaim := { program := "ytfhiflakglhneaa", sum := "541462219a4620680a0fcfd1f78cb09ca1b411e06dd5329ad7081ba5dfa1aed8", func := "skiff/skifflaw12.HeadCut", spec := "headCut", apart := false }
def HeadCutSaid : Prop := headCutRow.holds Try.pinned (OpenSpec.ofChange headCutSpec)

/-- ITS FALSE NEIGHBOUR: 'it returns false'. Refute it at one input. -/
def headCutWrong : ChangeSpec := { name := "headCut", fn := fun _ => fun
  | [d1, d2, d3, d4, d5] => { results := [.lit (.bool false)], args := [d1, d2, d3, d4, d5] }
  | _ => none }
def HeadCutWrongFalsely : Prop := headCutRow.holds Try.pinned (OpenSpec.ofChange headCutWrong)

/-- 'skifflaw12.HeadFull': WHATEVER THE INPUT: true; the input reads as it did. -/
def headFullSpec : ChangeSpec := { name := "headFull", fn := fun _ => fun
  | [d1, d2, d3] => { results := [.lit (.bool true)], args := [d1, d2, d3] }
  | _ => none }
def headFullRow : OpenClaim := { program := "ytfhiflakglhneaa", sum := "541462219a4620680a0fcfd1f78cb09ca1b411e06dd5329ad7081ba5dfa1aed8", func := "skiff/skifflaw12.HeadFull", spec := "headFull", apart := false }
def HeadFullSaid : Prop := headFullRow.holds Try.pinned (OpenSpec.ofChange headFullSpec)

/-- ITS FALSE NEIGHBOUR: 'it returns false'. Refute it at one input. -/
def headFullWrong : ChangeSpec := { name := "headFull", fn := fun _ => fun
  | [d1, d2, d3] => { results := [.lit (.bool false)], args := [d1, d2, d3] }
  | _ => none }
def HeadFullWrongFalsely : Prop := headFullRow.holds Try.pinned (OpenSpec.ofChange headFullWrong)

/- THE SECOND FORM. 'bulk': how many values and letters a reading holds, each counted each time it is reached (what is shared counts as often as it is met; a slice's spare places count too). A statement '..UptoSaid' is the law's where the arguments, and the package variables that the reading takes, are together of bulk at most 1048576: NARROWER than '..Said'. Prove '..Said' where nothing that the law and all that it calls make is longer than what came in: it says more and counts as full. Else prove '..UptoSaid'. A law counts once. -/
mutual
def uptoBulk {H : Type} : DataW H → Nat
  | .lit (.string bytes) => bytes.length + 1
  | .lit _ => 1
  | .nil => 1
  | .ptr d => uptoBulk d + 1
  | .slice elems spare => uptoBulkAll elems + uptoBulkAll spare + 1
  | .agg parts => uptoBulkAll parts + 1
  | .iface _ d => uptoBulk d + 1
  | .map entries => uptoBulkEntries entries + 1
  | .held _ => 1
def uptoBulkAll {H : Type} : List (DataW H) → Nat
  | [] => 0
  | d :: r => uptoBulk d + uptoBulkAll r
def uptoBulkEntries {H : Type} : List (Lit × DataW H) → Nat
  | [] => 0
  | x :: r => uptoBulkEntry x + uptoBulkEntries r
def uptoBulkEntry {H : Type} : Lit × DataW H → Nat
  | (.string bytes, d) => bytes.length + uptoBulk d + 1
  | (_, d) => uptoBulk d + 1
 end
def uptoSmall : (H : Type) → List (DataW H) → Bool := fun _ ds => decide (uptoBulkAll ds ≤ 1048576)
def OpenSpec.upto (s : _root_.Go.ChangeSpec) : _root_.Go.OpenSpec := { _root_.Go.OpenSpec.ofChange s with cond := some uptoSmall }

/-- 'skifflaw12.HeadNumbers', WHERE WHAT IT READS IS OF BULK AT MOST 1048576: true; the input reads as it did. -/
def headNumbersUptoRow : OpenClaim := { program := "ytfhiflakglhneaa", sum := "541462219a4620680a0fcfd1f78cb09ca1b411e06dd5329ad7081ba5dfa1aed8", func := "skiff/skifflaw12.HeadNumbers", spec := "headNumbers", apart := false, narrowed := true }
def HeadNumbersUptoSaid : Prop := headNumbersUptoRow.holds Try.pinned (OpenSpec.upto headNumbersSpec)

/-- 'skifflaw12.HeadNear', WHERE WHAT IT READS IS OF BULK AT MOST 1048576: true; the input reads as it did. -/
def headNearUptoRow : OpenClaim := { program := "ytfhiflakglhneaa", sum := "541462219a4620680a0fcfd1f78cb09ca1b411e06dd5329ad7081ba5dfa1aed8", func := "skiff/skifflaw12.HeadNear", spec := "headNear", apart := false, narrowed := true }
def HeadNearUptoSaid : Prop := headNearUptoRow.holds Try.pinned (OpenSpec.upto headNearSpec)

/-- 'skifflaw12.HeadPuts', WHERE WHAT IT READS IS OF BULK AT MOST 1048576: true; the input reads as it did. -/
def headPutsUptoRow : OpenClaim := { program := "ytfhiflakglhneaa", sum := "541462219a4620680a0fcfd1f78cb09ca1b411e06dd5329ad7081ba5dfa1aed8", func := "skiff/skifflaw12.HeadPuts", spec := "headPuts", apart := false, narrowed := true }
def HeadPutsUptoSaid : Prop := headPutsUptoRow.holds Try.pinned (OpenSpec.upto headPutsSpec)

/-- 'skifflaw12.HeadBack', WHERE WHAT IT READS IS OF BULK AT MOST 1048576: true; the input reads as it did. -/
def headBackUptoRow : OpenClaim := { program := "ytfhiflakglhneaa", sum := "541462219a4620680a0fcfd1f78cb09ca1b411e06dd5329ad7081ba5dfa1aed8", func := "skiff/skifflaw12.HeadBack", spec := "headBack", apart := false, narrowed := true }
def HeadBackUptoSaid : Prop := headBackUptoRow.holds Try.pinned (OpenSpec.upto headBackSpec)

/-- 'skifflaw12.HeadCut', WHERE WHAT IT READS IS OF BULK AT MOST 1048576: true; the input reads as it did. -/
def headCutUptoRow : OpenClaim := { program := "ytfhiflakglhneaa", sum := "541462219a4620680a0fcfd1f78cb09ca1b411e06dd5329ad7081ba5dfa1aed8", func := "skiff/skifflaw12.HeadCut", spec := "headCut", apart := false, narrowed := true }
def HeadCutUptoSaid : Prop := headCutUptoRow.holds Try.pinned (OpenSpec.upto headCutSpec)

/-- 'skifflaw12.HeadFull', WHERE WHAT IT READS IS OF BULK AT MOST 1048576: true; the input reads as it did. -/
def headFullUptoRow : OpenClaim := { program := "ytfhiflakglhneaa", sum := "541462219a4620680a0fcfd1f78cb09ca1b411e06dd5329ad7081ba5dfa1aed8", func := "skiff/skifflaw12.HeadFull", spec := "headFull", apart := false, narrowed := true }
def HeadFullUptoSaid : Prop := headFullUptoRow.holds Try.pinned (OpenSpec.upto headFullSpec)

end Rows
end Go.Proofs.Ytfhiflakglhneaa
