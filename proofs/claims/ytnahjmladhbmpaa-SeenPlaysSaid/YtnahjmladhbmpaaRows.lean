/-
  No cell of these rows narrows 'for every input' (looked for: loops, veiled, ifaces, maps, wideKeys, modest, calm, conditions, laid).
  DERIVED. THE GIVEN ROWS OF THIS SEAT. 5 by the template 'for every input the law returns true; each argument reads behind the call as it read before'; 0 by the template 'total and deterministic' (their statements: YtnahjmladhbmpaaTotals.lean).
  GIVEN WITH THE SEED: the statements are not yours to turn. If you find one false, say at which input.
  Laid BY PROGRAM, IN A SANDBOX (cutbox-rows.mjs): the forced cells as the released guide's own fill.sh prints them over the translation 4018c133d25666e8… (all of the seat's roots in one cut). By AI agents, Wed Nov 11 2026. No macro, syntax, notation, axiom, sorry.
-/
import Derived.Test.YtnahjmladhbmpaaChecked
import GoSem.Claim
import GoSem.ClaimJoined
import GoSem.ClaimMapViews
import Derived.JoinedTies
import Derived.KernelRfl
namespace Go.Proofs.Ytnahjmladhbmpaa
/- THE CELL 'sum', in the pinned program and in every row, IS THE sha256 OF THE DUMP (.gsa) THAT YtnahjmladhbmpaaProg.lean LOADS. Nothing in Lean hashes anything: it is a label: what it is worth is what the hold of that sum in a sandbox is worth. -/
noncomputable def Try.pinned : Pinned := { name := "ytnahjmladhbmpaa", sum := "4018c133d25666e829c9e08ba49a759f0cfa5b2617afc9869e6732170599637d", checked := Try.checked }
namespace Rows
def none {H : Type} : Left H := { results := [], args := [] }

/-- 'skifflaw17.SeenPlays': WHATEVER THE INPUT: true; the input reads as it did. -/
def seenPlaysSpec : ChangeSpec := { name := "seenPlays", fn := fun _ => fun
  | [d] => { results := [.lit (.bool true)], args := [d] }
  | _ => none }
def seenPlaysRow : OpenClaim := { program := "ytnahjmladhbmpaa", sum := "4018c133d25666e829c9e08ba49a759f0cfa5b2617afc9869e6732170599637d", func := "skiff/skifflaw17.SeenPlays", spec := "seenPlays", apart := false }
def SeenPlaysSaid : Prop := seenPlaysRow.holds Try.pinned (OpenSpec.ofChange seenPlaysSpec)

/-- ITS FALSE NEIGHBOUR: 'it returns false'. Refute it at one input. -/
def seenPlaysWrong : ChangeSpec := { name := "seenPlays", fn := fun _ => fun
  | [d] => { results := [.lit (.bool false)], args := [d] }
  | _ => none }
def SeenPlaysWrongFalsely : Prop := seenPlaysRow.holds Try.pinned (OpenSpec.ofChange seenPlaysWrong)

/-- 'skifflaw17.SeenGaps': WHATEVER THE INPUT: true; the input reads as it did. -/
def seenGapsSpec : ChangeSpec := { name := "seenGaps", fn := fun _ => fun
  | [d1, d2] => { results := [.lit (.bool true)], args := [d1, d2] }
  | _ => none }
def seenGapsRow : OpenClaim := { program := "ytnahjmladhbmpaa", sum := "4018c133d25666e829c9e08ba49a759f0cfa5b2617afc9869e6732170599637d", func := "skiff/skifflaw17.SeenGaps", spec := "seenGaps", apart := false }
def SeenGapsSaid : Prop := seenGapsRow.holds Try.pinned (OpenSpec.ofChange seenGapsSpec)

/-- ITS FALSE NEIGHBOUR: 'it returns false'. Refute it at one input. -/
def seenGapsWrong : ChangeSpec := { name := "seenGaps", fn := fun _ => fun
  | [d1, d2] => { results := [.lit (.bool false)], args := [d1, d2] }
  | _ => none }
def SeenGapsWrongFalsely : Prop := seenGapsRow.holds Try.pinned (OpenSpec.ofChange seenGapsWrong)

/-- 'skifflaw17.SeenOnce': WHATEVER THE INPUT: true; the input reads as it did. -/
def seenOnceSpec : ChangeSpec := { name := "seenOnce", fn := fun _ => fun
  | [d] => { results := [.lit (.bool true)], args := [d] }
  | _ => none }
def seenOnceRow : OpenClaim := { program := "ytnahjmladhbmpaa", sum := "4018c133d25666e829c9e08ba49a759f0cfa5b2617afc9869e6732170599637d", func := "skiff/skifflaw17.SeenOnce", spec := "seenOnce", apart := false }
def SeenOnceSaid : Prop := seenOnceRow.holds Try.pinned (OpenSpec.ofChange seenOnceSpec)

/-- ITS FALSE NEIGHBOUR: 'it returns false'. Refute it at one input. -/
def seenOnceWrong : ChangeSpec := { name := "seenOnce", fn := fun _ => fun
  | [d] => { results := [.lit (.bool false)], args := [d] }
  | _ => none }
def SeenOnceWrongFalsely : Prop := seenOnceRow.holds Try.pinned (OpenSpec.ofChange seenOnceWrong)

/-- 'skifflaw17.SeenNil': WHATEVER THE INPUT: true; the input reads as it did. -/
def seenNilSpec : ChangeSpec := { name := "seenNil", fn := fun _ => fun
  | [d1, d2] => { results := [.lit (.bool true)], args := [d1, d2] }
  | _ => none }
def seenNilRow : OpenClaim := { program := "ytnahjmladhbmpaa", sum := "4018c133d25666e829c9e08ba49a759f0cfa5b2617afc9869e6732170599637d", func := "skiff/skifflaw17.SeenNil", spec := "seenNil", apart := false }
def SeenNilSaid : Prop := seenNilRow.holds Try.pinned (OpenSpec.ofChange seenNilSpec)

/-- ITS FALSE NEIGHBOUR: 'it returns false'. Refute it at one input. -/
def seenNilWrong : ChangeSpec := { name := "seenNil", fn := fun _ => fun
  | [d1, d2] => { results := [.lit (.bool false)], args := [d1, d2] }
  | _ => none }
def SeenNilWrongFalsely : Prop := seenNilRow.holds Try.pinned (OpenSpec.ofChange seenNilWrong)

/-- 'skifflaw17.SeenRow': WHATEVER THE INPUT: true; the input reads as it did. -/
def seenRowSpec : ChangeSpec := { name := "seenRow", fn := fun _ => fun
  | [d1, d2, d3] => { results := [.lit (.bool true)], args := [d1, d2, d3] }
  | _ => none }
def seenRowRow : OpenClaim := { program := "ytnahjmladhbmpaa", sum := "4018c133d25666e829c9e08ba49a759f0cfa5b2617afc9869e6732170599637d", func := "skiff/skifflaw17.SeenRow", spec := "seenRow", apart := false }
def SeenRowSaid : Prop := seenRowRow.holds Try.pinned (OpenSpec.ofChange seenRowSpec)

/-- ITS FALSE NEIGHBOUR: 'it returns false'. Refute it at one input. -/
def seenRowWrong : ChangeSpec := { name := "seenRow", fn := fun _ => fun
  | [d1, d2, d3] => { results := [.lit (.bool false)], args := [d1, d2, d3] }
  | _ => none }
def SeenRowWrongFalsely : Prop := seenRowRow.holds Try.pinned (OpenSpec.ofChange seenRowWrong)

/- THE SECOND FORM. 'bulk': how many values and letters a reading holds, each counted each time it is reached (what is shared counts as often as it is met; a slice's spare places count too). A statement '..UptoSaid' is the law's where the arguments, and the package variables that the reading takes, are together of bulk at most 1048576: NARROWER than '..Said'. Prove '..Said' where nothing that the law and all that it calls make is longer than what came in: it says more and counts as full. Else prove '..UptoSaid'. A law counts once. -/
mutual
def uptoBulk {H : Type} : DataW H → Nat
  | .lit (.string bytes) => bytes.length + 1
  | .lit _ => 1
  | .nil => 1
  | .ptr d => uptoBulk d + 1
  | .slice elems spare => uptoBulkAll elems + uptoBulkAll spare + 1
  | .agg parts => uptoBulkAll parts + 1
  | .iface _ d => uptoBulk d + 1
  | .map entries => uptoBulkEntries entries + 1
  | .held _ => 1
def uptoBulkAll {H : Type} : List (DataW H) → Nat
  | [] => 0
  | d :: r => uptoBulk d + uptoBulkAll r
def uptoBulkEntries {H : Type} : List (Lit × DataW H) → Nat
  | [] => 0
  | x :: r => uptoBulkEntry x + uptoBulkEntries r
def uptoBulkEntry {H : Type} : Lit × DataW H → Nat
  | (.string bytes, d) => bytes.length + uptoBulk d + 1
  | (_, d) => uptoBulk d + 1
 end
def uptoSmall : (H : Type) → List (DataW H) → Bool := fun _ ds => decide (uptoBulkAll ds ≤ 1048576)
def OpenSpec.upto (s : _root_.Go.ChangeSpec) : _root_.Go.OpenSpec := { _root_.Go.OpenSpec.ofChange s with cond := some uptoSmall }

/-- 'skifflaw17.SeenPlays', WHERE WHAT IT READS IS OF BULK AT MOST 1048576: true; the input reads as it did. -/
def seenPlaysUptoRow : OpenClaim := { program := "ytnahjmladhbmpaa", sum := "4018c133d25666e829c9e08ba49a759f0cfa5b2617afc9869e6732170599637d", func := "skiff/skifflaw17.SeenPlays", spec := "seenPlays", apart := false, narrowed := true }
def SeenPlaysUptoSaid : Prop := seenPlaysUptoRow.holds Try.pinned (OpenSpec.upto seenPlaysSpec)

/-- 'skifflaw17.SeenGaps', WHERE WHAT IT READS IS OF BULK AT MOST 1048576: true; the input reads as it did. -/
def seenGapsUptoRow : OpenClaim := { program := "ytnahjmladhbmpaa", sum := "4018c133d25666e829c9e08ba49a759f0cfa5b2617afc9869e6732170599637d", func := "skiff/skifflaw17.SeenGaps", spec := "seenGaps", apart := false, narrowed := true }
def SeenGapsUptoSaid : Prop := seenGapsUptoRow.holds Try.pinned (OpenSpec.upto seenGapsSpec)

/-- 'skifflaw17.SeenOnce', WHERE WHAT IT READS IS OF BULK AT MOST 1048576: true; the input reads as it did. -/
def seenOnceUptoRow : OpenClaim := { program := "ytnahjmladhbmpaa", sum := "4018c133d25666e829c9e08ba49a759f0cfa5b2617afc9869e6732170599637d", func := "skiff/skifflaw17.SeenOnce", spec := "seenOnce", apart := false, narrowed := true }
def SeenOnceUptoSaid : Prop := seenOnceUptoRow.holds Try.pinned (OpenSpec.upto seenOnceSpec)

/-- 'skifflaw17.SeenNil', WHERE WHAT IT READS IS OF BULK AT MOST 1048576: true; the input reads as it did. -/
def seenNilUptoRow : OpenClaim := { program := "ytnahjmladhbmpaa", sum := "4018c133d25666e829c9e08ba49a759f0cfa5b2617afc9869e6732170599637d", func := "skiff/skifflaw17.SeenNil", spec := "seenNil", apart := false, narrowed := true }
def SeenNilUptoSaid : Prop := seenNilUptoRow.holds Try.pinned (OpenSpec.upto seenNilSpec)

/-- 'skifflaw17.SeenRow', WHERE WHAT IT READS IS OF BULK AT MOST 1048576: true; the input reads as it did. -/
def seenRowUptoRow : OpenClaim := { program := "ytnahjmladhbmpaa", sum := "4018c133d25666e829c9e08ba49a759f0cfa5b2617afc9869e6732170599637d", func := "skiff/skifflaw17.SeenRow", spec := "seenRow", apart := false, narrowed := true }
def SeenRowUptoSaid : Prop := seenRowUptoRow.holds Try.pinned (OpenSpec.upto seenRowSpec)

end Rows
end Go.Proofs.Ytnahjmladhbmpaa
