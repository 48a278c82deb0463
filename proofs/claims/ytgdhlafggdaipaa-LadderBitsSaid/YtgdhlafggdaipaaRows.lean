/-
  No cell of these rows narrows 'for every input' (looked for: loops, veiled, ifaces, maps, wideKeys, modest, calm, conditions, laid).
  DERIVED. THE GIVEN ROWS OF THIS SEAT. 5 by the template 'for every input the law returns true; each argument reads behind the call as it read before'; 0 by the template 'total and deterministic' (their statements: YtgdhlafggdaipaaTotals.lean).
  GIVEN WITH THE SEED: the statements are not yours to turn. If you find one false, say at which input.
  Laid BY PROGRAM, IN A SANDBOX (cutbox-rows.mjs): the forced cells as the released guide's own fill.sh prints them over the translation 98a11146493ca261… (all of the seat's roots in one cut). By AI agents, Wed Nov 11 2026. No macro, syntax, notation, axiom, sorry.
-/
import Derived.Test.YtgdhlafggdaipaaChecked
import GoSem.Claim
import GoSem.ClaimJoined
import GoSem.ClaimMapViews
import Derived.JoinedTies
import Derived.KernelRfl
namespace Go.Proofs.Ytgdhlafggdaipaa
/- THE CELL 'sum', in the pinned program and in every row, IS THE sha256 OF THE DUMP (.gsa) THAT YtgdhlafggdaipaaProg.lean LOADS. Nothing in Lean hashes anything: it is a label: what it is worth is what the hold of that sum in a sandbox is worth. -/
noncomputable def Try.pinned : Pinned := { name := "ytgdhlafggdaipaa", sum := "98a11146493ca2617b24bcb41c68575bf3d5c6c2f6912b744ace971c2c072926", checked := Try.checked }
namespace Rows
def none {H : Type} : Left H := { results := [], args := [] }

/-- 'skifflaw05.LadderRuns': WHATEVER THE INPUT: true; the input reads as it did. -/
def ladderRunsSpec : ChangeSpec := { name := "ladderRuns", fn := fun _ => fun
  | [d1, d2] => { results := [.lit (.bool true)], args := [d1, d2] }
  | _ => none }
def ladderRunsRow : OpenClaim := { program := "ytgdhlafggdaipaa", sum := "98a11146493ca2617b24bcb41c68575bf3d5c6c2f6912b744ace971c2c072926", func := "skiff/skifflaw05.LadderRuns", spec := "ladderRuns", inPlace := ["math/bits.Add64"], apart := false }
def LadderRunsSaid : Prop := ladderRunsRow.holds Try.pinned (OpenSpec.ofChange ladderRunsSpec)

/-- ITS FALSE NEIGHBOUR: 'it returns false'. Refute it at one input. -/
def ladderRunsWrong : ChangeSpec := { name := "ladderRuns", fn := fun _ => fun
  | [d1, d2] => { results := [.lit (.bool false)], args := [d1, d2] }
  | _ => none }
def LadderRunsWrongFalsely : Prop := ladderRunsRow.holds Try.pinned (OpenSpec.ofChange ladderRunsWrong)

/-- 'skifflaw05.LadderMeets': WHATEVER THE INPUT: true; the input reads as it did. -/
def ladderMeetsSpec : ChangeSpec := { name := "ladderMeets", fn := fun _ => fun
  | [d1, d2] => { results := [.lit (.bool true)], args := [d1, d2] }
  | _ => none }
def ladderMeetsRow : OpenClaim := { program := "ytgdhlafggdaipaa", sum := "98a11146493ca2617b24bcb41c68575bf3d5c6c2f6912b744ace971c2c072926", func := "skiff/skifflaw05.LadderMeets", spec := "ladderMeets", inPlace := ["math/bits.Add64"], apart := false }
def LadderMeetsSaid : Prop := ladderMeetsRow.holds Try.pinned (OpenSpec.ofChange ladderMeetsSpec)

/-- ITS FALSE NEIGHBOUR: 'it returns false'. Refute it at one input. -/
def ladderMeetsWrong : ChangeSpec := { name := "ladderMeets", fn := fun _ => fun
  | [d1, d2] => { results := [.lit (.bool false)], args := [d1, d2] }
  | _ => none }
def LadderMeetsWrongFalsely : Prop := ladderMeetsRow.holds Try.pinned (OpenSpec.ofChange ladderMeetsWrong)

/-- 'skifflaw05.LadderBits': WHATEVER THE INPUT: true; the input reads as it did. -/
def ladderBitsSpec : ChangeSpec := { name := "ladderBits", fn := fun _ => fun
  | [d1, d2, d3] => { results := [.lit (.bool true)], args := [d1, d2, d3] }
  | _ => none }
def ladderBitsRow : OpenClaim := { program := "ytgdhlafggdaipaa", sum := "98a11146493ca2617b24bcb41c68575bf3d5c6c2f6912b744ace971c2c072926", func := "skiff/skifflaw05.LadderBits", spec := "ladderBits", inPlace := ["math/bits.Add64"], apart := false }
def LadderBitsSaid : Prop := ladderBitsRow.holds Try.pinned (OpenSpec.ofChange ladderBitsSpec)

/-- ITS FALSE NEIGHBOUR: 'it returns false'. Refute it at one input. -/
def ladderBitsWrong : ChangeSpec := { name := "ladderBits", fn := fun _ => fun
  | [d1, d2, d3] => { results := [.lit (.bool false)], args := [d1, d2, d3] }
  | _ => none }
def LadderBitsWrongFalsely : Prop := ladderBitsRow.holds Try.pinned (OpenSpec.ofChange ladderBitsWrong)

/-- 'skifflaw05.LadderSmall': WHATEVER THE INPUT: true; the input reads as it did. -/
def ladderSmallSpec : ChangeSpec := { name := "ladderSmall", fn := fun _ => fun
  | [d1, d2] => { results := [.lit (.bool true)], args := [d1, d2] }
  | _ => none }
def ladderSmallRow : OpenClaim := { program := "ytgdhlafggdaipaa", sum := "98a11146493ca2617b24bcb41c68575bf3d5c6c2f6912b744ace971c2c072926", func := "skiff/skifflaw05.LadderSmall", spec := "ladderSmall", inPlace := ["math/bits.Add64"], apart := false }
def LadderSmallSaid : Prop := ladderSmallRow.holds Try.pinned (OpenSpec.ofChange ladderSmallSpec)

/-- ITS FALSE NEIGHBOUR: 'it returns false'. Refute it at one input. -/
def ladderSmallWrong : ChangeSpec := { name := "ladderSmall", fn := fun _ => fun
  | [d1, d2] => { results := [.lit (.bool false)], args := [d1, d2] }
  | _ => none }
def LadderSmallWrongFalsely : Prop := ladderSmallRow.holds Try.pinned (OpenSpec.ofChange ladderSmallWrong)

/-- 'skifflaw05.LadderChain': WHATEVER THE INPUT: true; the input reads as it did. -/
def ladderChainSpec : ChangeSpec := { name := "ladderChain", fn := fun _ => fun
  | [d1, d2, d3] => { results := [.lit (.bool true)], args := [d1, d2, d3] }
  | _ => none }
def ladderChainRow : OpenClaim := { program := "ytgdhlafggdaipaa", sum := "98a11146493ca2617b24bcb41c68575bf3d5c6c2f6912b744ace971c2c072926", func := "skiff/skifflaw05.LadderChain", spec := "ladderChain", inPlace := ["math/bits.Add64"], apart := false }
def LadderChainSaid : Prop := ladderChainRow.holds Try.pinned (OpenSpec.ofChange ladderChainSpec)

/-- ITS FALSE NEIGHBOUR: 'it returns false'. Refute it at one input. -/
def ladderChainWrong : ChangeSpec := { name := "ladderChain", fn := fun _ => fun
  | [d1, d2, d3] => { results := [.lit (.bool false)], args := [d1, d2, d3] }
  | _ => none }
def LadderChainWrongFalsely : Prop := ladderChainRow.holds Try.pinned (OpenSpec.ofChange ladderChainWrong)

/- THE SECOND FORM. 'bulk': how many values and letters a reading holds, each counted each time it is reached (what is shared counts as often as it is met; a slice's spare places count too). A statement '..UptoSaid' is the law's where the arguments, and the package variables that the reading takes, are together of bulk at most 1048576: NARROWER than '..Said'. Prove '..Said' where nothing that the law and all that it calls make is longer than what came in: it says more and counts as full. Else prove '..UptoSaid'. A law counts once. -/
mutual
def uptoBulk {H : Type} : DataW H → Nat
  | .lit (.string bytes) => bytes.length + 1
  | .lit _ => 1
  | .nil => 1
  | .ptr d => uptoBulk d + 1
  | .slice elems spare => uptoBulkAll elems + uptoBulkAll spare + 1
  | .agg parts => uptoBulkAll parts + 1
  | .iface _ d => uptoBulk d + 1
  | .map entries => uptoBulkEntries entries + 1
  | .held _ => 1
def uptoBulkAll {H : Type} : List (DataW H) → Nat
  | [] => 0
  | d :: r => uptoBulk d + uptoBulkAll r
def uptoBulkEntries {H : Type} : List (Lit × DataW H) → Nat
  | [] => 0
  | x :: r => uptoBulkEntry x + uptoBulkEntries r
def uptoBulkEntry {H : Type} : Lit × DataW H → Nat
  | (.string bytes, d) => bytes.length + uptoBulk d + 1
  | (_, d) => uptoBulk d + 1
 end
def uptoSmall : (H : Type) → List (DataW H) → Bool := fun _ ds => decide (uptoBulkAll ds ≤ 1048576)
def OpenSpec.upto (s : _root_.Go.ChangeSpec) : _root_.Go.OpenSpec := { _root_.Go.OpenSpec.ofChange s with cond := some uptoSmall }

/-- 'skifflaw05.LadderRuns', WHERE WHAT IT READS IS OF BULK AT MOST 1048576: true; the input reads as it did. -/
def ladderRunsUptoRow : OpenClaim := { program := "ytgdhlafggdaipaa", sum := "98a11146493ca2617b24bcb41c68575bf3d5c6c2f6912b744ace971c2c072926", func := "skiff/skifflaw05.LadderRuns", spec := "ladderRuns", inPlace := ["math/bits.Add64"], apart := false, narrowed := true }
def LadderRunsUptoSaid : Prop := ladderRunsUptoRow.holds Try.pinned (OpenSpec.upto ladderRunsSpec)

/-- 'skifflaw05.LadderMeets', WHERE WHAT IT READS IS OF BULK AT MOST 1048576: true; the input reads as it did. -/
def ladderMeetsUptoRow : OpenClaim := { program := "ytgdhlafggdaipaa", sum := "98a11146493ca2617b24bcb41c68575bf3d5c6c2f6912b744ace971c2c072926", func := "skiff/skifflaw05.LadderMeets", spec := "ladderMeets", inPlace := ["math/bits.Add64"], apart := false, narrowed := true }
def LadderMeetsUptoSaid : Prop := ladderMeetsUptoRow.holds Try.pinned (OpenSpec.upto ladderMeetsSpec)

/-- 'skifflaw05.LadderBits', WHERE WHAT IT READS IS OF BULK AT MOST 1048576: true; the input reads as it did. -/
def ladderBitsUptoRow : OpenClaim := { program := "ytgdhlafggdaipaa", sum := "98a11146493ca2617b24bcb41c68575bf3d5c6c2f6912b744ace971c2c072926", func := "skiff/skifflaw05.LadderBits", spec := "ladderBits", inPlace := ["math/bits.Add64"], apart := false, narrowed := true }
def LadderBitsUptoSaid : Prop := ladderBitsUptoRow.holds Try.pinned (OpenSpec.upto ladderBitsSpec)

/-- 'skifflaw05.LadderSmall', WHERE WHAT IT READS IS OF BULK AT MOST 1048576: true; the input reads as it did. -/
def ladderSmallUptoRow : OpenClaim := { program := "ytgdhlafggdaipaa", sum := "98a11146493ca2617b24bcb41c68575bf3d5c6c2f6912b744ace971c2c072926", func := "skiff/skifflaw05.LadderSmall", spec := "ladderSmall", inPlace := ["math/bits.Add64"], apart := false, narrowed := true }
def LadderSmallUptoSaid : Prop := ladderSmallUptoRow.holds Try.pinned (OpenSpec.upto ladderSmallSpec)

/-- 'skifflaw05.LadderChain', WHERE WHAT IT READS IS OF BULK AT MOST 1048576: true; the input reads as it did. -/
def ladderChainUptoRow : OpenClaim := { program := "ytgdhlafggdaipaa", sum := "98a11146493ca2617b24bcb41c68575bf3d5c6c2f6912b744ace971c2c072926", func := "skiff/skifflaw05.LadderChain", spec := "ladderChain", inPlace := ["math/bits.Add64"], apart := false, narrowed := true }
def LadderChainUptoSaid : Prop := ladderChainUptoRow.holds Try.pinned (OpenSpec.upto ladderChainSpec)

end Rows
end Go.Proofs.Ytgdhlafggdaipaa
