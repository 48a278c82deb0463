/-
  NARROWER THAN 'FOR EVERY INPUT', by the rows' own cells (each row's printed sentence says how): CurveTexts: laid · CurveSums: laid · CurveTimes: laid · CurveLaws: laid · CurveSame: laid · CurveEight: laid.
  DERIVED. THE GIVEN ROWS OF THIS SEAT. 6 by the template 'for every input the law returns true; each argument reads behind the call as it read before'; 0 by the template 'total and deterministic' (their statements: YtjaomgildhiddaaDoorTotals.lean).
  GIVEN WITH THE SEED: the statements are not yours to turn. If you find one false, say at which input.
  Laid BY PROGRAM, IN A SANDBOX (cutbox-rows.mjs): the forced cells as the released guide's own fill.sh prints them over the translation 3d46c67fba7ac1ac… (all of the seat's roots in one cut). By AI agents, Wed Nov 11 2026. No macro, syntax, notation, axiom, sorry.
-/
import Derived.Test.YtjaomgildhiddaaDoorChecked
import GoSem.Claim
import GoSem.ClaimJoined
import GoSem.ClaimMapViews
import Derived.JoinedTies
import Derived.KernelRfl
namespace Go.Proofs.YtjaomgildhiddaaDoor
/- THE CELL 'sum', in the pinned program and in every row, IS THE sha256 OF THE DUMP (.gsa) THAT YtjaomgildhiddaaDoorProg.lean LOADS. Nothing in Lean hashes anything: it is a label: what it is worth is what the hold of that sum in a sandbox is worth. -/
noncomputable def Tryd.pinned : Pinned := { name := "ytjaomgildhiddaadoor", sum := "3d46c67fba7ac1acce9a898487405b992747190ad27cd2a5297014871047d5fc", checked := Tryd.checked }
namespace Rows
def none {H : Type} : Left H := { results := [], args := [] }

/- WHAT THE LISTED PACKAGE-LEVEL VARIABLES READ AS WHEN THE CALL BEGINS. Each datum BY PROGRAM (the guide's laid-datum.mjs) off the statement by which the dump's own 'gosem.cut.vars' lays the variable. In a bare row this is a premise. The card (YtjaomgildhiddaaDoorCards.lean) ties it to the program's text. -/
def laid_skiff_curve_baseX {H : Type} : DataW H := .agg [.lit (.int .u8 26), .lit (.int .u8 213), .lit (.int .u8 37), .lit (.int .u8 143), .lit (.int .u8 96), .lit (.int .u8 45), .lit (.int .u8 86), .lit (.int .u8 201), .lit (.int .u8 178), .lit (.int .u8 167), .lit (.int .u8 37), .lit (.int .u8 149), .lit (.int .u8 96), .lit (.int .u8 199), .lit (.int .u8 44), .lit (.int .u8 105), .lit (.int .u8 92), .lit (.int .u8 220), .lit (.int .u8 214), .lit (.int .u8 253), .lit (.int .u8 49), .lit (.int .u8 226), .lit (.int .u8 164), .lit (.int .u8 192), .lit (.int .u8 254), .lit (.int .u8 83), .lit (.int .u8 110), .lit (.int .u8 205), .lit (.int .u8 211), .lit (.int .u8 54), .lit (.int .u8 105), .lit (.int .u8 33)]
def laid_skiff_curve_baseY {H : Type} : DataW H := .agg [.lit (.int .u8 88), .lit (.int .u8 102), .lit (.int .u8 102), .lit (.int .u8 102), .lit (.int .u8 102), .lit (.int .u8 102), .lit (.int .u8 102), .lit (.int .u8 102), .lit (.int .u8 102), .lit (.int .u8 102), .lit (.int .u8 102), .lit (.int .u8 102), .lit (.int .u8 102), .lit (.int .u8 102), .lit (.int .u8 102), .lit (.int .u8 102), .lit (.int .u8 102), .lit (.int .u8 102), .lit (.int .u8 102), .lit (.int .u8 102), .lit (.int .u8 102), .lit (.int .u8 102), .lit (.int .u8 102), .lit (.int .u8 102), .lit (.int .u8 102), .lit (.int .u8 102), .lit (.int .u8 102), .lit (.int .u8 102), .lit (.int .u8 102), .lit (.int .u8 102), .lit (.int .u8 102), .lit (.int .u8 102)]
def laid_skiff_curve_dBytes {H : Type} : DataW H := .agg [.lit (.int .u8 163), .lit (.int .u8 120), .lit (.int .u8 89), .lit (.int .u8 19), .lit (.int .u8 202), .lit (.int .u8 77), .lit (.int .u8 235), .lit (.int .u8 117), .lit (.int .u8 171), .lit (.int .u8 216), .lit (.int .u8 65), .lit (.int .u8 65), .lit (.int .u8 77), .lit (.int .u8 10), .lit (.int .u8 112), .lit (.int .u8 0), .lit (.int .u8 152), .lit (.int .u8 232), .lit (.int .u8 121), .lit (.int .u8 119), .lit (.int .u8 121), .lit (.int .u8 64), .lit (.int .u8 199), .lit (.int .u8 140), .lit (.int .u8 115), .lit (.int .u8 254), .lit (.int .u8 111), .lit (.int .u8 43), .lit (.int .u8 238), .lit (.int .u8 108), .lit (.int .u8 3), .lit (.int .u8 82)]

/-- 'skifflaw06.CurveTexts': WHATEVER THE INPUT: true; the input reads as it did. -/
def curveTextsSpec : ChangeSpec := { name := "curveTexts", fn := fun _ => fun
  | [d1, d2, d3] => { results := [.lit (.bool true)], args := [d1, d2, d3] }
  | _ => none }
def curveTextsRow : OpenClaim := { program := "ytjaomgildhiddaadoor", sum := "3d46c67fba7ac1acce9a898487405b992747190ad27cd2a5297014871047d5fc", func := "skiff/skifflaw06.CurveTexts", spec := "curveTexts", inPlace := ["math/bits.Add64"], named := ["skiff/curve.baseX", "skiff/curve.baseY"], apart := false, laid := [("skiff/curve.baseX", laid_skiff_curve_baseX), ("skiff/curve.baseY", laid_skiff_curve_baseY)] }
def CurveTextsSaid : Prop := curveTextsRow.holds Tryd.pinned (OpenSpec.ofChange curveTextsSpec)

/-- ITS FALSE NEIGHBOUR: 'it returns false'. Refute it at one input. -/
def curveTextsWrong : ChangeSpec := { name := "curveTexts", fn := fun _ => fun
  | [d1, d2, d3] => { results := [.lit (.bool false)], args := [d1, d2, d3] }
  | _ => none }
def CurveTextsWrongFalsely : Prop := curveTextsRow.holds Tryd.pinned (OpenSpec.ofChange curveTextsWrong)

/-- 'skifflaw06.CurveSums': WHATEVER THE INPUT: true; the input reads as it did. -/
def curveSumsSpec : ChangeSpec := { name := "curveSums", fn := fun _ => fun
  | [d1, d2, d3] => { results := [.lit (.bool true)], args := [d1, d2, d3] }
  | _ => none }
def curveSumsRow : OpenClaim := { program := "ytjaomgildhiddaadoor", sum := "3d46c67fba7ac1acce9a898487405b992747190ad27cd2a5297014871047d5fc", func := "skiff/skifflaw06.CurveSums", spec := "curveSums", inPlace := ["math/bits.Add64"], named := ["skiff/curve.baseX", "skiff/curve.baseY", "skiff/curve.dBytes"], apart := false, laid := [("skiff/curve.dBytes", laid_skiff_curve_dBytes), ("skiff/curve.baseX", laid_skiff_curve_baseX), ("skiff/curve.baseY", laid_skiff_curve_baseY)] }
def CurveSumsSaid : Prop := curveSumsRow.holds Tryd.pinned (OpenSpec.ofChange curveSumsSpec)

/-- ITS FALSE NEIGHBOUR: 'it returns false'. Refute it at one input. -/
def curveSumsWrong : ChangeSpec := { name := "curveSums", fn := fun _ => fun
  | [d1, d2, d3] => { results := [.lit (.bool false)], args := [d1, d2, d3] }
  | _ => none }
def CurveSumsWrongFalsely : Prop := curveSumsRow.holds Tryd.pinned (OpenSpec.ofChange curveSumsWrong)

/-- 'skifflaw06.CurveTimes': WHATEVER THE INPUT: true; the input reads as it did. -/
def curveTimesSpec : ChangeSpec := { name := "curveTimes", fn := fun _ => fun
  | [d1, d2] => { results := [.lit (.bool true)], args := [d1, d2] }
  | _ => none }
def curveTimesRow : OpenClaim := { program := "ytjaomgildhiddaadoor", sum := "3d46c67fba7ac1acce9a898487405b992747190ad27cd2a5297014871047d5fc", func := "skiff/skifflaw06.CurveTimes", spec := "curveTimes", inPlace := ["math/bits.Add64"], named := ["skiff/curve.baseX", "skiff/curve.baseY", "skiff/curve.dBytes"], apart := false, laid := [("skiff/curve.dBytes", laid_skiff_curve_dBytes), ("skiff/curve.baseX", laid_skiff_curve_baseX), ("skiff/curve.baseY", laid_skiff_curve_baseY)] }
def CurveTimesSaid : Prop := curveTimesRow.holds Tryd.pinned (OpenSpec.ofChange curveTimesSpec)

/-- ITS FALSE NEIGHBOUR: 'it returns false'. Refute it at one input. -/
def curveTimesWrong : ChangeSpec := { name := "curveTimes", fn := fun _ => fun
  | [d1, d2] => { results := [.lit (.bool false)], args := [d1, d2] }
  | _ => none }
def CurveTimesWrongFalsely : Prop := curveTimesRow.holds Tryd.pinned (OpenSpec.ofChange curveTimesWrong)

/-- 'skifflaw06.CurveLaws': WHATEVER THE INPUT: true; the input reads as it did. -/
def curveLawsSpec : ChangeSpec := { name := "curveLaws", fn := fun _ => fun
  | [d1, d2, d3, d4] => { results := [.lit (.bool true)], args := [d1, d2, d3, d4] }
  | _ => none }
def curveLawsRow : OpenClaim := { program := "ytjaomgildhiddaadoor", sum := "3d46c67fba7ac1acce9a898487405b992747190ad27cd2a5297014871047d5fc", func := "skiff/skifflaw06.CurveLaws", spec := "curveLaws", inPlace := ["math/bits.Add64"], named := ["skiff/curve.baseX", "skiff/curve.baseY", "skiff/curve.dBytes"], apart := false, laid := [("skiff/curve.dBytes", laid_skiff_curve_dBytes), ("skiff/curve.baseX", laid_skiff_curve_baseX), ("skiff/curve.baseY", laid_skiff_curve_baseY)] }
def CurveLawsSaid : Prop := curveLawsRow.holds Tryd.pinned (OpenSpec.ofChange curveLawsSpec)

/-- ITS FALSE NEIGHBOUR: 'it returns false'. Refute it at one input. -/
def curveLawsWrong : ChangeSpec := { name := "curveLaws", fn := fun _ => fun
  | [d1, d2, d3, d4] => { results := [.lit (.bool false)], args := [d1, d2, d3, d4] }
  | _ => none }
def CurveLawsWrongFalsely : Prop := curveLawsRow.holds Tryd.pinned (OpenSpec.ofChange curveLawsWrong)

/-- 'skifflaw06.CurveSame': WHATEVER THE INPUT: true; the input reads as it did. -/
def curveSameSpec : ChangeSpec := { name := "curveSame", fn := fun _ => fun
  | [d1, d2, d3] => { results := [.lit (.bool true)], args := [d1, d2, d3] }
  | _ => none }
def curveSameRow : OpenClaim := { program := "ytjaomgildhiddaadoor", sum := "3d46c67fba7ac1acce9a898487405b992747190ad27cd2a5297014871047d5fc", func := "skiff/skifflaw06.CurveSame", spec := "curveSame", inPlace := ["math/bits.Add64"], named := ["skiff/curve.baseX", "skiff/curve.baseY", "skiff/curve.dBytes"], apart := false, laid := [("skiff/curve.dBytes", laid_skiff_curve_dBytes), ("skiff/curve.baseX", laid_skiff_curve_baseX), ("skiff/curve.baseY", laid_skiff_curve_baseY)] }
def CurveSameSaid : Prop := curveSameRow.holds Tryd.pinned (OpenSpec.ofChange curveSameSpec)

/-- ITS FALSE NEIGHBOUR: 'it returns false'. Refute it at one input. -/
def curveSameWrong : ChangeSpec := { name := "curveSame", fn := fun _ => fun
  | [d1, d2, d3] => { results := [.lit (.bool false)], args := [d1, d2, d3] }
  | _ => none }
def CurveSameWrongFalsely : Prop := curveSameRow.holds Tryd.pinned (OpenSpec.ofChange curveSameWrong)

/-- 'skifflaw06.CurveEight': WHATEVER THE INPUT: true; the input reads as it did. -/
def curveEightSpec : ChangeSpec := { name := "curveEight", fn := fun _ => fun
  | [d] => { results := [.lit (.bool true)], args := [d] }
  | _ => none }
def curveEightRow : OpenClaim := { program := "ytjaomgildhiddaadoor", sum := "3d46c67fba7ac1acce9a898487405b992747190ad27cd2a5297014871047d5fc", func := "skiff/skifflaw06.CurveEight", spec := "curveEight", inPlace := ["math/bits.Add64"], named := ["skiff/curve.baseX", "skiff/curve.baseY", "skiff/curve.dBytes"], apart := false, laid := [("skiff/curve.dBytes", laid_skiff_curve_dBytes), ("skiff/curve.baseX", laid_skiff_curve_baseX), ("skiff/curve.baseY", laid_skiff_curve_baseY)] }
def CurveEightSaid : Prop := curveEightRow.holds Tryd.pinned (OpenSpec.ofChange curveEightSpec)

/-- ITS FALSE NEIGHBOUR: 'it returns false'. Refute it at one input. -/
def curveEightWrong : ChangeSpec := { name := "curveEight", fn := fun _ => fun
  | [d] => { results := [.lit (.bool false)], args := [d] }
  | _ => none }
def CurveEightWrongFalsely : Prop := curveEightRow.holds Tryd.pinned (OpenSpec.ofChange curveEightWrong)

/- THE SECOND FORM. 'bulk': how many values and letters a reading holds, each counted each time it is reached (what is shared counts as often as it is met; a slice's spare places count too). A statement '..UptoSaid' is the law's where the arguments, and the package variables that the reading takes, are together of bulk at most 1048576: NARROWER than '..Said'. Prove '..Said' where nothing that the law and all that it calls make is longer than what came in: it says more and counts as full. Else prove '..UptoSaid'. A law counts once. -/
mutual
def uptoBulk {H : Type} : DataW H → Nat
  | .lit (.string bytes) => bytes.length + 1
  | .lit _ => 1
  | .nil => 1
  | .ptr d => uptoBulk d + 1
  | .slice elems spare => uptoBulkAll elems + uptoBulkAll spare + 1
  | .agg parts => uptoBulkAll parts + 1
  | .iface _ d => uptoBulk d + 1
  | .map entries => uptoBulkEntries entries + 1
  | .held _ => 1
def uptoBulkAll {H : Type} : List (DataW H) → Nat
  | [] => 0
  | d :: r => uptoBulk d + uptoBulkAll r
def uptoBulkEntries {H : Type} : List (Lit × DataW H) → Nat
  | [] => 0
  | x :: r => uptoBulkEntry x + uptoBulkEntries r
def uptoBulkEntry {H : Type} : Lit × DataW H → Nat
  | (.string bytes, d) => bytes.length + uptoBulk d + 1
  | (_, d) => uptoBulk d + 1
 end
def uptoSmall : (H : Type) → List (DataW H) → Bool := fun _ ds => decide (uptoBulkAll ds ≤ 1048576)
def OpenSpec.upto (s : _root_.Go.ChangeSpec) : _root_.Go.OpenSpec := { _root_.Go.OpenSpec.ofChange s with cond := some uptoSmall }

/-- 'skifflaw06.CurveTexts', WHERE WHAT IT READS IS OF BULK AT MOST 1048576: true; the input reads as it did. -/
def curveTextsUptoRow : OpenClaim := { program := "ytjaomgildhiddaadoor", sum := "3d46c67fba7ac1acce9a898487405b992747190ad27cd2a5297014871047d5fc", func := "skiff/skifflaw06.CurveTexts", spec := "curveTexts", inPlace := ["math/bits.Add64"], named := ["skiff/curve.baseX", "skiff/curve.baseY"], apart := false, laid := [("skiff/curve.baseX", laid_skiff_curve_baseX), ("skiff/curve.baseY", laid_skiff_curve_baseY)], narrowed := true }
def CurveTextsUptoSaid : Prop := curveTextsUptoRow.holds Tryd.pinned (OpenSpec.upto curveTextsSpec)

/-- 'skifflaw06.CurveSums', WHERE WHAT IT READS IS OF BULK AT MOST 1048576: true; the input reads as it did. -/
def curveSumsUptoRow : OpenClaim := { program := "ytjaomgildhiddaadoor", sum := "3d46c67fba7ac1acce9a898487405b992747190ad27cd2a5297014871047d5fc", func := "skiff/skifflaw06.CurveSums", spec := "curveSums", inPlace := ["math/bits.Add64"], named := ["skiff/curve.baseX", "skiff/curve.baseY", "skiff/curve.dBytes"], apart := false, laid := [("skiff/curve.dBytes", laid_skiff_curve_dBytes), ("skiff/curve.baseX", laid_skiff_curve_baseX), ("skiff/curve.baseY", laid_skiff_curve_baseY)], narrowed := true }
def CurveSumsUptoSaid : Prop := curveSumsUptoRow.holds Tryd.pinned (OpenSpec.upto curveSumsSpec)

/-- 'skifflaw06.CurveTimes', WHERE WHAT IT READS IS OF BULK AT MOST 1048576: true; the input reads as it did. -/
def curveTimesUptoRow : OpenClaim := { program := "ytjaomgildhiddaadoor", sum := "3d46c67fba7ac1acce9a898487405b992747190ad27cd2a5297014871047d5fc", func := "skiff/skifflaw06.CurveTimes", spec := "curveTimes", inPlace := ["math/bits.Add64"], named := ["skiff/curve.baseX", "skiff/curve.baseY", "skiff/curve.dBytes"], apart := false, laid := [("skiff/curve.dBytes", laid_skiff_curve_dBytes), ("skiff/curve.baseX", laid_skiff_curve_baseX), ("skiff/curve.baseY", laid_skiff_curve_baseY)], narrowed := true }
def CurveTimesUptoSaid : Prop := curveTimesUptoRow.holds Tryd.pinned (OpenSpec.upto curveTimesSpec)

/-- 'skifflaw06.CurveLaws', WHERE WHAT IT READS IS OF BULK AT MOST 1048576: true; the input reads as it did. -/
def curveLawsUptoRow : OpenClaim := { program := "ytjaomgildhiddaadoor", sum := "3d46c67fba7ac1acce9a898487405b992747190ad27cd2a5297014871047d5fc", func := "skiff/skifflaw06.CurveLaws", spec := "curveLaws", inPlace := ["math/bits.Add64"], named := ["skiff/curve.baseX", "skiff/curve.baseY", "skiff/curve.dBytes"], apart := false, laid := [("skiff/curve.dBytes", laid_skiff_curve_dBytes), ("skiff/curve.baseX", laid_skiff_curve_baseX), ("skiff/curve.baseY", laid_skiff_curve_baseY)], narrowed := true }
def CurveLawsUptoSaid : Prop := curveLawsUptoRow.holds Tryd.pinned (OpenSpec.upto curveLawsSpec)

/-- 'skifflaw06.CurveSame', WHERE WHAT IT READS IS OF BULK AT MOST 1048576: true; the input reads as it did. -/
def curveSameUptoRow : OpenClaim := { program := "ytjaomgildhiddaadoor", sum := "3d46c67fba7ac1acce9a898487405b992747190ad27cd2a5297014871047d5fc", func := "skiff/skifflaw06.CurveSame", spec := "curveSame", inPlace := ["math/bits.Add64"], named := ["skiff/curve.baseX", "skiff/curve.baseY", "skiff/curve.dBytes"], apart := false, laid := [("skiff/curve.dBytes", laid_skiff_curve_dBytes), ("skiff/curve.baseX", laid_skiff_curve_baseX), ("skiff/curve.baseY", laid_skiff_curve_baseY)], narrowed := true }
def CurveSameUptoSaid : Prop := curveSameUptoRow.holds Tryd.pinned (OpenSpec.upto curveSameSpec)

/-- 'skifflaw06.CurveEight', WHERE WHAT IT READS IS OF BULK AT MOST 1048576: true; the input reads as it did. -/
def curveEightUptoRow : OpenClaim := { program := "ytjaomgildhiddaadoor", sum := "3d46c67fba7ac1acce9a898487405b992747190ad27cd2a5297014871047d5fc", func := "skiff/skifflaw06.CurveEight", spec := "curveEight", inPlace := ["math/bits.Add64"], named := ["skiff/curve.baseX", "skiff/curve.baseY", "skiff/curve.dBytes"], apart := false, laid := [("skiff/curve.dBytes", laid_skiff_curve_dBytes), ("skiff/curve.baseX", laid_skiff_curve_baseX), ("skiff/curve.baseY", laid_skiff_curve_baseY)], narrowed := true }
def CurveEightUptoSaid : Prop := curveEightUptoRow.holds Tryd.pinned (OpenSpec.upto curveEightSpec)

end Rows
end Go.Proofs.YtjaomgildhiddaaDoor
