/-
  NARROWER THAN 'FOR EVERY INPUT', by the rows' own cells (each row's printed sentence says how): GuardKeys: laid · GuardSeals: laid · GuardBack: laid · GuardOpens: laid · GuardRow: laid.
  DERIVED. THE GIVEN ROWS OF THIS SEAT. 5 by the template 'for every input the law returns true; each argument reads behind the call as it read before'; 0 by the template 'total and deterministic' (their statements: YtpihgljdbpnehaaDoorTotals.lean).
  GIVEN WITH THE SEED: the statements are not yours to turn. If you find one false, say at which input.
  Laid BY PROGRAM, IN A SANDBOX (cutbox-rows.mjs): the forced cells as the released guide's own fill.sh prints them over the translation d953335df09d9ff5… (all of the seat's roots in one cut). By AI agents, Wed Nov 11 2026. No macro, syntax, notation, axiom, sorry.
-/
import Derived.Test.YtpihgljdbpnehaaDoorChecked
import GoSem.Claim
import GoSem.ClaimJoined
import GoSem.ClaimMapViews
import Derived.JoinedTies
import Derived.KernelRfl
namespace Go.Proofs.YtpihgljdbpnehaaDoor
/- THE CELL 'sum', in the pinned program and in every row, IS THE sha256 OF THE DUMP (.gsa) THAT YtpihgljdbpnehaaDoorProg.lean LOADS. Nothing in Lean hashes anything: it is a label: what it is worth is what the hold of that sum in a sandbox is worth. -/
noncomputable def Tryd.pinned : Pinned := { name := "ytpihgljdbpnehaadoor", sum := "d953335df09d9ff5b1718d9b6ac81a18383cfdc4bed68ee15e43cfaa468fb640", checked := Tryd.checked }
namespace Rows
def none {H : Type} : Left H := { results := [], args := [] }

/- WHAT THE LISTED PACKAGE-LEVEL VARIABLES READ AS WHEN THE CALL BEGINS. Each datum BY PROGRAM (the guide's laid-datum.mjs) off the statement by which the dump's own 'gosem.cut.vars' lays the variable. In a bare row this is a premise. The card (YtpihgljdbpnehaaDoorCards.lean) ties it to the program's text. -/
def laid_skiff_sha2_squareRoots {H : Type} : DataW H := .agg [.lit (.int .u64 7640891576956012808), .lit (.int .u64 13503953896175478587), .lit (.int .u64 4354685564936845355), .lit (.int .u64 11912009170470909681), .lit (.int .u64 5840696475078001361), .lit (.int .u64 11170449401992604703), .lit (.int .u64 2270897969802886507), .lit (.int .u64 6620516959819538809)]
def laid_skiff_sha2_cubeRoots {H : Type} : DataW H := .agg [.lit (.int .u64 4794697086780616226), .lit (.int .u64 8158064640168781261), .lit (.int .u64 13096744586834688815), .lit (.int .u64 16840607885511220156), .lit (.int .u64 4131703408338449720), .lit (.int .u64 6480981068601479193), .lit (.int .u64 10538285296894168987), .lit (.int .u64 12329834152419229976), .lit (.int .u64 15566598209576043074), .lit (.int .u64 1334009975649890238), .lit (.int .u64 2608012711638119052), .lit (.int .u64 6128411473006802146), .lit (.int .u64 8268148722764581231), .lit (.int .u64 9286055187155687089), .lit (.int .u64 11230858885718282805), .lit (.int .u64 13951009754708518548), .lit (.int .u64 16472876342353939154), .lit (.int .u64 17275323862435702243), .lit (.int .u64 1135362057144423861), .lit (.int .u64 2597628984639134821), .lit (.int .u64 3308224258029322869), .lit (.int .u64 5365058923640841347), .lit (.int .u64 6679025012923562964), .lit (.int .u64 8573033837759648693), .lit (.int .u64 10970295158949994411), .lit (.int .u64 12119686244451234320), .lit (.int .u64 12683024718118986047), .lit (.int .u64 13788192230050041572), .lit (.int .u64 14330467153632333762), .lit (.int .u64 15395433587784984357), .lit (.int .u64 489312712824947311), .lit (.int .u64 1452737877330783856), .lit (.int .u64 2861767655752347644), .lit (.int .u64 3322285676063803686), .lit (.int .u64 5560940570517711597), .lit (.int .u64 5996557281743188959), .lit (.int .u64 7280758554555802590), .lit (.int .u64 8532644243296465576), .lit (.int .u64 9350256976987008742), .lit (.int .u64 10552545826968843579), .lit (.int .u64 11727347734174303076), .lit (.int .u64 12113106623233404929), .lit (.int .u64 14000437183269869457), .lit (.int .u64 14369950271660146224), .lit (.int .u64 15101387698204529176), .lit (.int .u64 15463397548674623760), .lit (.int .u64 17586052441742319658), .lit (.int .u64 1182934255886127544), .lit (.int .u64 1847814050463011016), .lit (.int .u64 2177327727835720531), .lit (.int .u64 2830643537854262169), .lit (.int .u64 3796741975233480872), .lit (.int .u64 4115178125766777443), .lit (.int .u64 5681478168544905931), .lit (.int .u64 6601373596472566643), .lit (.int .u64 7507060721942968483), .lit (.int .u64 8399075790359081724), .lit (.int .u64 8693463985226723168), .lit (.int .u64 9568029438360202098), .lit (.int .u64 10144078919501101548), .lit (.int .u64 10430055236837252648), .lit (.int .u64 11840083180663258601), .lit (.int .u64 13761210420658862357), .lit (.int .u64 14299343276471374635), .lit (.int .u64 14566680578165727644), .lit (.int .u64 15097957966210449927), .lit (.int .u64 16922976911328602910), .lit (.int .u64 17689382322260857208), .lit (.int .u64 500013540394364858), .lit (.int .u64 748580250866718886), .lit (.int .u64 1242879168328830382), .lit (.int .u64 1977374033974150939), .lit (.int .u64 2944078676154940804), .lit (.int .u64 3659926193048069267), .lit (.int .u64 4368137639120453308), .lit (.int .u64 4836135668995329356), .lit (.int .u64 5532061633213252278), .lit (.int .u64 6448918945643986474), .lit (.int .u64 6902733635092675308), .lit (.int .u64 7801388544844847127)]
def laid_skiff_skiffref03_thirds {H : Type} : DataW H := .agg [.lit (.int .u64 4794697086780616226), .lit (.int .u64 8158064640168781261), .lit (.int .u64 13096744586834688815), .lit (.int .u64 16840607885511220156), .lit (.int .u64 4131703408338449720), .lit (.int .u64 6480981068601479193), .lit (.int .u64 10538285296894168987), .lit (.int .u64 12329834152419229976), .lit (.int .u64 15566598209576043074), .lit (.int .u64 1334009975649890238), .lit (.int .u64 2608012711638119052), .lit (.int .u64 6128411473006802146), .lit (.int .u64 8268148722764581231), .lit (.int .u64 9286055187155687089), .lit (.int .u64 11230858885718282805), .lit (.int .u64 13951009754708518548), .lit (.int .u64 16472876342353939154), .lit (.int .u64 17275323862435702243), .lit (.int .u64 1135362057144423861), .lit (.int .u64 2597628984639134821), .lit (.int .u64 3308224258029322869), .lit (.int .u64 5365058923640841347), .lit (.int .u64 6679025012923562964), .lit (.int .u64 8573033837759648693), .lit (.int .u64 10970295158949994411), .lit (.int .u64 12119686244451234320), .lit (.int .u64 12683024718118986047), .lit (.int .u64 13788192230050041572), .lit (.int .u64 14330467153632333762), .lit (.int .u64 15395433587784984357), .lit (.int .u64 489312712824947311), .lit (.int .u64 1452737877330783856), .lit (.int .u64 2861767655752347644), .lit (.int .u64 3322285676063803686), .lit (.int .u64 5560940570517711597), .lit (.int .u64 5996557281743188959), .lit (.int .u64 7280758554555802590), .lit (.int .u64 8532644243296465576), .lit (.int .u64 9350256976987008742), .lit (.int .u64 10552545826968843579), .lit (.int .u64 11727347734174303076), .lit (.int .u64 12113106623233404929), .lit (.int .u64 14000437183269869457), .lit (.int .u64 14369950271660146224), .lit (.int .u64 15101387698204529176), .lit (.int .u64 15463397548674623760), .lit (.int .u64 17586052441742319658), .lit (.int .u64 1182934255886127544), .lit (.int .u64 1847814050463011016), .lit (.int .u64 2177327727835720531), .lit (.int .u64 2830643537854262169), .lit (.int .u64 3796741975233480872), .lit (.int .u64 4115178125766777443), .lit (.int .u64 5681478168544905931), .lit (.int .u64 6601373596472566643), .lit (.int .u64 7507060721942968483), .lit (.int .u64 8399075790359081724), .lit (.int .u64 8693463985226723168), .lit (.int .u64 9568029438360202098), .lit (.int .u64 10144078919501101548), .lit (.int .u64 10430055236837252648), .lit (.int .u64 11840083180663258601), .lit (.int .u64 13761210420658862357), .lit (.int .u64 14299343276471374635), .lit (.int .u64 14566680578165727644), .lit (.int .u64 15097957966210449927), .lit (.int .u64 16922976911328602910), .lit (.int .u64 17689382322260857208), .lit (.int .u64 500013540394364858), .lit (.int .u64 748580250866718886), .lit (.int .u64 1242879168328830382), .lit (.int .u64 1977374033974150939), .lit (.int .u64 2944078676154940804), .lit (.int .u64 3659926193048069267), .lit (.int .u64 4368137639120453308), .lit (.int .u64 4836135668995329356), .lit (.int .u64 5532061633213252278), .lit (.int .u64 6448918945643986474), .lit (.int .u64 6902733635092675308), .lit (.int .u64 7801388544844847127)]
def laid_skiff_skiffref03_seconds {H : Type} : DataW H := .agg [.lit (.int .u64 7640891576956012808), .lit (.int .u64 13503953896175478587), .lit (.int .u64 4354685564936845355), .lit (.int .u64 11912009170470909681), .lit (.int .u64 5840696475078001361), .lit (.int .u64 11170449401992604703), .lit (.int .u64 2270897969802886507), .lit (.int .u64 6620516959819538809)]

/-- 'skifflaw13.GuardKeys': WHATEVER THE INPUT: true; the input reads as it did. -/
def guardKeysSpec : ChangeSpec := { name := "guardKeys", fn := fun _ => fun
  | [d1, d2] => { results := [.lit (.bool true)], args := [d1, d2] }
  | _ => none }
def guardKeysRow : OpenClaim := { program := "ytpihgljdbpnehaadoor", sum := "d953335df09d9ff5b1718d9b6ac81a18383cfdc4bed68ee15e43cfaa468fb640", func := "skiff/skifflaw13.GuardKeys", spec := "guardKeys", unfollowed := true, recurses := true, named := ["skiff/sha2.squareRoots", "skiff/sha2.cubeRoots", "skiff/skiffref03.thirds", "skiff/skiffref03.seconds"], apart := false, laid := [("skiff/sha2.squareRoots", laid_skiff_sha2_squareRoots), ("skiff/sha2.cubeRoots", laid_skiff_sha2_cubeRoots), ("skiff/skiffref03.thirds", laid_skiff_skiffref03_thirds), ("skiff/skiffref03.seconds", laid_skiff_skiffref03_seconds)] }
def GuardKeysSaid : Prop := guardKeysRow.holds Tryd.pinned (OpenSpec.ofChange guardKeysSpec)

/-- ITS FALSE NEIGHBOUR: 'it returns false'. Refute it at one input. -/
def guardKeysWrong : ChangeSpec := { name := "guardKeys", fn := fun _ => fun
  | [d1, d2] => { results := [.lit (.bool false)], args := [d1, d2] }
  | _ => none }
def GuardKeysWrongFalsely : Prop := guardKeysRow.holds Tryd.pinned (OpenSpec.ofChange guardKeysWrong)

/-- 'skifflaw13.GuardSeals': WHATEVER THE INPUT: true; the input reads as it did. -/
def guardSealsSpec : ChangeSpec := { name := "guardSeals", fn := fun _ => fun
  | [d] => { results := [.lit (.bool true)], args := [d] }
  | _ => none }
def guardSealsRow : OpenClaim := { program := "ytpihgljdbpnehaadoor", sum := "d953335df09d9ff5b1718d9b6ac81a18383cfdc4bed68ee15e43cfaa468fb640", func := "skiff/skifflaw13.GuardSeals", spec := "guardSeals", unfollowed := true, recurses := true, named := ["skiff/sha2.squareRoots", "skiff/sha2.cubeRoots"], apart := false, laid := [("skiff/sha2.squareRoots", laid_skiff_sha2_squareRoots), ("skiff/sha2.cubeRoots", laid_skiff_sha2_cubeRoots)] }
def GuardSealsSaid : Prop := guardSealsRow.holds Tryd.pinned (OpenSpec.ofChange guardSealsSpec)

/-- ITS FALSE NEIGHBOUR: 'it returns false'. Refute it at one input. -/
def guardSealsWrong : ChangeSpec := { name := "guardSeals", fn := fun _ => fun
  | [d] => { results := [.lit (.bool false)], args := [d] }
  | _ => none }
def GuardSealsWrongFalsely : Prop := guardSealsRow.holds Tryd.pinned (OpenSpec.ofChange guardSealsWrong)

/-- 'skifflaw13.GuardBack': WHATEVER THE INPUT: true; the input reads as it did. -/
def guardBackSpec : ChangeSpec := { name := "guardBack", fn := fun _ => fun
  | [d1, d2, d3] => { results := [.lit (.bool true)], args := [d1, d2, d3] }
  | _ => none }
def guardBackRow : OpenClaim := { program := "ytpihgljdbpnehaadoor", sum := "d953335df09d9ff5b1718d9b6ac81a18383cfdc4bed68ee15e43cfaa468fb640", func := "skiff/skifflaw13.GuardBack", spec := "guardBack", unfollowed := true, recurses := true, named := ["skiff/sha2.squareRoots", "skiff/sha2.cubeRoots"], apart := false, laid := [("skiff/sha2.squareRoots", laid_skiff_sha2_squareRoots), ("skiff/sha2.cubeRoots", laid_skiff_sha2_cubeRoots)] }
def GuardBackSaid : Prop := guardBackRow.holds Tryd.pinned (OpenSpec.ofChange guardBackSpec)

/-- ITS FALSE NEIGHBOUR: 'it returns false'. Refute it at one input. -/
def guardBackWrong : ChangeSpec := { name := "guardBack", fn := fun _ => fun
  | [d1, d2, d3] => { results := [.lit (.bool false)], args := [d1, d2, d3] }
  | _ => none }
def GuardBackWrongFalsely : Prop := guardBackRow.holds Tryd.pinned (OpenSpec.ofChange guardBackWrong)

/-- 'skifflaw13.GuardOpens': WHATEVER THE INPUT: true; the input reads as it did. -/
def guardOpensSpec : ChangeSpec := { name := "guardOpens", fn := fun _ => fun
  | [d1, d2, d3, d4, d5, d6, d7, d8] => { results := [.lit (.bool true)], args := [d1, d2, d3, d4, d5, d6, d7, d8] }
  | _ => none }
def guardOpensRow : OpenClaim := { program := "ytpihgljdbpnehaadoor", sum := "d953335df09d9ff5b1718d9b6ac81a18383cfdc4bed68ee15e43cfaa468fb640", func := "skiff/skifflaw13.GuardOpens", spec := "guardOpens", unfollowed := true, recurses := true, named := ["skiff/sha2.squareRoots", "skiff/sha2.cubeRoots"], apart := false, laid := [("skiff/sha2.squareRoots", laid_skiff_sha2_squareRoots), ("skiff/sha2.cubeRoots", laid_skiff_sha2_cubeRoots)] }
def GuardOpensSaid : Prop := guardOpensRow.holds Tryd.pinned (OpenSpec.ofChange guardOpensSpec)

/-- ITS FALSE NEIGHBOUR: 'it returns false'. Refute it at one input. -/
def guardOpensWrong : ChangeSpec := { name := "guardOpens", fn := fun _ => fun
  | [d1, d2, d3, d4, d5, d6, d7, d8] => { results := [.lit (.bool false)], args := [d1, d2, d3, d4, d5, d6, d7, d8] }
  | _ => none }
def GuardOpensWrongFalsely : Prop := guardOpensRow.holds Tryd.pinned (OpenSpec.ofChange guardOpensWrong)

/-- 'skifflaw13.GuardRow': WHATEVER THE INPUT: true; the input reads as it did. -/
def guardRowSpec : ChangeSpec := { name := "guardRow", fn := fun _ => fun
  | [d1, d2, d3, d4] => { results := [.lit (.bool true)], args := [d1, d2, d3, d4] }
  | _ => none }
def guardRowRow : OpenClaim := { program := "ytpihgljdbpnehaadoor", sum := "d953335df09d9ff5b1718d9b6ac81a18383cfdc4bed68ee15e43cfaa468fb640", func := "skiff/skifflaw13.GuardRow", spec := "guardRow", unfollowed := true, recurses := true, named := ["skiff/sha2.squareRoots", "skiff/sha2.cubeRoots"], apart := false, laid := [("skiff/sha2.squareRoots", laid_skiff_sha2_squareRoots), ("skiff/sha2.cubeRoots", laid_skiff_sha2_cubeRoots)] }
def GuardRowSaid : Prop := guardRowRow.holds Tryd.pinned (OpenSpec.ofChange guardRowSpec)

/-- ITS FALSE NEIGHBOUR: 'it returns false'. Refute it at one input. -/
def guardRowWrong : ChangeSpec := { name := "guardRow", fn := fun _ => fun
  | [d1, d2, d3, d4] => { results := [.lit (.bool false)], args := [d1, d2, d3, d4] }
  | _ => none }
def GuardRowWrongFalsely : Prop := guardRowRow.holds Tryd.pinned (OpenSpec.ofChange guardRowWrong)

/- THE SECOND FORM. 'bulk': how many values and letters a reading holds, each counted each time it is reached (what is shared counts as often as it is met; a slice's spare places count too). A statement '..UptoSaid' is the law's where the arguments, and the package variables that the reading takes, are together of bulk at most 1048576: NARROWER than '..Said'. Prove '..Said' where nothing that the law and all that it calls make is longer than what came in: it says more and counts as full. Else prove '..UptoSaid'. A law counts once. -/
mutual
def uptoBulk {H : Type} : DataW H → Nat
  | .lit (.string bytes) => bytes.length + 1
  | .lit _ => 1
  | .nil => 1
  | .ptr d => uptoBulk d + 1
  | .slice elems spare => uptoBulkAll elems + uptoBulkAll spare + 1
  | .agg parts => uptoBulkAll parts + 1
  | .iface _ d => uptoBulk d + 1
  | .map entries => uptoBulkEntries entries + 1
  | .held _ => 1
def uptoBulkAll {H : Type} : List (DataW H) → Nat
  | [] => 0
  | d :: r => uptoBulk d + uptoBulkAll r
def uptoBulkEntries {H : Type} : List (Lit × DataW H) → Nat
  | [] => 0
  | x :: r => uptoBulkEntry x + uptoBulkEntries r
def uptoBulkEntry {H : Type} : Lit × DataW H → Nat
  | (.string bytes, d) => bytes.length + uptoBulk d + 1
  | (_, d) => uptoBulk d + 1
 end
def uptoSmall : (H : Type) → List (DataW H) → Bool := fun _ ds => decide (uptoBulkAll ds ≤ 1048576)
def OpenSpec.upto (s : _root_.Go.ChangeSpec) : _root_.Go.OpenSpec := { _root_.Go.OpenSpec.ofChange s with cond := some uptoSmall }

/-- 'skifflaw13.GuardKeys', WHERE WHAT IT READS IS OF BULK AT MOST 1048576: true; the input reads as it did. -/
def guardKeysUptoRow : OpenClaim := { program := "ytpihgljdbpnehaadoor", sum := "d953335df09d9ff5b1718d9b6ac81a18383cfdc4bed68ee15e43cfaa468fb640", func := "skiff/skifflaw13.GuardKeys", spec := "guardKeys", unfollowed := true, recurses := true, named := ["skiff/sha2.squareRoots", "skiff/sha2.cubeRoots", "skiff/skiffref03.thirds", "skiff/skiffref03.seconds"], apart := false, laid := [("skiff/sha2.squareRoots", laid_skiff_sha2_squareRoots), ("skiff/sha2.cubeRoots", laid_skiff_sha2_cubeRoots), ("skiff/skiffref03.thirds", laid_skiff_skiffref03_thirds), ("skiff/skiffref03.seconds", laid_skiff_skiffref03_seconds)], narrowed := true }
def GuardKeysUptoSaid : Prop := guardKeysUptoRow.holds Tryd.pinned (OpenSpec.upto guardKeysSpec)

/-- 'skifflaw13.GuardSeals', WHERE WHAT IT READS IS OF BULK AT MOST 1048576: true; the input reads as it did. -/
def guardSealsUptoRow : OpenClaim := { program := "ytpihgljdbpnehaadoor", sum := "d953335df09d9ff5b1718d9b6ac81a18383cfdc4bed68ee15e43cfaa468fb640", func := "skiff/skifflaw13.GuardSeals", spec := "guardSeals", unfollowed := true, recurses := true, named := ["skiff/sha2.squareRoots", "skiff/sha2.cubeRoots"], apart := false, laid := [("skiff/sha2.squareRoots", laid_skiff_sha2_squareRoots), ("skiff/sha2.cubeRoots", laid_skiff_sha2_cubeRoots)], narrowed := true }
def GuardSealsUptoSaid : Prop := guardSealsUptoRow.holds Tryd.pinned (OpenSpec.upto guardSealsSpec)

/-- 'skifflaw13.GuardBack', WHERE WHAT IT READS IS OF BULK AT MOST 1048576: true; the input reads as it did. -/
def guardBackUptoRow : OpenClaim := { program := "ytpihgljdbpnehaadoor", sum := "d953335df09d9ff5b1718d9b6ac81a18383cfdc4bed68ee15e43cfaa468fb640", func := "skiff/skifflaw13.GuardBack", spec := "guardBack", unfollowed := true, recurses := true, named := ["skiff/sha2.squareRoots", "skiff/sha2.cubeRoots"], apart := false, laid := [("skiff/sha2.squareRoots", laid_skiff_sha2_squareRoots), ("skiff/sha2.cubeRoots", laid_skiff_sha2_cubeRoots)], narrowed := true }
def GuardBackUptoSaid : Prop := guardBackUptoRow.holds Tryd.pinned (OpenSpec.upto guardBackSpec)

/-- 'skifflaw13.GuardOpens', WHERE WHAT IT READS IS OF BULK AT MOST 1048576: true; the input reads as it did. -/
def guardOpensUptoRow : OpenClaim := { program := "ytpihgljdbpnehaadoor", sum := "d953335df09d9ff5b1718d9b6ac81a18383cfdc4bed68ee15e43cfaa468fb640", func := "skiff/skifflaw13.GuardOpens", spec := "guardOpens", unfollowed := true, recurses := true, named := ["skiff/sha2.squareRoots", "skiff/sha2.cubeRoots"], apart := false, laid := [("skiff/sha2.squareRoots", laid_skiff_sha2_squareRoots), ("skiff/sha2.cubeRoots", laid_skiff_sha2_cubeRoots)], narrowed := true }
def GuardOpensUptoSaid : Prop := guardOpensUptoRow.holds Tryd.pinned (OpenSpec.upto guardOpensSpec)

/-- 'skifflaw13.GuardRow', WHERE WHAT IT READS IS OF BULK AT MOST 1048576: true; the input reads as it did. -/
def guardRowUptoRow : OpenClaim := { program := "ytpihgljdbpnehaadoor", sum := "d953335df09d9ff5b1718d9b6ac81a18383cfdc4bed68ee15e43cfaa468fb640", func := "skiff/skifflaw13.GuardRow", spec := "guardRow", unfollowed := true, recurses := true, named := ["skiff/sha2.squareRoots", "skiff/sha2.cubeRoots"], apart := false, laid := [("skiff/sha2.squareRoots", laid_skiff_sha2_squareRoots), ("skiff/sha2.cubeRoots", laid_skiff_sha2_cubeRoots)], narrowed := true }
def GuardRowUptoSaid : Prop := guardRowUptoRow.holds Tryd.pinned (OpenSpec.upto guardRowSpec)

end Rows
end Go.Proofs.YtpihgljdbpnehaaDoor
