/- HelloAnswers returns true at every answer, all parameters, every list of bytes and every lists of places and bits to be turned (nil ones too), and leaves what it was given as it was. Conditions: the five variables that it reads (the two tables of sha2, the three of curve) hold what the program's text lays in them (tied by the card). -/
import Derived.Test.YtegbnadnodlalaaGreatDoorRows
import Derived.Test.YtegbnadnodlalaaGreatDoorTie
import Derived.Test.YtegbnadnodlalaaGreatDoorCards
import Derived.Test.YtegbnadnodlalaaGreatDoorWm
import Derived.Test.YtegbnadnodlalaaGreatDoorLd0Lr
import Derived.Test.YtegbnadnodlalaaGreatDoorGZh0GTq
import Derived.SevenTiedAt
namespace Go.Proofs.YtegbnadnodlalaaGreatDoor
open Go.ChangeShapes Go.WideShapes Go.ChangeAt Go.RowKit
theorem own : ownKnob Tryz.prog.godebug = none := by kernel_rfl
theorem laid : laidOutB Tryz.prog = true := by kernel_rfl
theorem rows_answer : Tryz.prog.readableRec 25 = true ∧ 25 < Tryz.prog.types.size := ⟨by kernel_rfl, of_decide_eq_true (by kernel_rfl)⟩
theorem rows_bytes : Tryz.prog.readableRec 29 = true ∧ 29 < Tryz.prog.types.size := ⟨by kernel_rfl, of_decide_eq_true (by kernel_rfl)⟩
theorem rows_ints : Tryz.prog.readableRec 30 = true ∧ 30 < Tryz.prog.types.size := ⟨by kernel_rfl, of_decide_eq_true (by kernel_rfl)⟩
theorem rows_params : Tryz.prog.readableRec 28 = true ∧ 28 < Tryz.prog.types.size := ⟨by kernel_rfl, of_decide_eq_true (by kernel_rfl)⟩
/-- The door's own heap meets the condition. -/
theorem door_met (os : Os) (args : Array Value) : laidMetH Tryz.prog Rows.helloAnswersRow.laid ((World.doorLaid Tryz.prog 34 os).forCall (fun _ _ => 0) ⟨#[], args, []⟩).memory :=
 laidMetH_of_parts3 (fuel := 8) (laidMet_of_run' 8 (by kernel_rfl) (by kernel_rfl)) (by kernel_rfl) (by kernel_rfl)
set_option maxHeartbeats 1000000 in
set_option maxRecDepth 100000 in
theorem answers_lifted (os : Os) (started : os.Started) (H : Type) (enc : TypeId × Value → H) :
  ReturnsInHanded {} Tryz.checked os 3 .any (fun w args => (Rows.helloAnswersSpec.pre enc Tryz.prog Tryz.f3 [] false w args ∧ laidMetH Tryz.prog Rows.helloAnswersRow.laid w) ∧ sizedMet enc Tryz.prog Tryz.f3 (OpenSpec.ofChange Rows.helloAnswersSpec) false w args)
   (Rows.helloAnswersSpec.post enc Tryz.prog Tryz.f3 false true false false) := by
 refine returnsInHanded_of_change_and (C := Tryz.checked) (X := fun w _ => laidMetH Tryz.prog Rows.helloAnswersRow.laid w) (fun _ _ _ hh h => h.of_heap hh) own started (by kernel_rfl) Tryz.func3
  (ChangeSpec.witness_shaped (enc := enc) (C := Tryz.checked) (os := os) (X := fun w _ => laidMetH Tryz.prog Rows.helloAnswersRow.laid w) false (World.doorLaid Tryz.prog 34 os) #[.agg #[.int .u8 0, .int .u8 0, .int .u8 0, .int .u8 0, .int .u8 0, .int .u8 0, .int .u8 0, .int .u8 0, .int .u8 0, .int .u8 0, .int .u8 0, .int .u8 0, .int .u8 0, .int .u8 0, .int .u8 0, .int .u8 0, .int .u8 0, .int .u8 0, .int .u8 0, .int .u8 0, .int .u8 0, .int .u8 0, .int .u8 0, .int .u8 0, .int .u8 0, .int .u8 0, .int .u8 0, .int .u8 0, .int .u8 0, .int .u8 0, .int .u8 0, .int .u8 0, .int .u8 0, .int .u8 0, .int .u8 0, .int .u8 0, .int .u8 0, .int .u8 0, .int .u8 0, .int .u8 0, .int .u8 0, .int .u8 0, .int .u8 0, .int .u8 0, .int .u8 0, .int .u8 0, .int .u8 0, .int .u8 0, .int .u8 0, .int .u8 0, .int .u8 0, .int .u8 0, .int .u8 0, .int .u8 0, .int .u8 0, .int .u8 0, .int .u8 0, .int .u8 0, .int .u8 0, .int .u8 0, .int .u8 0, .int .u8 0, .int .u8 0, .int .u8 0, .bool false], .agg #[.int .u64 0, .int .u64 0, .int .u64 0, .int .u64 0], .slice none 0 0, .slice none 0 0, .slice none 0 0] 8 rfl (World.shaped_of_RefB (by kernel_rfl) (by kernel_rfl)) (by kernel_rfl) (by kernel_rfl) (by kernel_rfl) (door_met os _)) ?_
 intro W base args ds gs before hval0 hW _ _ hL _
 have hval : ∀ (j : Nat) t v, Tryz.f3.params[j]? = some t → args[j]? = some v → Value.okWide Tryz.prog W .any base t v := hval0
 have hW' := hW
 obtain ⟨p, q, hA0, hV, rfl, _, _⟩ := hW
 have hA : DataW.TrodAll enc Tryz.prog W 0 (fun _ => true) true Tryz.f3.params.toList args.toList ds p := hA0
 have hA1 := hA
 rw [Tryz.params3] at hA hval
 obtain ⟨v0, v1, v2, v3, v4, d0, d1, d2, d3, d4, p0, p1, p2, p3, p4, rfl, rfl, rfl, h0, h1, h2, h3, h4⟩ := trodAll_five hA
 obtain ⟨rfl, rfl⟩ := trodVars_none hV
 obtain ⟨r0, s0, b0, rfl, lr0, br0, lss0, bss0⟩ := open_answer (hval 0 25 v0 rfl rfl) h0
 obtain ⟨a1, b1, c1, d1, rfl, pa1, pb1, pc1, pd1⟩ := open_params (hval 1 28 v1 rfl rfl) h1
 obtain ⟨pt2, c2, l2, rfl, S2, hb2, _⟩ := open_bytes (hval 2 29 v2 rfl rfl) h2
 obtain ⟨pt3, n3, c3, rfl, SZ3⟩ := open_nums (hval 3 30 v3 rfl rfl) h3
 obtain ⟨pt4, c4, l4, rfl, S4, hb4, _⟩ := open_bytes (hval 4 29 v4 rfl rfl) h4
 clear hA0 hval0
 rw [List.append_nil] at hW'
 rw [MakeChecks.laidMetH_plain _ _ _ (by kernel_rfl)] at hL
 have GD := d_of_laid hL
 obtain ⟨GX, GY⟩ := xy_of_laid (laidMet.tail hL)
 obtain ⟨T, Q⟩ := H5.tab_of_laid (laidMet.tail (laidMet.tail (laidMet.tail hL)))
 have SS : SW H5.cuT H5.sqT W := ⟨T, Q, GX, GY, GD⟩
 have AW : AwakeC W := fun w h => awake14_c H5.cuT H5.sqT w (SS.below h)
 refine (answers_c r0 s0 b0 lr0 lss0 br0 bss0 a1 b1 c1 d1 pa1 pb1 pc1 pd1 l2 hb2 pt2 c2 pt3 n3 c3 l4 hb4 pt4 _ c4 W S2 SZ3 S4 AW).mono fun e W' ⟨he, hb⟩ => ?_
 subst he
 refine ⟨_, rfl, post_reads (gs := []) (pv := []) laid ?_ hW' hA1 (fun _ _ _ => trodAll_mk1 (shut_bool Tryz.underlying4 _)) rfl (fun _ => rfl) rfl hb (ok_one (by kernel_rfl) rfl (okWide_bool_mk Tryz.underlying4 _))⟩
 rw [Tryz.params3]
 intro t ht
 simp only [List.mem_cons, List.not_mem_nil, or_false] at ht
 rcases ht with rfl | rfl | rfl | rfl | rfl
 · exact rows_answer
 · exact rows_params
 · exact rows_bytes
 · exact rows_ints
 · exact rows_bytes
theorem answers_row : Rows.HelloAnswersSaid :=
 OpenClaim.holds_of_wide 3 Tryz.f3 rfl rfl rfl rfl rfl rfl rfl ⟨rfl, rfl, rfl, rfl, rfl⟩ rfl rfl rfl rfl rfl (by kernel_rfl) Tryz.func3 (by kernel_rfl)
  (of_decide_eq_true (by kernel_rfl)) (by unfold Func.isWrapper; first | (rw [if_pos (by decide +kernel)]; kernel_rfl) | (rw [if_neg (by decide +kernel)]; exact ⟨rfl, rfl⟩))
  (fun os started H enc _ => answers_lifted os started H enc)
theorem helloAnswers_holds : Rows.HelloAnswersCardSaid :=
 Claim7.holds_tied_plain_at .later [] [.data, .data, .data, .data, .data] true Rows.helloAnswersCard.stood.harness false
  answers_row (fun _ h => by cases h) (by kernel_rfl) (fun _ h => by cases h) helloAnswers_row_tie rfl ⟨rfl, rfl⟩ (by kernel_rfl) rfl
  (fun f fn hf hfn => by
   obtain rfl : f = 3 := Option.some.inj ((show Tryz.prog.funcNamed "skiff/skifflaw14.HelloAnswers" = some 3 by kernel_rfl).symm.trans hf) |>.symm
   obtain rfl : fn = Tryz.f3 := (Option.some.inj (Tryz.func3.symm.trans hfn)).symm
   exact ⟨by kernel_rfl, fun j t ht => by
    rw [Tryz.params3] at ht
    have hm : t ∈ [25, 28, 29, 30, 29] := by simpa using Array.mem_of_getElem? ht
    have hall : ([25, 28, 29, 30, 29].all fun u => !Tryz.prog.wantsStandIn u) = true := by kernel_rfl
    exact (show Tryz.prog.wantsStandIn t = false by simpa using List.all_eq_true.1 hall t hm)⟩)
  (by kernel_rfl)
#print axioms helloAnswers_holds
end Go.Proofs.YtegbnadnodlalaaGreatDoor
