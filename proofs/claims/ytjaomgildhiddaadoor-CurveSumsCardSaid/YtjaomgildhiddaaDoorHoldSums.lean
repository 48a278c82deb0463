/- CurveSums returns true at every three keys, and leaves what it was given as it was. Conditions: the three variables of the curve's package hold what the program's text lays in them (tied by the card). -/
import Derived.Test.YtjaomgildhiddaaDoorRows
import Derived.Test.YtjaomgildhiddaaDoorTie
import Derived.Test.YtjaomgildhiddaaDoorCards
import Derived.Test.YtjaomgildhiddaaDoorLawSums
import Derived.Test.YtjaomgildhiddaaDoorTq
import Derived.Test.YtjaomgildhiddaaDoorLd
import Derived.SevenTiedAt
namespace Go.Proofs.YtjaomgildhiddaaDoor
open Go.ChangeShapes Go.WideShapes Go.ChangeAt Go.RowKit

theorem own : ownKnob Tryd.prog.godebug = none := by kernel_rfl
set_option maxHeartbeats 1000000 in
set_option maxRecDepth 100000 in
theorem sums_lifted (os : Os) (started : os.Started) (H : Type) (enc : TypeId × Value → H) :
    ReturnsInHanded {} Tryd.checked os 4 .any (fun w args => (Rows.curveSumsSpec.pre enc Tryd.prog Tryd.f4 [] false w args ∧ laidMetH Tryd.prog Rows.curveSumsRow.laid w) ∧ sizedMet enc Tryd.prog Tryd.f4 (OpenSpec.ofChange Rows.curveSumsSpec) false w args)
      (Rows.curveSumsSpec.post enc Tryd.prog Tryd.f4 false true false false) := by
  refine returnsInHanded_of_change_and (C := Tryd.checked) (X := fun w _ => laidMetH Tryd.prog Rows.curveSumsRow.laid w) (fun _ _ _ hh h => h.of_heap hh) own started (by kernel_rfl) Tryd.func4
    (ChangeSpec.witness_shaped (enc := enc) (C := Tryd.checked) (os := os) (X := fun w _ => laidMetH Tryd.prog Rows.curveSumsRow.laid w) false (World.doorLaid Tryd.prog 24 os) #[Key (List.replicate 32 0), Key (List.replicate 32 0), Key (List.replicate 32 0)] 8 rfl (World.shaped_of_RefB (by kernel_rfl) (by kernel_rfl)) (by kernel_rfl) (by kernel_rfl) (by kernel_rfl) (door_met3 os _)) ?_
  intro W base args ds gs before hval0 hW _ _ hL _
  have hval : ∀ (j : Nat) t v, Tryd.f4.params[j]? = some t → args[j]? = some v → Value.okWide Tryd.prog W .any base t v := hval0
  have hW' := hW
  obtain ⟨p, q, hA0, hV, rfl, _, _⟩ := hW
  have hA : DataW.TrodAll enc Tryd.prog W 0 (fun _ => true) true Tryd.f4.params.toList args.toList ds p := hA0
  rw [Tryd.params4] at hA hval
  obtain ⟨v0, v1, v2, d0, d1, d2, p0, p1, p2, rfl, rfl, rfl, h0, h1, h2⟩ := trodAll_three hA
  obtain ⟨rfl, rfl⟩ := trodVars_none hV
  obtain ⟨l0, f0, rfl, rfl, rfl, hl0, hwf0⟩ := open_key (hval 0 23 v0 rfl rfl) h0
  obtain ⟨l1, f1, rfl, rfl, rfl, hl1, hwf1⟩ := open_key (hval 1 23 v1 rfl rfl) h1
  obtain ⟨l2, f2, rfl, rfl, rfl, hl2, hwf2⟩ := open_key (hval 2 23 v2 rfl rfl) h2
  clear hA0 hval0
  rw [MakeChecks.laidMetH_plain _ _ _ (by kernel_rfl)] at hL
  have GD := d_of_laid hL
  obtain ⟨GX, GY⟩ := xy_of_laid (laidMet.tail hL)
  have hk0 := key_of_bytes hl0
  have kN0 : leTo f0 32 < p256 := leTo_lt256 hl0.lt
  have hk1 := key_of_bytes hl1
  have kN1 : leTo f1 32 < p256 := leTo_lt256 hl1.lt
  have hk2 := key_of_bytes hl2
  have kN2 : leTo f2 32 < p256 := leTo_lt256 hl2.lt
  have walk := sums_n _ _ _ kN0 kN1 kN2 W GX GY GD
  rw [← hk0] at walk
  rw [← hk1] at walk
  rw [← hk2] at walk
  refine walk.mono fun e W' ⟨he, hb⟩ => ?_
  subst he
  exact ⟨_, rfl, post_below (pa := []) (pv := []) hW' (fun _ _ _ => trodAll_mk1 (shut_bool Tryd.underlying4 _)) (fun sp => trodAll_mk3 (shut_key l0 hl0.len hwf0) (shut_key l1 hl1.len hwf1) (shut_key l2 hl2.len hwf2)) (fun _ => rfl) rfl hb (ok_one (by kernel_rfl) rfl (okWide_bool_mk Tryd.underlying4 _))⟩

theorem sums_row : Rows.CurveSumsSaid :=
  OpenClaim.holds_of_wide 4 Tryd.f4 rfl rfl rfl rfl rfl rfl rfl ⟨rfl, rfl, rfl, rfl, rfl⟩ rfl rfl rfl rfl rfl (by kernel_rfl) Tryd.func4 (by kernel_rfl)
    (of_decide_eq_true (by kernel_rfl)) (by unfold Func.isWrapper; first | (rw [if_pos (by decide +kernel)]; kernel_rfl) | (rw [if_neg (by decide +kernel)]; exact ⟨rfl, rfl⟩))
    (fun os started H enc _ => sums_lifted os started H enc)

theorem curveSums_holds : Rows.CurveSumsCardSaid :=
  Claim7.holds_tied_plain_at .later [] [.data, .data, .data] true Rows.curveSumsCard.stood.harness false
    sums_row (fun _ h => by cases h) (by kernel_rfl) (fun _ h => by cases h) curveSums_row_tie rfl ⟨rfl, rfl⟩ (by kernel_rfl) rfl
    (fun f fn hf hfn => by
      obtain rfl : f = 4 := Option.some.inj ((show Tryd.prog.funcNamed "skiff/skifflaw06.CurveSums" = some 4 by kernel_rfl).symm.trans hf) |>.symm
      obtain rfl : fn = Tryd.f4 := (Option.some.inj (Tryd.func4.symm.trans hfn)).symm
      exact ⟨by kernel_rfl, fun j t ht => by
        rw [Tryd.params4] at ht
        have hm : t ∈ [23, 23, 23] := by simpa using Array.mem_of_getElem? ht
        have hall : ([23, 23, 23].all fun u => !Tryd.prog.wantsStandIn u) = true := by kernel_rfl
        exact (show Tryd.prog.wantsStandIn t = false by simpa using List.all_eq_true.1 hall t hm)⟩)
    (by kernel_rfl)
#print axioms curveSums_holds
end Go.Proofs.YtjaomgildhiddaaDoor
