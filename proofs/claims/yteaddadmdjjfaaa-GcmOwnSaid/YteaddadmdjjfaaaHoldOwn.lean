/- GcmOwn returns true at every input -/
import Derived.Test.YteaddadmdjjfaaaRows
import Derived.Test.YteaddadmdjjfaaaVg
import Derived.Test.YteaddadmdjjfaaaLd
namespace Go.Proofs.Yteaddadmdjjfaaa
open Go.ChangeShapes Go.WideShapes Go.ChangeAt Go.RowKit

theorem own : ownKnob Try.prog.godebug = none := by kernel_rfl
set_option maxHeartbeats 1000000 in
set_option maxRecDepth 100000 in
theorem own_lifted  (os : Os) (started : os.Started) (H : Type) (enc : TypeId × Value → H) :
    ReturnsInHanded {} Try.checked os 7 .any (Rows.gcmOwnSpec.pre6 enc Try.prog Try.f7 Rows.gcmOwnRow.domain false) (Rows.gcmOwnSpec.post enc Try.prog Try.f7 false true false false) := by
  refine returnsInHanded_of_change (C := Try.checked) own started (by kernel_rfl) Try.func7
    (ChangeSpec.witness6 (enc := enc) (C := Try.checked) false ⟨#[], #[.agg (Iv .u8 (NI (List.replicate 16 0))), .agg (Iv .u8 (NI (List.replicate 12 0))), .slice none 0 0, .slice none 0 0], []⟩ 8 (by kernel_rfl) (by kernel_rfl) (by kernel_rfl) (by kernel_rfl)) ?_
  intro W base args ds gs before hval0 hW _ _
  have hval : ∀ (j : Nat) t v, Try.f7.params[j]? = some t → args[j]? = some v → Value.okWide Try.prog W .any base t v := hval0
  have hW' := hW
  obtain ⟨p, q, hA0, hV, rfl, _, _⟩ := hW
  have hA : DataW.TrodAll enc Try.prog W 0 (fun _ => true) true Try.f7.params.toList args.toList ds p := hA0
  rw [Try.params7] at hA hval
  obtain ⟨v0, v1, v2, v3, d0, d1, d2, d3, p0, p1, p2, p3, rfl, rfl, rfl, h0, h1, h2, h3⟩ := trodAll_four hA
  obtain ⟨rfl, rfl⟩ := trodVars_none hV
  obtain ⟨l0, rfl, rfl, rfl, hl0, hb0⟩ := open_b16 (hval 0 22 v0 rfl rfl) h0
  obtain ⟨l1, rfl, rfl, rfl, hl1, hb1⟩ := open_b12 (hval 1 23 v1 rfl rfl) h1
  obtain ⟨pt2, c2, l2, rfl, S2, hb2, again2⟩ := open_bytes (hval 2 24 v2 rfl rfl) h2
  obtain ⟨pt3, c3, l3, rfl, S3, hb3, again3⟩ := open_bytes (hval 3 24 v3 rfl rfl) h3
  clear hA0 hval0
  refine (own_c seal_c open_c l0 l1 l2 l3 hl0 hl1 hb0 hb1 hb2 hb3 pt2 pt3 _ _ c2 c3 W S2 S3).mono fun e W' ⟨he, hb⟩ => ?_
  subst he
  exact ⟨_, rfl, post_below2 (pa := [] ++ ([] ++ (p2 ++ (p3)))) (pv := []) hW' (fun _ _ _ => trodAll_mk1 (shut_bool Try.underlying4 _)) (fun sp hsp => trodAll_mk4 (shut_b16 l0 hl0 hb0) (shut_b12 l1 hl1 hb1) (again2 W' hb sp (fun x hx => hsp x (by simp [hx]))) (again3 W' hb sp (fun x hx => hsp x (by simp [hx])))) (fun _ _ => rfl) (by simp) hb (ok_one (by kernel_rfl) rfl (okWide_bool_mk Try.underlying4 _))⟩

theorem gcmOwn_holds  : Rows.GcmOwnSaid :=
  OpenClaim.holds_of_wide 7 Try.f7 rfl rfl rfl rfl rfl rfl rfl ⟨rfl, rfl, rfl, rfl, rfl⟩ rfl rfl rfl rfl rfl (by kernel_rfl) Try.func7 (by kernel_rfl)
    (of_decide_eq_true (by kernel_rfl)) (by unfold Func.isWrapper; first | (rw [if_pos (by decide +kernel)]; kernel_rfl) | (rw [if_neg (by decide +kernel)]; exact ⟨rfl, rfl⟩))
    (fun os started H enc _ => own_lifted  os started H enc)
#print axioms gcmOwn_holds
end Go.Proofs.Yteaddadmdjjfaaa
