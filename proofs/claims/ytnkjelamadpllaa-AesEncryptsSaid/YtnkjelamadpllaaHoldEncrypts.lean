/- AesEncrypts returns true at every key and every block, and leaves what it was given as it was, where the program's Encrypt keeps its contract. -/
import Derived.Test.YtnkjelamadpllaaRows
import Derived.Test.YtnkjelamadpllaaPk
import Derived.Test.YtnkjelamadpllaaLawEncrypts
import Derived.Test.YtnkjelamadpllaaLd
namespace Go.Proofs.Ytnkjelamadpllaa
open Go.ChangeShapes Go.WideShapes Go.ChangeAt Go.RowKit

theorem own : ownKnob Try.prog.godebug = none := by kernel_rfl
set_option maxHeartbeats 1000000 in
set_option maxRecDepth 100000 in
theorem encrypts_lifted (os : Os) (started : os.Started) (H : Type) (enc : TypeId × Value → H) :
    ReturnsInHanded {} Try.checked os 3 .any (Rows.aesEncryptsSpec.pre6 enc Try.prog Try.f3 Rows.aesEncryptsRow.domain false) (Rows.aesEncryptsSpec.post enc Try.prog Try.f3 false true false false) := by
  refine returnsInHanded_of_change (C := Try.checked) own started (by kernel_rfl) Try.func3
    (ChangeSpec.witness6 (enc := enc) (C := Try.checked) false ⟨#[], #[.agg (Iv .u8 (NI (List.replicate 16 0))), .agg (Iv .u8 (NI (List.replicate 16 0)))], []⟩ 8 (by kernel_rfl) (by kernel_rfl) (by kernel_rfl) (by kernel_rfl)) ?_
  intro W base args ds gs before hval0 hW _ _
  have hval : ∀ (j : Nat) t v, Try.f3.params[j]? = some t → args[j]? = some v → Value.okWide Try.prog W .any base t v := hval0
  have hW' := hW
  obtain ⟨p, q, hA0, hV, rfl, _, _⟩ := hW
  have hA : DataW.TrodAll enc Try.prog W 0 (fun _ => true) true Try.f3.params.toList args.toList ds p := hA0
  rw [Try.params3] at hA hval
  obtain ⟨v0, v1, d0, d1, p0, p1, rfl, rfl, rfl, h0, h1⟩ := trodAll_two hA
  obtain ⟨rfl, rfl⟩ := trodVars_none hV
  obtain ⟨l0, rfl, rfl, rfl, hl0, hb0⟩ := open_b16 (hval 0 22 v0 rfl rfl) h0
  obtain ⟨l1, rfl, rfl, rfl, hl1, hb1⟩ := open_b16 (hval 1 22 v1 rfl rfl) h1
  clear hA0 hval0
  refine (encrypts_c enc_c l0 hl0 hb0 l1 hl1 hb1 W).mono fun e W' ⟨he, hb⟩ => ?_
  subst he
  exact ⟨_, rfl, post_below (pa := []) (pv := []) hW' (fun _ _ _ => trodAll_mk1 (shut_bool Try.underlying4 _)) (fun sp => trodAll_mk2 (shut_b16 l0 hl0 hb0) (shut_b16 l1 hl1 hb1)) (fun _ => rfl) rfl hb (ok_one (by kernel_rfl) rfl (okWide_bool_mk Try.underlying4 _))⟩

theorem aesEncrypts_holds : Rows.AesEncryptsSaid :=
  OpenClaim.holds_of_wide 3 Try.f3 rfl rfl rfl rfl rfl rfl rfl ⟨rfl, rfl, rfl, rfl, rfl⟩ rfl rfl rfl rfl rfl (by kernel_rfl) Try.func3 (by kernel_rfl)
    (of_decide_eq_true (by kernel_rfl)) (by unfold Func.isWrapper; first | (rw [if_pos (by decide +kernel)]; kernel_rfl) | (rw [if_neg (by decide +kernel)]; exact ⟨rfl, rfl⟩))
    (fun os started H enc _ => encrypts_lifted os started H enc)
#print axioms aesEncrypts_holds
end Go.Proofs.Ytnkjelamadpllaa
