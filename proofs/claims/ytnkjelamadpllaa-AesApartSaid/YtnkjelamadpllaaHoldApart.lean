/- AesApart returns true at every key and every two blocks, where the program's Encrypt keeps its contract. -/
import Derived.Test.YtnkjelamadpllaaRows
import Derived.Test.YtnkjelamadpllaaPk
import Derived.Test.YtnkjelamadpllaaLawApart
import Derived.Test.YtnkjelamadpllaaLd
namespace Go.Proofs.Ytnkjelamadpllaa
open Go.ChangeShapes Go.WideShapes Go.ChangeAt Go.RowKit

theorem own : ownKnob Try.prog.godebug = none := by kernel_rfl
theorem nat_of_u8 {n : Int} (h : (Lit.int .u8 n).wf = true) : ∃ k : Nat, n = ((k : Nat) : Int) ∧ k < 256 := by
  simp [Lit.wf, IntKind.min, IntKind.max, IntKind.signed, IntKind.bits] at h
  exact ⟨n.toNat, by omega, by omega⟩
set_option maxHeartbeats 1000000 in
set_option maxRecDepth 100000 in
theorem apart_lifted (os : Os) (started : os.Started) (H : Type) (enc : TypeId × Value → H) :
    ReturnsInHanded {} Try.checked os 5 .any (Rows.aesApartSpec.pre6 enc Try.prog Try.f5 Rows.aesApartRow.domain false) (Rows.aesApartSpec.post enc Try.prog Try.f5 false true false false) := by
  refine returnsInHanded_of_change (C := Try.checked) own started (by kernel_rfl) Try.func5
    (ChangeSpec.witness6 (enc := enc) (C := Try.checked) false ⟨#[], #[.agg (Iv .u8 (NI (List.replicate 16 0))), .agg (Iv .u8 (NI (List.replicate 16 0))), .agg (Iv .u8 (NI (List.replicate 16 0))), .int .u8 0, .bool false], []⟩ 8 (by kernel_rfl) (by kernel_rfl) (by kernel_rfl) (by kernel_rfl)) ?_
  intro W base args ds gs before hval0 hW _ _
  have hval : ∀ (j : Nat) t v, Try.f5.params[j]? = some t → args[j]? = some v → Value.okWide Try.prog W .any base t v := hval0
  have hW' := hW
  obtain ⟨p, q, hA0, hV, rfl, _, _⟩ := hW
  have hA : DataW.TrodAll enc Try.prog W 0 (fun _ => true) true Try.f5.params.toList args.toList ds p := hA0
  rw [Try.params5] at hA hval
  obtain ⟨v0, v1, v2, v3, v4, d0, d1, d2, d3, d4, p0, p1, p2, p3, p4, rfl, rfl, rfl, h0, h1, h2, h3, h4⟩ := trodAll_five hA
  obtain ⟨rfl, rfl⟩ := trodVars_none hV
  obtain ⟨l0, rfl, rfl, rfl, hl0, hb0⟩ := open_b16 (hval 0 22 v0 rfl rfl) h0
  obtain ⟨l1, rfl, rfl, rfl, hl1, hb1⟩ := open_b16 (hval 1 22 v1 rfl rfl) h1
  obtain ⟨l2, rfl, rfl, rfl, hl2, hb2⟩ := open_b16 (hval 2 22 v2 rfl rfl) h2
  obtain ⟨m3, rfl, rfl, rfl, hm3⟩ := open_int Try.underlying5 (hval 3 5 v3 rfl rfl) h3
  obtain ⟨n3, rfl, hn3⟩ := nat_of_u8 hm3
  obtain ⟨n4, rfl, rfl, rfl⟩ := open_bool Try.underlying4 (hval 4 4 v4 rfl rfl) h4
  clear hA0 hval0
  refine (apart_c enc_c l0 hl0 hb0 l1 hl1 hb1 l2 hl2 hb2 n3 hn3 n4 W).mono fun e W' ⟨he, hb⟩ => ?_
  subst he
  exact ⟨_, rfl, post_below (pa := []) (pv := []) hW' (fun _ _ _ => trodAll_mk1 (shut_bool Try.underlying4 _)) (fun sp => trodAll_mk5 (shut_b16 l0 hl0 hb0) (shut_b16 l1 hl1 hb1) (shut_b16 l2 hl2 hb2) (shut_int Try.underlying5 hm3) (shut_bool Try.underlying4 _)) (fun _ => rfl) rfl hb (ok_one (by kernel_rfl) rfl (okWide_bool_mk Try.underlying4 _))⟩

theorem aesApart_holds : Rows.AesApartSaid :=
  OpenClaim.holds_of_wide 5 Try.f5 rfl rfl rfl rfl rfl rfl rfl ⟨rfl, rfl, rfl, rfl, rfl⟩ rfl rfl rfl rfl rfl (by kernel_rfl) Try.func5 (by kernel_rfl)
    (of_decide_eq_true (by kernel_rfl)) (by unfold Func.isWrapper; first | (rw [if_pos (by decide +kernel)]; kernel_rfl) | (rw [if_neg (by decide +kernel)]; exact ⟨rfl, rfl⟩))
    (fun os started H enc _ => apart_lifted os started H enc)
#print axioms aesApart_holds
end Go.Proofs.Ytnkjelamadpllaa
