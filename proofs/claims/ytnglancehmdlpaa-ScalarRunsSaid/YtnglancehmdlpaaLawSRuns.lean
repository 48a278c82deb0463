/- The law ScalarRuns: a product and a sum. -/
import Derived.Test.YtnglancehmdlpaaRq
namespace Go.Proofs.Ytnglancehmdlpaa
open Go.RowKit

set_option maxHeartbeats 4000000 in
set_option maxRecDepth 100000 in
theorem sruns_n (N0 N1 N2 : Nat) (lN0 : N0 < pw 4) (lN1 : N1 < pw 4) (lN2 : N2 < pw 4) (w : World) :
    Calls Try.prog 5 #[Key (keyOf N0), Key (keyOf N1), Key (keyOf N2)] w fun e w' => e = .returned (.bool true) ∧ Below w.heap.size w w' := by
  obtain ⟨E0, hE0⟩ : ∃ r, r = (N0 * N1 + N2) % LL := ⟨_, rfl⟩
  have lE0 : E0 < pw 4 := hE0 ▸ mod_lt4 _
  have HE0 := Lib.hid hE0
  clear hE0
  unfold Key
  go_enter Try.func5, Try.ntmps5
  go_wp2_with fail
  refine (awake_any _).mono ?_
  rintro e w1 ⟨rfl, b⟩
  have hS : Facts [.blk (w.heap.size) 24 (Iv .u8 (keyOf N0)), .blk (w.heap.size + 1) 24 (Iv .u8 (keyOf N1)), .blk (w.heap.size + 1 + 1) 24 (Iv .u8 (keyOf N2))] w1 := Facts.below (Facts.cons (((Blk.new w _ _).alloc _).alloc _) (Facts.cons ((Blk.new' (by simp) _ _).alloc _) (Facts.cons (Blk.new' (by simp) _ _) Facts.nil))) b
  have hB : Below w.heap.size w w1 := ((((Below.refl w.heap.size w).alloc (Nat.le_refl _) _).alloc (by simp) _).alloc (by simp; omega) _).trans (b.mono (by simp; omega))
  clear b
  go_upto_region 3 with fail
  replace hS := hS.drew
  replace hB := below_drew hB
  refine wp_region_Z (S := Facts [.blk (w.heap.size) 24 (Iv .u8 (keyOf N0)), .blk (w.heap.size + 1) 24 (Iv .u8 (keyOf N1)), .blk (w.heap.size + 1 + 1) 24 (Iv .u8 (keyOf N2))]) 9 (by kernel_rfl) ?_
  refine wpAnyZ_takeL 0 rfl (by kernel_rfl) (by kernel_rfl) (by kernel_rfl) (by kernel_rfl) (by kernel_rfl) (fun _ _ _ h => h) (show YieldsIf _ _ _ _ (Key (keyOf N0)) _ from yieldsIf_load rfl 24 _ rfl (w.heap.size) rfl 24 _ _ (.head _) Try.underlying24 rfl (info_key _ (keyOf_length _))) hS ?_
  simp only [Act.put, List.setIfInBounds_toArray, List.set_cons_zero, List.set_cons_succ]
  refine wpAnyZ_takeL 1 rfl (by kernel_rfl) (by kernel_rfl) (by kernel_rfl) (by kernel_rfl) (by kernel_rfl) (fun _ _ _ h => h) (show YieldsIf _ _ _ _ (Key (keyOf N1)) _ from yieldsIf_load rfl 24 _ rfl (w.heap.size + 1) rfl 24 _ _ (.tail _ (.head _)) Try.underlying24 rfl (info_key _ (keyOf_length _))) hS ?_
  simp only [Act.put, List.setIfInBounds_toArray, List.set_cons_zero, List.set_cons_succ]
  refine wpAnyZ_takeL 2 rfl (by kernel_rfl) (by kernel_rfl) (by kernel_rfl) (by kernel_rfl) (by kernel_rfl) (fun _ _ _ h => h) (show YieldsIf _ _ _ _ (Key (keyOf N2)) _ from yieldsIf_load rfl 24 _ rfl (w.heap.size + 1 + 1) rfl 24 _ _ (.tail _ (.tail _ (.head _))) Try.underlying24 rfl (info_key _ (keyOf_length _))) hS ?_
  simp only [Act.put, List.setIfInBounds_toArray, List.set_cons_zero, List.set_cons_succ]
  refine wpAnyZ_takeL 4 rfl (by kernel_rfl) (by kernel_rfl) (by kernel_rfl) (by kernel_rfl) (by kernel_rfl) (fun _ _ _ h => h) (show YieldsIf _ _ _ _ (Key (keyOf N0)) _ from yieldsIf_load rfl 24 _ rfl (w.heap.size) rfl 24 _ _ (.head _) Try.underlying24 rfl (info_key _ (keyOf_length _))) hS ?_
  simp only [Act.put, List.setIfInBounds_toArray, List.set_cons_zero, List.set_cons_succ]
  refine wpAnyZ_takeL 5 rfl (by kernel_rfl) (by kernel_rfl) (by kernel_rfl) (by kernel_rfl) (by kernel_rfl) (fun _ _ _ h => h) (show YieldsIf _ _ _ _ (Key (keyOf N1)) _ from yieldsIf_load rfl 24 _ rfl (w.heap.size + 1) rfl 24 _ _ (.tail _ (.head _)) Try.underlying24 rfl (info_key _ (keyOf_length _))) hS ?_
  simp only [Act.put, List.setIfInBounds_toArray, List.set_cons_zero, List.set_cons_succ]
  refine wpAnyZ_takeL 6 rfl (by kernel_rfl) (by kernel_rfl) (by kernel_rfl) (by kernel_rfl) (by kernel_rfl) (fun _ _ _ h => h) (show YieldsIf _ _ _ _ (Key (keyOf N2)) _ from yieldsIf_load rfl 24 _ rfl (w.heap.size + 1 + 1) rfl 24 _ _ (.tail _ (.tail _ (.head _))) Try.underlying24 rfl (info_key _ (keyOf_length _))) hS ?_
  simp only [Act.put, List.setIfInBounds_toArray, List.set_cons_zero, List.set_cons_succ]
  refine wpAnyZ_one (i := 3) (by kernel_rfl) ?_
  unfold wpOp
  go_simp
  left
  refine (muladd_n N0 N1 N2 E0 lN0 lN1 lN2 HE0.out _).mono ?_
  rintro e v1 ⟨rfl, b⟩
  replace hB := hB.trans (b.mono hB.size)
  replace hS := hS.below b
  clear b
  refine ⟨hS, ?_⟩
  refine wpAnyZ_one (i := 7) (by kernel_rfl) ?_
  unfold wpOp
  go_simp
  left
  refine (rmuladd_n N0 N1 N2 E0 lN0 lN1 lN2 HE0.out _).mono ?_
  rintro e v2 ⟨rfl, b⟩
  replace hB := hB.trans (b.mono hB.size)
  replace hS := hS.below b
  clear b
  refine ⟨hS, ?_⟩
  refine wpAnyZ_takeL 8 rfl (by kernel_rfl) (by kernel_rfl) (by kernel_rfl) (by kernel_rfl) (by kernel_rfl) (fun _ _ _ h => h) (yieldsIf_eql rfl 24 _ _ _ rfl _ _ rfl rfl eqg_api_Key true (key_dec E0 E0 true lE0 lE0 (decide_eq_true rfl))) hS ?_
  simp only [Act.put, List.setIfInBounds_toArray, List.set_cons_zero, List.set_cons_succ]
  refine wpAnyZ_one (i := 9) (by kernel_rfl) ?_
  unfold wpOp
  go_simp
  left
  refine wpAnyZ_done (by kernel_rfl) ?_ _
  go_wp2
  go_ret
  exact ⟨rfl, hB⟩
theorem sruns_any (l0 l1 l2 : List Int) (f0 f1 f2 : Nat → Nat) (hl0 : Bytes32 l0 f0) (hl1 : Bytes32 l1 f1) (hl2 : Bytes32 l2 f2) (w : World) :
    Calls Try.prog 5 #[Key l0, Key l1, Key l2] w fun e w' => e = .returned (.bool true) ∧ Below w.heap.size w w' := by
  rw [key_of_bytes hl0, key_of_bytes hl1, key_of_bytes hl2]
  exact sruns_n _ _ _ (bytes32_lt hl0) (bytes32_lt hl1) (bytes32_lt hl2) w
end Go.Proofs.Ytnglancehmdlpaa
