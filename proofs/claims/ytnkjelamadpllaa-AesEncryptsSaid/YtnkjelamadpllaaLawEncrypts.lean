/- The law AesEncrypts (printed by gencurve.py). -/
import Derived.Test.YtnkjelamadpllaaBo
namespace Go.Proofs.Ytnkjelamadpllaa
open Go.RowKit

set_option maxHeartbeats 8000000 in
set_option maxRecDepth 100000 in
theorem encrypts_c (CE : EncC) (K : List Nat) (lK : K.length = 16) (bK : ∀ x ∈ K, x < 256) (A : List Nat) (lA : A.length = 16) (bA : ∀ x ∈ A, x < 256) (w : World) :
    Calls Try.prog 3 #[.agg (Iv .u8 (NI K)), .agg (Iv .u8 (NI A))] w fun e w' => e = .returned (.bool true) ∧ Below w.heap.size w w' := by
  obtain ⟨E, hE⟩ : ∃ l, l = encL boxL K A := ⟨_, rfl⟩
  have lE : E.length = 16 := hE ▸ encL_length K A
  have HE := Lib.hid hE
  clear hE
  go_enter Try.func3, Try.ntmps3
  go_upto_region 1 with fail
  generalize hW : World.alloc (World.alloc w _) _ = W
  have hB : Below w.heap.size w W := hW ▸ ((Below.refl w.heap.size w).alloc (Nat.le_refl _) _).alloc (by simp) _
  have K0 : Blk W (w.heap.size) 22 (Iv .u8 (NI K)) := hW ▸ ((Blk.new' (by simp) _ _).alloc _)
  have K1 : Blk W (w.heap.size + 1) 22 (Iv .u8 (NI A)) := hW ▸ (Blk.new' (by simp) _ _)
  have hS : Facts [.blk (w.heap.size) 22 (Iv .u8 (NI K)), .blk (w.heap.size + 1) 22 (Iv .u8 (NI A)), .bel w] W := Facts.cons (f := .blk (w.heap.size) 22 (Iv .u8 (NI K))) K0 (Facts.cons (f := .blk (w.heap.size + 1) 22 (Iv .u8 (NI A))) K1 (Facts.cons (f := .bel w) hB Facts.nil))
  clear hW K0 K1
  refine wp_region_seq ?_
  refine wpSeq_wp rfl ?_
  go_simp
  refine (awake_c CE _).mono ?_
  rintro e v1 ⟨rfl, b⟩
  replace hB := hB.trans (b.mono hB.size)
  replace hS := hS.below b
  clear b
  show wpSeq _ _ _ _ _ _
  refine wpSeq_yield (S := Facts [.blk (w.heap.size) 22 (Iv .u8 (NI K)), .blk (w.heap.size + 1) 22 (Iv .u8 (NI A)), .bel w]) (yieldsIf_not rfl _ _ rfl true rfl) hS ?_
  simp only [Act.put, List.setIfInBounds_toArray, List.set_cons_zero, List.set_cons_succ]
  refine wpSeq_nil ?_
  go_upto_region 3 with fail
  replace hS := hS.drew
  replace hB := below_drew hB
  refine wp_region_Z (S := Facts [.blk (w.heap.size) 22 (Iv .u8 (NI K)), .blk (w.heap.size + 1) 22 (Iv .u8 (NI A)), .bel w]) 8 (by kernel_rfl) ?_
  refine wpAnyZ_takeL 0 rfl (by kernel_rfl) (by kernel_rfl) (by kernel_rfl) (by kernel_rfl) (by kernel_rfl) (fun _ _ _ h => h) (show YieldsIf _ _ _ _ (.agg (Iv .u8 (NI K))) _ from yieldsIf_load rfl 22 _ rfl (w.heap.size) rfl 22 _ _ (.head _) Try.underlying22 rfl (info_n _ lK)) hS ?_
  simp only [Act.put, List.setIfInBounds_toArray, List.set_cons_zero, List.set_cons_succ]
  refine wpAnyZ_takeL 1 rfl (by kernel_rfl) (by kernel_rfl) (by kernel_rfl) (by kernel_rfl) (by kernel_rfl) (fun _ _ _ h => h) (show YieldsIf _ _ _ _ (.agg (Iv .u8 (NI A))) _ from yieldsIf_load rfl 22 _ rfl (w.heap.size + 1) rfl 22 _ _ (.tail _ (.head _)) Try.underlying22 rfl (info_n _ lA)) hS ?_
  simp only [Act.put, List.setIfInBounds_toArray, List.set_cons_zero, List.set_cons_succ]
  refine wpAnyZ_takeL 4 rfl (by kernel_rfl) (by kernel_rfl) (by kernel_rfl) (by kernel_rfl) (by kernel_rfl) (fun _ _ _ h => h) (show YieldsIf _ _ _ _ (.agg (Iv .u8 (NI K))) _ from yieldsIf_load rfl 22 _ rfl (w.heap.size) rfl 22 _ _ (.head _) Try.underlying22 rfl (info_n _ lK)) hS ?_
  simp only [Act.put, List.setIfInBounds_toArray, List.set_cons_zero, List.set_cons_succ]
  refine wpAnyZ_takeL 5 rfl (by kernel_rfl) (by kernel_rfl) (by kernel_rfl) (by kernel_rfl) (by kernel_rfl) (fun _ _ _ h => h) (show YieldsIf _ _ _ _ (.agg (Iv .u8 (NI A))) _ from yieldsIf_load rfl 22 _ rfl (w.heap.size + 1) rfl 22 _ _ (.tail _ (.head _)) Try.underlying22 rfl (info_n _ lA)) hS ?_
  simp only [Act.put, List.setIfInBounds_toArray, List.set_cons_zero, List.set_cons_succ]
  refine wpAnyZ_one (i := 2) (by kernel_rfl) ?_
  unfold wpOp
  go_simp
  left
  refine (CE K A E lK lA bK bA HE.out _).mono ?_
  rintro e v2 ⟨rfl, b⟩
  replace hB := hB.trans (b.mono hB.size)
  replace hS := hS.below b
  clear b
  refine ⟨hS, ?_⟩
  refine wpAnyZ_one (i := 3) (by kernel_rfl) ?_
  unfold wpOp
  go_simp
  left
  refine (rbox_any _).mono ?_
  rintro e v3 ⟨x3, rfl, O3, b⟩
  have S3n := O3.sb
  clear O3
  replace hB := hB.trans (b.mono hB.size)
  replace hS := hS.below b
  clear b
  have S3 := S3n
  clear S3n
  refine ⟨hS, ?_⟩
  refine wpAnyZ_one (i := 6) (by kernel_rfl) ?_
  unfold wpOp
  go_simp
  left
  refine (rencrypt_v _ K A E lK lA bK bA HE.out _ S3).mono ?_
  rintro e v4 ⟨rfl, b⟩
  replace hB := hB.trans (b.mono hB.size)
  replace hS := hS.below b
  replace S3 := S3.below b
  clear b
  refine ⟨hS, ?_⟩
  refine wpAnyZ_takeL 7 rfl (by kernel_rfl) (by kernel_rfl) (by kernel_rfl) (by kernel_rfl) (by kernel_rfl) (fun _ _ _ h => h) (yieldsIf_eq16b rfl _ _ rfl E E rfl rfl lE lE true (decide_eq_true rfl)) hS ?_
  simp only [Act.put, List.setIfInBounds_toArray, List.set_cons_zero, List.set_cons_succ]
  refine wpAnyZ_one (i := 8) (by kernel_rfl) ?_
  unfold wpOp
  go_simp
  left
  refine wpAnyZ_done (by kernel_rfl) ?_ _
  go_wp2
  refine bodyPost_ret (results_tmp rfl _ _ _) ?_ ?_
  · rfl
  · exact ⟨rfl, hB⟩
end Go.Proofs.Ytnkjelamadpllaa
