/- Contracts of ladder.Public, ladder.Shared, by number (printed by lawshared.py). -/
import Derived.Test.YtgdhlafggdaipaaJg
namespace Go.Proofs.Ytgdhlafggdaipaa
open Go.RowKit

set_option maxHeartbeats 4000000 in
set_option maxRecDepth 100000 in
theorem public_n (NA N : Nat) (hN : N = ladN (clN NA) 9) (w : World) : Calls Try.prog 14 #[Key (keyOf NA)] w fun e w' => e = .returned (Key (keyOf N)) ∧ Below w.heap.size w w' := by
  have CM := Lib.hid (fun W => mul_n NA 9 N (by decide) (by rw [hN]; congr 1) W)
  clear hN
  unfold Key
  go_enter Try.func14, Try.ntmps14
  go_upto_region 1 with fail
  generalize hW : World.alloc (World.alloc w _) _ = W
  have hB : Below w.heap.size w W := hW ▸ ((Below.refl w.heap.size w).alloc (Nat.le_refl _) _).alloc (by simp) _
  have K0 : Blk W (w.heap.size) 23 (Iv .u8 (keyOf NA)) := hW ▸ ((Blk.new' (by simp) _ _).alloc _)
  have K1 : Blk W (w.heap.size + 1) 23 (Iv .u8 (List.replicate 32 0)) := hW ▸ (Blk.new' (by simp) _ _)
  have hS : Facts [.blk (w.heap.size) 23 (Iv .u8 (keyOf NA))] W := Facts.cons (f := .blk (w.heap.size) 23 (Iv .u8 (keyOf NA))) K0 (Facts.nil)
  clear hW K0
  refine wp_region_seq ?_
  refine wpSeq_yield (S := Facts [.blk (w.heap.size) 23 (Iv .u8 (keyOf NA))]) (show YieldsIf _ _ _ _ (Key (keyOf NA)) _ from yieldsIf_load rfl 23 _ rfl (w.heap.size) rfl 23 _ _ (.head _) Try.underlying23 rfl (info_key _ (keyOf_length _))) hS ?_
  simp only [Act.put, List.setIfInBounds_toArray, List.set_cons_zero, List.set_cons_succ]
  refine wpSeq_yield (S := Facts [.blk (w.heap.size) 23 (Iv .u8 (keyOf NA))]) (yieldsIf_key1 9 (by decide) rfl rfl) hS ?_
  simp only [Act.put, List.setIfInBounds_toArray, List.set_cons_zero, List.set_cons_succ]
  refine wpSeq_wp rfl ?_
  go_simp
  refine (CM.out _).mono ?_
  rintro e v1 ⟨rfl, b⟩
  replace hB := hB.trans (b.mono hB.size)
  replace hS := hS.below b
  replace K1 := K1.below' b
  clear b
  show wpSeq _ _ _ _ _ _
  refine wpSeq_store_row rfl 23 _ _ rfl (w.heap.size + 1) (Iv .u8 (keyOf N)) rfl rfl _ _ K1 (info_key _ (keyOf_length _)) (by rw [Iv_size, Iv_size, keyOf_length]; rfl) (Iv_one _ _) ?_
  try simp only [Act.put, List.setIfInBounds_toArray, List.set_cons_zero, List.set_cons_succ]
  replace hB := below_setRow hB (g := w.heap.size + 1) (by omega) (Iv .u8 (keyOf N))
  replace hS : Facts [.blk (w.heap.size) 23 (Iv .u8 (keyOf NA))] _ := Facts.cons (f := .blk (w.heap.size) 23 (Iv .u8 (keyOf NA))) ((hS.blkAt (w.heap.size) 23 (Iv .u8 (keyOf NA)) (.head _)).rowFar (k := w.heap.size + 1) (by omega) (Iv .u8 (keyOf N))) (Facts.nil)
  replace K1 := K1.row (Iv .u8 (keyOf N))
  generalize hWn : World.setRow _ _ _ = Wn at *
  clear hWn
  refine wpSeq_nil ?_
  go_wp2
  exact bodyPost_ret (results_cell_row rfl _ _ _ 23 _ (0, 0) _ rfl K1 Try.underlying23 rfl (info_key _ (keyOf_length _))) rfl ⟨rfl, hB⟩

set_option maxHeartbeats 4000000 in
set_option maxRecDepth 100000 in
theorem shared_n (NA NB N : Nat) (hb : NB < p256) (hN : N = ladN (clN NA) (plN NB)) (c : Bool) (hc : (!decide (N = 0)) = c) (w : World) :
    Calls Try.prog 10 #[Key (keyOf NA), Key (keyOf NB)] w fun e w' => e = .returned (.tuple #[Key (keyOf N), .bool c]) ∧ Below w.heap.size w w' := by
  have CM := Lib.hid (fun W => mul_n NA NB N hb hN W)
  have kN : N < p256 := by rw [hN]; exact Nat.lt_trans (ladN_lt _ _) pp_lt256
  clear hN hb
  unfold Key
  go_enter Try.func10, Try.ntmps10
  go_upto_region 1 with fail
  generalize hW : World.alloc (World.alloc (World.alloc w _) _) _ = W
  have hB : Below w.heap.size w W := hW ▸ (((Below.refl w.heap.size w).alloc (Nat.le_refl _) _).alloc (by simp) _).alloc (by simp; omega) _
  have K0 : Blk W (w.heap.size) 23 (Iv .u8 (keyOf NA)) := hW ▸ (((Blk.new' (by simp) _ _).alloc _).alloc _)
  have K1 : Blk W (w.heap.size + 1) 23 (Iv .u8 (keyOf NB)) := hW ▸ ((Blk.new' (by simp) _ _).alloc _)
  have K2 : Blk W (w.heap.size + 1 + 1) 23 (Iv .u8 (List.replicate 32 0)) := hW ▸ (Blk.new' (by simp) _ _)
  have hS : Facts [.blk (w.heap.size) 23 (Iv .u8 (keyOf NA)), .blk (w.heap.size + 1) 23 (Iv .u8 (keyOf NB))] W := Facts.cons (f := .blk (w.heap.size) 23 (Iv .u8 (keyOf NA))) K0 (Facts.cons (f := .blk (w.heap.size + 1) 23 (Iv .u8 (keyOf NB))) K1 (Facts.nil))
  clear hW K0 K1
  refine wp_region_seq ?_
  refine wpSeq_yield (S := Facts [.blk (w.heap.size) 23 (Iv .u8 (keyOf NA)), .blk (w.heap.size + 1) 23 (Iv .u8 (keyOf NB))]) (show YieldsIf _ _ _ _ (Key (keyOf NA)) _ from yieldsIf_load rfl 23 _ rfl (w.heap.size) rfl 23 _ _ (.head _) Try.underlying23 rfl (info_key _ (keyOf_length _))) hS ?_
  simp only [Act.put, List.setIfInBounds_toArray, List.set_cons_zero, List.set_cons_succ]
  refine wpSeq_yield (S := Facts [.blk (w.heap.size) 23 (Iv .u8 (keyOf NA)), .blk (w.heap.size + 1) 23 (Iv .u8 (keyOf NB))]) (show YieldsIf _ _ _ _ (Key (keyOf NB)) _ from yieldsIf_load rfl 23 _ rfl (w.heap.size + 1) rfl 23 _ _ (.tail _ (.head _)) Try.underlying23 rfl (info_key _ (keyOf_length _))) hS ?_
  simp only [Act.put, List.setIfInBounds_toArray, List.set_cons_zero, List.set_cons_succ]
  refine wpSeq_wp rfl ?_
  go_simp
  refine (CM.out _).mono ?_
  rintro e v1 ⟨rfl, b⟩
  replace hB := hB.trans (b.mono hB.size)
  replace hS := hS.below b
  replace K2 := K2.below' b
  clear b
  show wpSeq _ _ _ _ _ _
  refine wpSeq_alloc 23 (Iv .u8 (List.replicate 32 0)) rfl (fun W => by go_simp; rfl) ?_
  simp only [Act.put, List.setIfInBounds_toArray, List.set_cons_zero, List.set_cons_succ]
  refine wpSeq_store_row rfl 23 _ _ rfl (v1.heap.size) (Iv .u8 (keyOf N)) rfl rfl _ _ (Blk.new _ _ _) (info_key _ (keyOf_length _)) (by rw [Iv_size, Iv_size, keyOf_length]; rfl) (Iv_one _ _) ?_
  try simp only [Act.put, List.setIfInBounds_toArray, List.set_cons_zero, List.set_cons_succ]
  have mG1 := hB.size
  have uG1_0 := K2.lt
  have hb := below_setRow ((Below.refl v1.heap.size v1).alloc (Nat.le_refl _) (.cells (Iv .u8 (List.replicate 32 0)) 23)) (Nat.le_refl v1.heap.size) (Iv .u8 (keyOf N))
  have A := (Blk.new v1 23 (Iv .u8 (List.replicate 32 0))).row (Iv .u8 (keyOf N))
  replace hB := hB.trans (hb.mono hB.size)
  replace hS := hS.below hb
  replace K2 := K2.below' hb
  clear hb
  generalize hWn : World.setRow _ _ _ = Wn at *
  clear hWn
  generalize v1.heap.size = G1 at *
  replace hS : Facts [.blk (G1) 23 (Iv .u8 (keyOf N)), .blk (w.heap.size) 23 (Iv .u8 (keyOf NA)), .blk (w.heap.size + 1) 23 (Iv .u8 (keyOf NB))] _ := Facts.cons (f := .blk G1 23 (Iv .u8 (keyOf N))) A hS
  clear A
  refine wpSeq_nil ?_
  go_upto_region 2 with fail
  replace hS := hS.drew
  replace hB := below_drew hB
  replace K2 := K2.drew
  refine wp_region_Z (S := Facts [.blk (G1) 23 (Iv .u8 (keyOf N)), .blk (w.heap.size) 23 (Iv .u8 (keyOf NA)), .blk (w.heap.size + 1) 23 (Iv .u8 (keyOf NB))]) 5 (by kernel_rfl) ?_
  refine wpAnyZ_takeL 0 rfl (by kernel_rfl) (by kernel_rfl) (by kernel_rfl) (by kernel_rfl) (by kernel_rfl) (fun _ _ _ h => h) (show YieldsIf _ _ _ _ (Key (keyOf N)) _ from yieldsIf_load rfl 23 _ rfl (G1) rfl 23 _ _ (.head _) Try.underlying23 rfl (info_key _ (keyOf_length _))) hS ?_
  simp only [Act.put, List.setIfInBounds_toArray, List.set_cons_zero, List.set_cons_succ]
  refine wpAnyZ_takeL 1 rfl (by kernel_rfl) (by kernel_rfl) (by kernel_rfl) (by kernel_rfl) (by kernel_rfl) (fun _ _ _ h => h) (show YieldsIf _ _ _ _ (Key (keyOf N)) _ from yieldsIf_load rfl 23 _ rfl (G1) rfl 23 _ _ (.head _) Try.underlying23 rfl (info_key _ (keyOf_length _))) hS ?_
  simp only [Act.put, List.setIfInBounds_toArray, List.set_cons_zero, List.set_cons_succ]
  refine wpAnyZ_takeL 2 rfl (by kernel_rfl) (by kernel_rfl) (by kernel_rfl) (by kernel_rfl) (by kernel_rfl) (fun _ _ _ h => h) (yieldsIf_key0 rfl rfl) hS ?_
  simp only [Act.put, List.setIfInBounds_toArray, List.set_cons_zero, List.set_cons_succ]
  refine wpAnyZ_takeL 3 rfl (by kernel_rfl) (by kernel_rfl) (by kernel_rfl) (by kernel_rfl) (by kernel_rfl) (fun _ _ _ h => h) (yieldsIf_neqk rfl _ _ rfl N 0 rfl rfl c kN (by decide) (hc)) hS ?_
  simp only [Act.put, List.setIfInBounds_toArray, List.set_cons_zero, List.set_cons_succ]
  refine wpAnyZ_store_row 4 rfl (by kernel_rfl) rfl _ _ _ rfl (w.heap.size + 1 + 1) (Iv .u8 (keyOf N)) rfl rfl _ _ K2 (info_key _ (keyOf_length _)) (by rw [Iv_size, Iv_size, keyOf_length]; rfl) (Iv_one _ _) (Facts.cons (f := .blk (G1) 23 (Iv .u8 (keyOf N))) ((hS.blkAt (G1) 23 (Iv .u8 (keyOf N)) (.head _)).rowFar (k := w.heap.size + 1 + 1) (by omega) (Iv .u8 (keyOf N))) (Facts.cons (f := .blk (w.heap.size) 23 (Iv .u8 (keyOf NA))) ((hS.blkAt (w.heap.size) 23 (Iv .u8 (keyOf NA)) (.tail _ (.head _))).rowFar (k := w.heap.size + 1 + 1) (by omega) (Iv .u8 (keyOf N))) (Facts.cons (f := .blk (w.heap.size + 1) 23 (Iv .u8 (keyOf NB))) ((hS.blkAt (w.heap.size + 1) 23 (Iv .u8 (keyOf NB)) (.tail _ (.tail _ (.head _)))).rowFar (k := w.heap.size + 1 + 1) (by omega) (Iv .u8 (keyOf N))) (Facts.nil)))) ?_
  try simp only [Act.put, List.setIfInBounds_toArray, List.set_cons_zero, List.set_cons_succ]
  replace hB := below_setRow hB (g := w.heap.size + 1 + 1) (by omega) (Iv .u8 (keyOf N))
  replace hS : Facts [.blk (G1) 23 (Iv .u8 (keyOf N)), .blk (w.heap.size) 23 (Iv .u8 (keyOf NA)), .blk (w.heap.size + 1) 23 (Iv .u8 (keyOf NB))] _ := Facts.cons (f := .blk (G1) 23 (Iv .u8 (keyOf N))) ((hS.blkAt (G1) 23 (Iv .u8 (keyOf N)) (.head _)).rowFar (k := w.heap.size + 1 + 1) (by omega) (Iv .u8 (keyOf N))) (Facts.cons (f := .blk (w.heap.size) 23 (Iv .u8 (keyOf NA))) ((hS.blkAt (w.heap.size) 23 (Iv .u8 (keyOf NA)) (.tail _ (.head _))).rowFar (k := w.heap.size + 1 + 1) (by omega) (Iv .u8 (keyOf N))) (Facts.cons (f := .blk (w.heap.size + 1) 23 (Iv .u8 (keyOf NB))) ((hS.blkAt (w.heap.size + 1) 23 (Iv .u8 (keyOf NB)) (.tail _ (.tail _ (.head _)))).rowFar (k := w.heap.size + 1 + 1) (by omega) (Iv .u8 (keyOf N))) (Facts.nil)))
  replace K2 := K2.row (Iv .u8 (keyOf N))
  generalize hWn : World.setRow _ _ _ = Wn at *
  clear hWn
  refine wpAnyZ_one (i := 5) (by kernel_rfl) ?_
  unfold wpOp
  go_simp
  left
  refine wpAnyZ_done (by kernel_rfl) ?_ _
  go_wp2
  exact bodyPost_ret (results_cell_tmp rfl _ _ _ 23 _ (0, 0) _ _ rfl K2 Try.underlying23 rfl (info_key _ (keyOf_length _)) rfl) rfl ⟨rfl, hB⟩
end Go.Proofs.Ytgdhlafggdaipaa
