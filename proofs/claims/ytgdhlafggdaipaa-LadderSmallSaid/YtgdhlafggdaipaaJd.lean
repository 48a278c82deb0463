/- The contract of ladder.swap (printed by lawstep.py). -/
import Derived.Test.YtgdhlafggdaipaaJa
namespace Go.Proofs.Ytgdhlafggdaipaa
open Go.RowKit

set_option maxHeartbeats 4000000 in
set_option maxRecDepth 100000 in
theorem rswap_any (s x z x' z' : Nat) (hs : s < 18446744073709551616) (lx : x < pp) (lz : z < pp) (lx' : x' < pp) (lz' : z' < pp) (w : World) :
    Calls Try.prog 27 #[.int .u64 s, RV x z, RV x' z'] w fun e w' => e = .returned (.tuple #[RV (swapped s x x') (swapped s z z'), RV (swapped s x' x) (swapped s z' z)]) ∧ Below w.heap.size w w' := by
  have c1 := fun W => swap_v s x x' _ _ W hs lx lx' rfl rfl
  have c2 := fun W => swap_v s z z' _ _ W hs lz lz' rfl rfl
  generalize swapped s x x' = A1 at *
  generalize swapped s x' x = A2 at *
  generalize swapped s z z' = B1 at *
  generalize swapped s z' z = B2 at *
  have C1 := Lib.hid c1
  have C2 := Lib.hid c2
  clear c1 c2
  unfold RV
  go_enter Try.func27, Try.ntmps27
  go_upto_region 1 with fail
  generalize hW : World.alloc (World.alloc (World.alloc (World.alloc w _) _) _) _ = W
  have hB : Below w.heap.size w W := hW ▸ ((((Below.refl w.heap.size w).alloc (Nat.le_refl _) _).alloc (by simp) _).alloc (by simp; omega) _).alloc (by simp; omega) _
  have K0 : Blk W (w.heap.size) 50 (Rt x z) := hW ▸ ((((Blk.new' (by simp) _ _).alloc _).alloc _).alloc _)
  have K1 : Blk W (w.heap.size + 1) 50 (Rt x' z') := hW ▸ (((Blk.new' (by simp) _ _).alloc _).alloc _)
  have K2 : Blk W (w.heap.size + 1 + 1) 50 (Rt 0 0) := hW ▸ ((Blk.new' (by simp) _ _).alloc _)
  have K3 : Blk W (w.heap.size + 1 + 1 + 1) 50 (Rt 0 0) := hW ▸ (Blk.new' (by simp) _ _)
  have hS : Facts [.blk (w.heap.size) 50 (Rt x z), .blk (w.heap.size + 1) 50 (Rt x' z')] W := Facts.cons (f := .blk (w.heap.size) 50 (Rt x z)) K0 (Facts.cons (f := .blk (w.heap.size + 1) 50 (Rt x' z')) K1 (Facts.nil))
  clear hW K0 K1
  refine wp_region_seq ?_
  refine wpSeq_yield (S := Facts [.blk (w.heap.size) 50 (Rt x z), .blk (w.heap.size + 1) 50 (Rt x' z')]) (yieldsIf_move rfl _ rfl _ rfl) hS ?_
  simp only [Act.put, List.setIfInBounds_toArray, List.set_cons_zero, List.set_cons_succ]
  refine wpSeq_yield (S := Facts [.blk (w.heap.size) 50 (Rt x z), .blk (w.heap.size + 1) 50 (Rt x' z')]) (show YieldsIf _ _ _ _ (.pointer (some ⟨w.heap.size, 0, none⟩)) _ from yieldsIf_fa0 rfl _ rfl (w.heap.size) rfl) hS ?_
  simp only [Act.put, List.setIfInBounds_toArray, List.set_cons_zero, List.set_cons_succ]
  refine wpSeq_yield (S := Facts [.blk (w.heap.size) 50 (Rt x z), .blk (w.heap.size + 1) 50 (Rt x' z')]) (show YieldsIf _ _ _ _ (El x) _ from yieldsIf_part0 rfl _ rfl (w.heap.size) rfl 50 _ _ (.head _)) hS ?_
  simp only [Act.put, List.setIfInBounds_toArray, List.set_cons_zero, List.set_cons_succ]
  refine wpSeq_yield (S := Facts [.blk (w.heap.size) 50 (Rt x z), .blk (w.heap.size + 1) 50 (Rt x' z')]) (show YieldsIf _ _ _ _ (.pointer (some ⟨w.heap.size + 1, 0, none⟩)) _ from yieldsIf_fa0 rfl _ rfl (w.heap.size + 1) rfl) hS ?_
  simp only [Act.put, List.setIfInBounds_toArray, List.set_cons_zero, List.set_cons_succ]
  refine wpSeq_yield (S := Facts [.blk (w.heap.size) 50 (Rt x z), .blk (w.heap.size + 1) 50 (Rt x' z')]) (show YieldsIf _ _ _ _ (El x') _ from yieldsIf_part0 rfl _ rfl (w.heap.size + 1) rfl 50 _ _ (.tail _ (.head _))) hS ?_
  simp only [Act.put, List.setIfInBounds_toArray, List.set_cons_zero, List.set_cons_succ]
  refine wpSeq_wp rfl ?_
  go_simp
  refine (C1.out _).mono ?_
  rintro e v1 ⟨rfl, b⟩
  replace hB := hB.trans (b.mono hB.size)
  replace hS := hS.below b
  replace K2 := K2.below' b
  replace K3 := K3.below' b
  clear b
  show wpSeq _ _ _ _ _ _
  refine wpSeq_yield (S := Facts [.blk (w.heap.size) 50 (Rt x z), .blk (w.heap.size + 1) 50 (Rt x' z')]) (yieldsIf_move rfl _ rfl _ rfl) hS ?_
  simp only [Act.put, List.setIfInBounds_toArray, List.set_cons_zero, List.set_cons_succ]
  refine wpSeq_yield (S := Facts [.blk (w.heap.size) 50 (Rt x z), .blk (w.heap.size + 1) 50 (Rt x' z')]) (show YieldsIf _ _ _ _ (El A1) _ from yieldsIf_extract rfl _ _ rfl _ rfl _ rfl) hS ?_
  simp only [Act.put, List.setIfInBounds_toArray, List.set_cons_zero, List.set_cons_succ]
  refine wpSeq_yield (S := Facts [.blk (w.heap.size) 50 (Rt x z), .blk (w.heap.size + 1) 50 (Rt x' z')]) (show YieldsIf _ _ _ _ (El A2) _ from yieldsIf_extract rfl _ _ rfl _ rfl _ rfl) hS ?_
  simp only [Act.put, List.setIfInBounds_toArray, List.set_cons_zero, List.set_cons_succ]
  refine wpSeq_yield (S := Facts [.blk (w.heap.size) 50 (Rt x z), .blk (w.heap.size + 1) 50 (Rt x' z')]) (show YieldsIf _ _ _ _ (.pointer (some ⟨w.heap.size, 0, none⟩)) _ from yieldsIf_fa0 rfl _ rfl (w.heap.size) rfl) hS ?_
  simp only [Act.put, List.setIfInBounds_toArray, List.set_cons_zero, List.set_cons_succ]
  refine wpSeq_store_mid rfl 46 _ _ rfl (w.heap.size) 0 (El_cells A1) rfl rfl ((hS.blkAt (w.heap.size) 50 (Rt x z) (.head _)).there 0 (by decide) _) (info_El _) (El_one _) ?_
  try simp only [Act.put, List.setIfInBounds_toArray, List.set_cons_zero, List.set_cons_succ]
  replace hB := below_setCells (g := w.heap.size) (by omega) (El_cells A1).toList 0 hB
  replace hS : Facts [.blk (w.heap.size) 50 (Rt A1 z), .blk (w.heap.size + 1) 50 (Rt x' z')] _ := Facts.cons (f := .blk (w.heap.size) 50 (Rt A1 z)) ((hS.blkAt (w.heap.size) 50 (Rt x z) (.head _)).put0 _) (Facts.cons (f := .blk (w.heap.size + 1) 50 (Rt x' z')) (Blk.farCells (k := w.heap.size) (by first | omega | exact blk_ne (hS.blkAt _ _ _ (.tail _ (.head _))) (hS.blkAt _ _ _ (.head _)) (by decide)) _ 0 (hS.blkAt (w.heap.size + 1) 50 (Rt x' z') (.tail _ (.head _)))) (Facts.nil))
  replace K2 := Blk.farCells (k := w.heap.size) (by omega) (El_cells A1).toList 0 K2
  replace K3 := Blk.farCells (k := w.heap.size) (by omega) (El_cells A1).toList 0 K3
  generalize hWn : World.setCells _ _ _ _ = Wn at *
  clear hWn
  refine wpSeq_yield (S := Facts [.blk (w.heap.size) 50 (Rt A1 z), .blk (w.heap.size + 1) 50 (Rt x' z')]) (show YieldsIf _ _ _ _ (.pointer (some ⟨w.heap.size + 1, 0, none⟩)) _ from yieldsIf_fa0 rfl _ rfl (w.heap.size + 1) rfl) hS ?_
  simp only [Act.put, List.setIfInBounds_toArray, List.set_cons_zero, List.set_cons_succ]
  refine wpSeq_store_mid rfl 46 _ _ rfl (w.heap.size + 1) 0 (El_cells A2) rfl rfl ((hS.blkAt (w.heap.size + 1) 50 (Rt x' z') (.tail _ (.head _))).there 0 (by decide) _) (info_El _) (El_one _) ?_
  try simp only [Act.put, List.setIfInBounds_toArray, List.set_cons_zero, List.set_cons_succ]
  replace hB := below_setCells (g := w.heap.size + 1) (by omega) (El_cells A2).toList 0 hB
  replace hS : Facts [.blk (w.heap.size) 50 (Rt A1 z), .blk (w.heap.size + 1) 50 (Rt A2 z')] _ := Facts.cons (f := .blk (w.heap.size) 50 (Rt A1 z)) (Blk.farCells (k := w.heap.size + 1) (by first | omega | exact blk_ne (hS.blkAt _ _ _ (.head _)) (hS.blkAt _ _ _ (.tail _ (.head _))) (by decide)) _ 0 (hS.blkAt (w.heap.size) 50 (Rt A1 z) (.head _))) (Facts.cons (f := .blk (w.heap.size + 1) 50 (Rt A2 z')) ((hS.blkAt (w.heap.size + 1) 50 (Rt x' z') (.tail _ (.head _))).put0 _) (Facts.nil))
  replace K2 := Blk.farCells (k := w.heap.size + 1) (by omega) (El_cells A2).toList 0 K2
  replace K3 := Blk.farCells (k := w.heap.size + 1) (by omega) (El_cells A2).toList 0 K3
  generalize hWn : World.setCells _ _ _ _ = Wn at *
  clear hWn
  refine wpSeq_nil ?_
  go_upto_region 2 with fail
  refine wp_region_seq ?_
  refine wpSeq_yield (S := Facts [.blk (w.heap.size) 50 (Rt A1 z), .blk (w.heap.size + 1) 50 (Rt A2 z')]) (yieldsIf_move rfl _ rfl _ rfl) hS ?_
  simp only [Act.put, List.setIfInBounds_toArray, List.set_cons_zero, List.set_cons_succ]
  refine wpSeq_yield (S := Facts [.blk (w.heap.size) 50 (Rt A1 z), .blk (w.heap.size + 1) 50 (Rt A2 z')]) (show YieldsIf _ _ _ _ (.pointer (some ⟨w.heap.size, 5, none⟩)) _ from yieldsIf_fa5 rfl _ rfl (w.heap.size) rfl) hS ?_
  simp only [Act.put, List.setIfInBounds_toArray, List.set_cons_zero, List.set_cons_succ]
  refine wpSeq_yield (S := Facts [.blk (w.heap.size) 50 (Rt A1 z), .blk (w.heap.size + 1) 50 (Rt A2 z')]) (show YieldsIf _ _ _ _ (El z) _ from yieldsIf_part5 rfl _ rfl (w.heap.size) rfl 50 _ _ (.head _)) hS ?_
  simp only [Act.put, List.setIfInBounds_toArray, List.set_cons_zero, List.set_cons_succ]
  refine wpSeq_yield (S := Facts [.blk (w.heap.size) 50 (Rt A1 z), .blk (w.heap.size + 1) 50 (Rt A2 z')]) (show YieldsIf _ _ _ _ (.pointer (some ⟨w.heap.size + 1, 5, none⟩)) _ from yieldsIf_fa5 rfl _ rfl (w.heap.size + 1) rfl) hS ?_
  simp only [Act.put, List.setIfInBounds_toArray, List.set_cons_zero, List.set_cons_succ]
  refine wpSeq_yield (S := Facts [.blk (w.heap.size) 50 (Rt A1 z), .blk (w.heap.size + 1) 50 (Rt A2 z')]) (show YieldsIf _ _ _ _ (El z') _ from yieldsIf_part5 rfl _ rfl (w.heap.size + 1) rfl 50 _ _ (.tail _ (.head _))) hS ?_
  simp only [Act.put, List.setIfInBounds_toArray, List.set_cons_zero, List.set_cons_succ]
  refine wpSeq_wp rfl ?_
  go_simp
  refine (C2.out _).mono ?_
  rintro e v2 ⟨rfl, b⟩
  replace hB := hB.trans (b.mono hB.size)
  replace hS := hS.below b
  replace K2 := K2.below' b
  replace K3 := K3.below' b
  clear b
  show wpSeq _ _ _ _ _ _
  refine wpSeq_yield (S := Facts [.blk (w.heap.size) 50 (Rt A1 z), .blk (w.heap.size + 1) 50 (Rt A2 z')]) (yieldsIf_move rfl _ rfl _ rfl) hS ?_
  simp only [Act.put, List.setIfInBounds_toArray, List.set_cons_zero, List.set_cons_succ]
  refine wpSeq_yield (S := Facts [.blk (w.heap.size) 50 (Rt A1 z), .blk (w.heap.size + 1) 50 (Rt A2 z')]) (show YieldsIf _ _ _ _ (El B1) _ from yieldsIf_extract rfl _ _ rfl _ rfl _ rfl) hS ?_
  simp only [Act.put, List.setIfInBounds_toArray, List.set_cons_zero, List.set_cons_succ]
  refine wpSeq_yield (S := Facts [.blk (w.heap.size) 50 (Rt A1 z), .blk (w.heap.size + 1) 50 (Rt A2 z')]) (show YieldsIf _ _ _ _ (El B2) _ from yieldsIf_extract rfl _ _ rfl _ rfl _ rfl) hS ?_
  simp only [Act.put, List.setIfInBounds_toArray, List.set_cons_zero, List.set_cons_succ]
  refine wpSeq_yield (S := Facts [.blk (w.heap.size) 50 (Rt A1 z), .blk (w.heap.size + 1) 50 (Rt A2 z')]) (show YieldsIf _ _ _ _ (.pointer (some ⟨w.heap.size, 5, none⟩)) _ from yieldsIf_fa5 rfl _ rfl (w.heap.size) rfl) hS ?_
  simp only [Act.put, List.setIfInBounds_toArray, List.set_cons_zero, List.set_cons_succ]
  refine wpSeq_store_mid rfl 46 _ _ rfl (w.heap.size) 5 (El_cells B1) rfl rfl ((hS.blkAt (w.heap.size) 50 (Rt A1 z) (.head _)).there 5 (by decide) _) (info_El _) (El_one _) ?_
  try simp only [Act.put, List.setIfInBounds_toArray, List.set_cons_zero, List.set_cons_succ]
  replace hB := below_setCells (g := w.heap.size) (by omega) (El_cells B1).toList 5 hB
  replace hS : Facts [.blk (w.heap.size) 50 (Rt A1 B1), .blk (w.heap.size + 1) 50 (Rt A2 z')] _ := Facts.cons (f := .blk (w.heap.size) 50 (Rt A1 B1)) ((hS.blkAt (w.heap.size) 50 (Rt A1 z) (.head _)).put5 _) (Facts.cons (f := .blk (w.heap.size + 1) 50 (Rt A2 z')) (Blk.farCells (k := w.heap.size) (by first | omega | exact blk_ne (hS.blkAt _ _ _ (.tail _ (.head _))) (hS.blkAt _ _ _ (.head _)) (by decide)) _ 5 (hS.blkAt (w.heap.size + 1) 50 (Rt A2 z') (.tail _ (.head _)))) (Facts.nil))
  replace K2 := Blk.farCells (k := w.heap.size) (by omega) (El_cells B1).toList 5 K2
  replace K3 := Blk.farCells (k := w.heap.size) (by omega) (El_cells B1).toList 5 K3
  generalize hWn : World.setCells _ _ _ _ = Wn at *
  clear hWn
  refine wpSeq_yield (S := Facts [.blk (w.heap.size) 50 (Rt A1 B1), .blk (w.heap.size + 1) 50 (Rt A2 z')]) (show YieldsIf _ _ _ _ (.pointer (some ⟨w.heap.size + 1, 5, none⟩)) _ from yieldsIf_fa5 rfl _ rfl (w.heap.size + 1) rfl) hS ?_
  simp only [Act.put, List.setIfInBounds_toArray, List.set_cons_zero, List.set_cons_succ]
  refine wpSeq_store_mid rfl 46 _ _ rfl (w.heap.size + 1) 5 (El_cells B2) rfl rfl ((hS.blkAt (w.heap.size + 1) 50 (Rt A2 z') (.tail _ (.head _))).there 5 (by decide) _) (info_El _) (El_one _) ?_
  try simp only [Act.put, List.setIfInBounds_toArray, List.set_cons_zero, List.set_cons_succ]
  replace hB := below_setCells (g := w.heap.size + 1) (by omega) (El_cells B2).toList 5 hB
  replace hS : Facts [.blk (w.heap.size) 50 (Rt A1 B1), .blk (w.heap.size + 1) 50 (Rt A2 B2)] _ := Facts.cons (f := .blk (w.heap.size) 50 (Rt A1 B1)) (Blk.farCells (k := w.heap.size + 1) (by first | omega | exact blk_ne (hS.blkAt _ _ _ (.head _)) (hS.blkAt _ _ _ (.tail _ (.head _))) (by decide)) _ 5 (hS.blkAt (w.heap.size) 50 (Rt A1 B1) (.head _))) (Facts.cons (f := .blk (w.heap.size + 1) 50 (Rt A2 B2)) ((hS.blkAt (w.heap.size + 1) 50 (Rt A2 z') (.tail _ (.head _))).put5 _) (Facts.nil))
  replace K2 := Blk.farCells (k := w.heap.size + 1) (by omega) (El_cells B2).toList 5 K2
  replace K3 := Blk.farCells (k := w.heap.size + 1) (by omega) (El_cells B2).toList 5 K3
  generalize hWn : World.setCells _ _ _ _ = Wn at *
  clear hWn
  refine wpSeq_nil ?_
  go_upto_region 3 with fail
  replace hS := hS.drew
  replace hB := below_drew hB
  replace K2 := K2.drew
  replace K3 := K3.drew
  refine wp_region_Z (S := Facts [.blk (w.heap.size) 50 (Rt A1 B1), .blk (w.heap.size + 1) 50 (Rt A2 B2)]) 3 (by kernel_rfl) ?_
  refine wpAnyZ_takeL 0 rfl (by kernel_rfl) (by kernel_rfl) (by kernel_rfl) (by kernel_rfl) (by kernel_rfl) (fun _ _ _ h => h) (show YieldsIf _ _ _ _ (RV A1 B1) _ from yieldsIf_load rfl 50 _ rfl (w.heap.size) rfl 50 _ _ (.head _) Try.underlying50 rfl (info_Rt _ _)) hS ?_
  simp only [Act.put, List.setIfInBounds_toArray, List.set_cons_zero, List.set_cons_succ]
  refine wpAnyZ_takeL 1 rfl (by kernel_rfl) (by kernel_rfl) (by kernel_rfl) (by kernel_rfl) (by kernel_rfl) (fun _ _ _ h => h) (show YieldsIf _ _ _ _ (RV A2 B2) _ from yieldsIf_load rfl 50 _ rfl (w.heap.size + 1) rfl 50 _ _ (.tail _ (.head _)) Try.underlying50 rfl (info_Rt _ _)) hS ?_
  simp only [Act.put, List.setIfInBounds_toArray, List.set_cons_zero, List.set_cons_succ]
  refine wpAnyZ_store_row 2 rfl (by kernel_rfl) rfl _ _ _ rfl (w.heap.size + 1 + 1) (Rt A1 B1) rfl rfl _ _ K2 (info_Rt _ _) rfl (Rt_one _ _) (Facts.cons (f := .blk (w.heap.size) 50 (Rt A1 B1)) ((hS.blkAt (w.heap.size) 50 (Rt A1 B1) (.head _)).rowFar (k := w.heap.size + 1 + 1) (by omega) (Rt A1 B1)) (Facts.cons (f := .blk (w.heap.size + 1) 50 (Rt A2 B2)) ((hS.blkAt (w.heap.size + 1) 50 (Rt A2 B2) (.tail _ (.head _))).rowFar (k := w.heap.size + 1 + 1) (by omega) (Rt A1 B1)) (Facts.nil))) ?_
  try simp only [Act.put, List.setIfInBounds_toArray, List.set_cons_zero, List.set_cons_succ]
  replace hB := below_setRow hB (g := w.heap.size + 1 + 1) (by omega) (Rt A1 B1)
  replace hS : Facts [.blk (w.heap.size) 50 (Rt A1 B1), .blk (w.heap.size + 1) 50 (Rt A2 B2)] _ := Facts.cons (f := .blk (w.heap.size) 50 (Rt A1 B1)) ((hS.blkAt (w.heap.size) 50 (Rt A1 B1) (.head _)).rowFar (k := w.heap.size + 1 + 1) (by omega) (Rt A1 B1)) (Facts.cons (f := .blk (w.heap.size + 1) 50 (Rt A2 B2)) ((hS.blkAt (w.heap.size + 1) 50 (Rt A2 B2) (.tail _ (.head _))).rowFar (k := w.heap.size + 1 + 1) (by omega) (Rt A1 B1)) (Facts.nil))
  replace K2 := K2.row (Rt A1 B1)
  replace K3 := K3.rowFar (k := w.heap.size + 1 + 1) (by omega) (Rt A1 B1)
  generalize hWn : World.setRow _ _ _ = Wn at *
  clear hWn
  refine wpAnyZ_store_last 3 rfl (by kernel_rfl) rfl _ _ _ rfl (w.heap.size + 1 + 1 + 1) (Rt A2 B2) rfl rfl _ _ K3 (info_Rt _ _) rfl (Rt_one _ _) (by kernel_rfl) ?_
  try simp only [Act.put, List.setIfInBounds_toArray, List.set_cons_zero, List.set_cons_succ]
  replace hB := below_setRow hB (g := w.heap.size + 1 + 1 + 1) (by omega) (Rt A2 B2)
  replace hS : Facts [.blk (w.heap.size) 50 (Rt A1 B1), .blk (w.heap.size + 1) 50 (Rt A2 B2)] _ := Facts.cons (f := .blk (w.heap.size) 50 (Rt A1 B1)) ((hS.blkAt (w.heap.size) 50 (Rt A1 B1) (.head _)).rowFar (k := w.heap.size + 1 + 1 + 1) (by omega) (Rt A2 B2)) (Facts.cons (f := .blk (w.heap.size + 1) 50 (Rt A2 B2)) ((hS.blkAt (w.heap.size + 1) 50 (Rt A2 B2) (.tail _ (.head _))).rowFar (k := w.heap.size + 1 + 1 + 1) (by omega) (Rt A2 B2)) (Facts.nil))
  replace K2 := K2.rowFar (k := w.heap.size + 1 + 1 + 1) (by omega) (Rt A2 B2)
  replace K3 := K3.row (Rt A2 B2)
  generalize hWn : World.setRow _ _ _ = Wn at *
  clear hWn
  refine wpAnyZ_done (by kernel_rfl) ?_ _
  go_wp2
  exact bodyPost_ret (results_two rfl _ _ (w.heap.size + 1 + 1) (w.heap.size + 1 + 1 + 1) 50 50 _ _ _ rfl rfl K2 K3 Try.underlying50 rfl (info_Rt _ _) (info_Rt _ _)) rfl ⟨rfl, hB⟩
end Go.Proofs.Ytgdhlafggdaipaa
