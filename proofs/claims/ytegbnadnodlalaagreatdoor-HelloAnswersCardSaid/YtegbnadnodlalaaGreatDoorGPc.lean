/- Contracts of curve's at, Zero, Base (printed by gencurve.py). -/
import Derived.Test.YtegbnadnodlalaaGreatDoorGCi0GPb
namespace Go.Proofs.YtegbnadnodlalaaGreatDoor
open Go.RowKit
set_option maxHeartbeats 4000000 in
set_option maxRecDepth 100000 in
theorem cat_v (X Y : Nat) (lX : X < pp) (lY : Y < pp) (w : World) :
  Calls Tryz.prog 77 #[El X, El Y] w fun e w' => e = .returned (PV (pat X Y)) ∧ Below w.heap.size w w' := by
 obtain ⟨E0, hE0⟩ : ∃ r, r = 1 := ⟨_, rfl⟩
 have lE0 : E0 < pp := hE0 ▸ by rw [pp_eq]; decide
 have HE0 := Lib.hid hE0
 clear hE0
 obtain ⟨E1, hE1⟩ : ∃ r, r = X * Y % pp := ⟨_, rfl⟩
 have lE1 : E1 < pp := hE1 ▸ Nat.mod_lt _ pp_pos
 have HE1 := Lib.hid hE1
 clear hE1
 unfold El
 go_enter Tryz.func77, Tryz.ntmps77
 go_upto_region 1 with fail
 generalize hW : World.alloc (World.alloc (World.alloc w _) _) _ = W
 have hB : Below w.heap.size w W := hW ▸ (((Below.refl w.heap.size w).alloc (Nat.le_refl _) _).alloc (by simp) _).alloc (by simp; omega) _
 have K0 : Blk W (w.heap.size) 83 (El_cells X) := hW ▸ (((Blk.new' (by simp) _ _).alloc _).alloc _)
 have K1 : Blk W (w.heap.size + 1) 83 (El_cells Y) := hW ▸ ((Blk.new' (by simp) _ _).alloc _)
 have K2 : Blk W (w.heap.size + 1 + 1) 85 (Pc p40) := hW ▸ (Blk.new' (by simp) _ _)
 have hS : Facts [.blk (w.heap.size) 83 (El_cells X), .blk (w.heap.size + 1) 83 (El_cells Y)] W := Facts.cons (f := .blk (w.heap.size) 83 (El_cells X)) K0 (Facts.cons (f := .blk (w.heap.size + 1) 83 (El_cells Y)) K1 (Facts.nil))
 clear hW K0 K1
 replace hS := hS.drew
 replace hB := below_drew hB
 replace K2 := K2.drew
 refine wp_region_Z (S := Facts [.blk (w.heap.size) 83 (El_cells X), .blk (w.heap.size + 1) 83 (El_cells Y)]) 7 (by kernel_rfl) ?_
 refine wpAnyZ_takeL 0 rfl (by kernel_rfl) (by kernel_rfl) (by kernel_rfl) (by kernel_rfl) (by kernel_rfl) (fun _ _ _ h => h) (show YieldsIf _ _ _ _ (El X) _ from yieldsIf_load rfl 83 _ rfl (w.heap.size) rfl 83 _ _ (.head _) Tryz.underlying83 rfl (info_El _)) hS ?_
 simp only [Act.put, List.setIfInBounds_toArray, List.set_cons_zero, List.set_cons_succ]
 refine wpAnyZ_takeL 1 rfl (by kernel_rfl) (by kernel_rfl) (by kernel_rfl) (by kernel_rfl) (by kernel_rfl) (fun _ _ _ h => h) (show YieldsIf _ _ _ _ (El Y) _ from yieldsIf_load rfl 83 _ rfl (w.heap.size + 1) rfl 83 _ _ (.tail _ (.head _)) Tryz.underlying83 rfl (info_El _)) hS ?_
 simp only [Act.put, List.setIfInBounds_toArray, List.set_cons_zero, List.set_cons_succ]
 refine wpAnyZ_takeL 3 rfl (by kernel_rfl) (by kernel_rfl) (by kernel_rfl) (by kernel_rfl) (by kernel_rfl) (fun _ _ _ h => h) (show YieldsIf _ _ _ _ (El X) _ from yieldsIf_load rfl 83 _ rfl (w.heap.size) rfl 83 _ _ (.head _) Tryz.underlying83 rfl (info_El _)) hS ?_
 simp only [Act.put, List.setIfInBounds_toArray, List.set_cons_zero, List.set_cons_succ]
 refine wpAnyZ_takeL 4 rfl (by kernel_rfl) (by kernel_rfl) (by kernel_rfl) (by kernel_rfl) (by kernel_rfl) (fun _ _ _ h => h) (show YieldsIf _ _ _ _ (El Y) _ from yieldsIf_load rfl 83 _ rfl (w.heap.size + 1) rfl 83 _ _ (.tail _ (.head _)) Tryz.underlying83 rfl (info_El _)) hS ?_
 simp only [Act.put, List.setIfInBounds_toArray, List.set_cons_zero, List.set_cons_succ]
 refine wpAnyZ_one (i := 2) (by kernel_rfl) ?_
 unfold wpOp
 go_simp
 left
 refine (small_v 1 E0 _ (by decide) HE0.out).mono ?_
 rintro e v1 ⟨rfl, b⟩
 replace hB := hB.trans (b.mono hB.size)
 replace hS := hS.below b
 replace K2 := K2.below' b
 clear b
 refine ⟨hS, ?_⟩
 refine wpAnyZ_one (i := 5) (by kernel_rfl) ?_
 unfold wpOp
 go_simp
 left
 refine (mul_v X Y E1 _ lX lY HE1.out).mono ?_
 rintro e v2 ⟨rfl, b⟩
 replace hB := hB.trans (b.mono hB.size)
 replace hS := hS.below b
 replace K2 := K2.below' b
 clear b
 refine ⟨hS, ?_⟩
 refine wpAnyZ_takeL 6 rfl (by kernel_rfl) (by kernel_rfl) (by kernel_rfl) (by kernel_rfl) (by kernel_rfl) (fun _ _ _ h => h) (yieldsIf_pt rfl _ _ _ _ rfl X Y E0 E1 rfl rfl rfl rfl) hS ?_
 simp only [Act.put, List.setIfInBounds_toArray, List.set_cons_zero, List.set_cons_succ]
 refine wpAnyZ_store_end 7 rfl (by kernel_rfl) rfl _ _ _ rfl (w.heap.size + 1 + 1) (Pc ⟨X, Y, E0, E1⟩) rfl rfl _ _ K2 (info_Pc _) (Pc_same _ _) (Pc_one _) (by kernel_rfl) ?_
 try simp only [Act.put, List.setIfInBounds_toArray, List.set_cons_zero, List.set_cons_succ]
 replace hB := below_setRow hB (g := w.heap.size + 1 + 1) (by omega) (Pc ⟨X, Y, E0, E1⟩)
 replace hS : Facts [.blk (w.heap.size) 83 (El_cells X), .blk (w.heap.size + 1) 83 (El_cells Y)] _ := Facts.cons (f := .blk (w.heap.size) 83 (El_cells X)) ((hS.blkAt (w.heap.size) 83 (El_cells X) (.head _)).rowFar (k := w.heap.size + 1 + 1) (blk_ne (hS.blkAt (w.heap.size) 83 (El_cells X) (.head _)) K2 (by decide)) (Pc ⟨X, Y, E0, E1⟩)) (Facts.cons (f := .blk (w.heap.size + 1) 83 (El_cells Y)) ((hS.blkAt (w.heap.size + 1) 83 (El_cells Y) (.tail _ (.head _))).rowFar (k := w.heap.size + 1 + 1) (blk_ne (hS.blkAt (w.heap.size + 1) 83 (El_cells Y) (.tail _ (.head _))) K2 (by decide)) (Pc ⟨X, Y, E0, E1⟩)) (Facts.nil))
 replace K2 := K2.row (Pc ⟨X, Y, E0, E1⟩)
 generalize hWn : World.setRow _ _ _ = Wn at *
 clear hWn
 refine wpAnyZ_done (by kernel_rfl) ?_ _
 go_wp2
 exact bodyPost_ret (results_cell_row rfl _ _ _ 85 _ (0, 0) _ rfl K2 Tryz.underlying85 rfl (info_Pc _)) rfl ⟨by simp only [PV, pat, fm, HE0.out, HE1.out], hB⟩
set_option maxHeartbeats 4000000 in
set_option maxRecDepth 100000 in
theorem czero_v  (w : World) :
  Calls Tryz.prog 78 #[] w fun e w' => e = .returned (PV pzero) ∧ Below w.heap.size w w' := by
 have C0 := fun W => cat_v 0 1 pp_pos one_lt W
 go_enter Tryz.func78, Tryz.ntmps78
 go_upto_region 1 with fail
 generalize hW : World.alloc w _ = W
 have hB : Below w.heap.size w W := hW ▸ (Below.refl w.heap.size w).alloc (Nat.le_refl _) _
 have K0 : Blk W (w.heap.size) 85 (Pc p40) := hW ▸ (Blk.new' (by simp) _ _)
 have hS : Facts [] W := Facts.nil
 clear hW
 refine wp_region_seq ?_
 refine wpSeq_wp rfl ?_
 go_simp
 refine (small_v 0 0 _ (by decide) rfl).mono ?_
 rintro e v1 ⟨rfl, b⟩
 replace hB := hB.trans (b.mono hB.size)
 replace hS := hS.below b
 replace K0 := K0.below' b
 clear b
 show wpSeq _ _ _ _ _ _
 refine wpSeq_wp rfl ?_
 go_simp
 refine (small_v 1 1 _ (by decide) rfl).mono ?_
 rintro e v2 ⟨rfl, b⟩
 replace hB := hB.trans (b.mono hB.size)
 replace hS := hS.below b
 replace K0 := K0.below' b
 clear b
 show wpSeq _ _ _ _ _ _
 refine wpSeq_wp rfl ?_
 go_simp
 refine (C0 _).mono ?_
 rintro e v3 ⟨rfl, b⟩
 replace hB := hB.trans (b.mono hB.size)
 replace hS := hS.below b
 replace K0 := K0.below' b
 clear b
 show wpSeq _ _ _ _ _ _
 refine wpSeq_store_row rfl 85 _ _ rfl (w.heap.size) (Pc pzero) rfl rfl _ _ K0 (info_Pc _) (Pc_same _ _) (Pc_one _) ?_
 try simp only [Act.put, List.setIfInBounds_toArray, List.set_cons_zero, List.set_cons_succ]
 replace hB := below_setRow hB (g := w.heap.size) (by omega) (Pc pzero)
 replace hS : Facts [] _ := Facts.nilB hB
 replace K0 := K0.row (Pc pzero)
 generalize hWn : World.setRow _ _ _ = Wn at *
 clear hWn
 refine wpSeq_nil ?_
 go_wp2
 exact bodyPost_ret (results_cell_row rfl _ _ _ 85 _ (0, 0) _ rfl K0 Tryz.underlying85 rfl (info_Pc _)) rfl ⟨rfl, hB⟩
set_option maxHeartbeats 4000000 in
set_option maxRecDepth 100000 in
theorem cbase_v  (w : World) (GX : Rng w 1 (Iv .u8 (keyOf bxN))) (GY : Rng w 2 (Iv .u8 (keyOf byN))) :
  Calls Tryz.prog 58 #[] w fun e w' => e = .returned (PV pbase) ∧ Below w.heap.size w w' := by
 have bGX := GX.blk
 have bGY := GY.blk
 have C0 := fun W => cat_v bxN byN bxN_lt byN_lt W
 have kbxN := Nat.lt_trans bxN_lt pp_lt256
 have kbyN := Nat.lt_trans byN_lt pp_lt256
 go_enter Tryz.func58, Tryz.ntmps58
 go_upto_region 1 with fail
 generalize hW : World.alloc w _ = W
 have hB : Below w.heap.size w W := hW ▸ (Below.refl w.heap.size w).alloc (Nat.le_refl _) _
 have K0 : Blk W (w.heap.size) 85 (Pc p40) := hW ▸ (Blk.new' (by simp) _ _)
 have hS : Facts [.rng 1 (Iv .u8 (keyOf bxN)), .rng 2 (Iv .u8 (keyOf byN))] W := Facts.cons (f := .rng 1 (Iv .u8 (keyOf bxN))) (GX.below hB) (Facts.cons (f := .rng 2 (Iv .u8 (keyOf byN))) (GY.below hB) (Facts.nil))
 clear hW
 replace hS := hS.drew
 replace hB := below_drew hB
 replace K0 := K0.drew
 refine wp_region_Z (S := Facts [.rng 1 (Iv .u8 (keyOf bxN)), .rng 2 (Iv .u8 (keyOf byN))]) 5 (by kernel_rfl) ?_
 refine wpAnyZ_takeL 0 rfl (by kernel_rfl) (by kernel_rfl) (by kernel_rfl) (by kernel_rfl) (by kernel_rfl) (fun _ _ _ h => h) (show YieldsIf _ _ _ _ (Key (keyOf bxN)) _ from yieldsIf_load_mid rfl 23 _ rfl 1 0 rfl (Iv .u8 (keyOf bxN)).toList _ (fun _ h => (h.rngAt _ _ (.head _)).there) Tryz.underlying23 rfl (info_keyL _)) hS ?_
 simp only [Act.put, List.setIfInBounds_toArray, List.set_cons_zero, List.set_cons_succ]
 refine wpAnyZ_takeL 2 rfl (by kernel_rfl) (by kernel_rfl) (by kernel_rfl) (by kernel_rfl) (by kernel_rfl) (fun _ _ _ h => h) (show YieldsIf _ _ _ _ (Key (keyOf byN)) _ from yieldsIf_load_mid rfl 23 _ rfl 2 0 rfl (Iv .u8 (keyOf byN)).toList _ (fun _ h => (h.rngAt _ _ (.tail _ (.head _))).there) Tryz.underlying23 rfl (info_keyL _)) hS ?_
 simp only [Act.put, List.setIfInBounds_toArray, List.set_cons_zero, List.set_cons_succ]
 refine wpAnyZ_one (i := 1) (by kernel_rfl) ?_
 unfold wpOp
 go_simp
 left
 refine (of_n bxN bxN kbxN (plN_small bxN_lt).symm _).mono ?_
 rintro e v1 ⟨rfl, b⟩
 replace hB := hB.trans (b.mono hB.size)
 replace hS := hS.below b
 replace K0 := K0.below' b
 clear b
 refine ⟨hS, ?_⟩
 refine wpAnyZ_one (i := 3) (by kernel_rfl) ?_
 unfold wpOp
 go_simp
 left
 refine (of_n byN byN kbyN (plN_small byN_lt).symm _).mono ?_
 rintro e v2 ⟨rfl, b⟩
 replace hB := hB.trans (b.mono hB.size)
 replace hS := hS.below b
 replace K0 := K0.below' b
 clear b
 refine ⟨hS, ?_⟩
 refine wpAnyZ_one (i := 4) (by kernel_rfl) ?_
 unfold wpOp
 go_simp
 left
 refine (C0 _).mono ?_
 rintro e v3 ⟨rfl, b⟩
 replace hB := hB.trans (b.mono hB.size)
 replace hS := hS.below b
 replace K0 := K0.below' b
 clear b
 refine ⟨hS, ?_⟩
 refine wpAnyZ_store_end 5 rfl (by kernel_rfl) rfl _ _ _ rfl (w.heap.size) (Pc pbase) rfl rfl _ _ K0 (info_Pc _) (Pc_same _ _) (Pc_one _) (by kernel_rfl) ?_
 try simp only [Act.put, List.setIfInBounds_toArray, List.set_cons_zero, List.set_cons_succ]
 replace hB := below_setRow hB (g := w.heap.size) (by omega) (Pc pbase)
 replace hS : Facts [.rng 1 (Iv .u8 (keyOf bxN)), .rng 2 (Iv .u8 (keyOf byN))] _ := Facts.cons (f := .rng 1 (Iv .u8 (keyOf bxN))) ((hS.rngAt _ _ (.head _)).rowFar (k := w.heap.size) (by omega) (Pc pbase)) (Facts.cons (f := .rng 2 (Iv .u8 (keyOf byN))) ((hS.rngAt _ _ (.tail _ (.head _))).rowFar (k := w.heap.size) (by omega) (Pc pbase)) (Facts.nil))
 replace K0 := K0.row (Pc pbase)
 generalize hWn : World.setRow _ _ _ = Wn at *
 clear hWn
 refine wpAnyZ_done (by kernel_rfl) ?_ _
 go_wp2
 exact bodyPost_ret (results_cell_row rfl _ _ _ 85 _ (0, 0) _ rfl K0 Tryz.underlying85 rfl (info_Pc _)) rfl ⟨rfl, hB⟩
end Go.Proofs.YtegbnadnodlalaaGreatDoor
