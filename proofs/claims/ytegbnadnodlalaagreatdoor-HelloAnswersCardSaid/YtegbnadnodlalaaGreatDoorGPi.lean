/- The contract of curve's Encode (printed by gencurve.py). -/
import Derived.Test.YtegbnadnodlalaaGreatDoorGPg0GPl
namespace Go.Proofs.YtegbnadnodlalaaGreatDoor
open Go.RowKit
open Ed
theorem or_128 : ∀ n : Fin 128, bits .or .u8 (n.val : Int) 128 = ((n.val + 128 : Nat) : Int) := by decide +kernel
set_option maxHeartbeats 4000000 in
set_option maxRecDepth 100000 in
theorem cenc_odd (X Y Z T U NX NY : Nat) (lZ : Z < pp) (lX : X < pp) (lY : Y < pp) (lU : U < pp) (lNX : NX < pp) (lNY : NY < pp) (hU : U = pinv Z) (hX : NX = fm X U) (hY : NY = fm Y U) (ho : decide (NX % 2 = 1) = true) (w : World) :
  Calls Tryz.prog 36 #[PV ⟨X, Y, Z, T⟩] w fun e w' => e = .returned (Key (keyOf (NY + 57896044618658097711785492504343953926634992332820282019728792003956564819968))) ∧ Below w.heap.size w w' := by
 have CI := Lib.hid (fun W => inv_v Z U W lZ (by rw [hU]; rfl))
 have CY := Lib.hid (fun W => mul_v Y U NY W lY lU hY)
 have CX := Lib.hid (fun W => mul_v X U NX W lX lU hX)
 have HO := Lib.hid ho
 clear hU hX hY ho
 unfold PV
 go_enter Tryz.func36, Tryz.ntmps36
 go_upto_region 1 with fail
 generalize hW : World.alloc (World.alloc w _) _ = W
 have hB : Below w.heap.size w W := hW ▸ ((Below.refl w.heap.size w).alloc (Nat.le_refl _) _).alloc (by simp) _
 have K0 : Blk W (w.heap.size) 85 (Pc ⟨X, Y, Z, T⟩) := hW ▸ ((Blk.new' (by simp) _ _).alloc _)
 have K1 : Blk W (w.heap.size + 1) 23 (Iv .u8 (List.replicate 32 0)) := hW ▸ (Blk.new' (by simp) _ _)
 have hS : Facts [.blk (w.heap.size) 85 (Pc ⟨X, Y, Z, T⟩)] W := Facts.cons (f := .blk (w.heap.size) 85 (Pc ⟨X, Y, Z, T⟩)) K0 (Facts.nil)
 clear hW K0
 refine wp_region_seq ?_
 refine wpSeq_yield (S := Facts [.blk (w.heap.size) 85 (Pc ⟨X, Y, Z, T⟩)]) (show YieldsIf _ _ _ _ (.pointer (some ⟨w.heap.size, 10, none⟩)) _ from yieldsIf_pf10 rfl _ rfl (w.heap.size) rfl) hS ?_
 simp only [Act.put, List.setIfInBounds_toArray, List.set_cons_zero, List.set_cons_succ]
 refine wpSeq_yield (S := Facts [.blk (w.heap.size) 85 (Pc ⟨X, Y, Z, T⟩)]) (show YieldsIf _ _ _ _ (El Z) _ from yieldsIf_pl10 rfl _ rfl (w.heap.size) rfl 85 _ (.head _)) hS ?_
 simp only [Act.put, List.setIfInBounds_toArray, List.set_cons_zero, List.set_cons_succ]
 refine wpSeq_wp rfl ?_
 go_simp
 refine (CI.out _).mono ?_
 rintro e v1 ⟨rfl, b⟩
 replace hB := hB.trans (b.mono hB.size)
 replace hS := hS.below b
 replace K1 := K1.below' b
 clear b
 show wpSeq _ _ _ _ _ _
 refine wpSeq_allocQ 83 (El_cells 0) rfl (fun W => by go_simp; rfl) ?_
 intro B1 C1 AB1 b mB1
 simp only [Act.put, List.setIfInBounds_toArray, List.set_cons_zero, List.set_cons_succ]
 have hb := b
 clear b
 refine wpSeq_store_row rfl 83 _ _ rfl (B1) (El_cells U) rfl rfl _ _ AB1 (info_El _) (El_same _ _) (El_one _) ?_
 try simp only [Act.put, List.setIfInBounds_toArray, List.set_cons_zero, List.set_cons_succ]
 replace AB1 := AB1.row (El_cells U)
 replace hb := below_setRow hb mB1 (El_cells U)
 generalize hWn : World.setRow _ _ _ = Wn at *
 clear hWn
 have uB1_K1 := Nat.lt_of_lt_of_le K1.lt mB1
 replace mB1 := Nat.le_trans hB.size mB1
 replace hB := hB.trans (hb.mono hB.size)
 replace hS := hS.below hb
 replace K1 := K1.below' hb
 clear hb
 replace hS : Facts [.blk (B1) 83 (El_cells U), .blk (w.heap.size) 85 (Pc ⟨X, Y, Z, T⟩)] _ := Facts.cons (f := .blk B1 83 (El_cells U)) AB1 hS
 clear AB1
 refine wpSeq_nil ?_
 go_upto_region 2 with fail
 refine wp_region_seq ?_
 refine wpSeq_yield (S := Facts [.blk (B1) 83 (El_cells U), .blk (w.heap.size) 85 (Pc ⟨X, Y, Z, T⟩)]) (show YieldsIf _ _ _ _ (.pointer (some ⟨w.heap.size, 5, none⟩)) _ from yieldsIf_pf5 rfl _ rfl (w.heap.size) rfl) hS ?_
 simp only [Act.put, List.setIfInBounds_toArray, List.set_cons_zero, List.set_cons_succ]
 refine wpSeq_yield (S := Facts [.blk (B1) 83 (El_cells U), .blk (w.heap.size) 85 (Pc ⟨X, Y, Z, T⟩)]) (show YieldsIf _ _ _ _ (El Y) _ from yieldsIf_pl5 rfl _ rfl (w.heap.size) rfl 85 _ (.tail _ (.head _))) hS ?_
 simp only [Act.put, List.setIfInBounds_toArray, List.set_cons_zero, List.set_cons_succ]
 refine wpSeq_yield (S := Facts [.blk (B1) 83 (El_cells U), .blk (w.heap.size) 85 (Pc ⟨X, Y, Z, T⟩)]) (show YieldsIf _ _ _ _ (El U) _ from yieldsIf_load rfl 83 _ rfl (B1) rfl 83 _ _ (.head _) Tryz.underlying83 rfl (info_El _)) hS ?_
 simp only [Act.put, List.setIfInBounds_toArray, List.set_cons_zero, List.set_cons_succ]
 refine wpSeq_wp rfl ?_
 go_simp
 refine (CY.out _).mono ?_
 rintro e v2 ⟨rfl, b⟩
 replace hB := hB.trans (b.mono hB.size)
 replace hS := hS.below b
 replace K1 := K1.below' b
 clear b
 show wpSeq _ _ _ _ _ _
 refine wpSeq_wp rfl ?_
 go_simp
 refine (bytes_v NY _ lNY).mono ?_
 rintro e v3 ⟨rfl, b⟩
 replace hB := hB.trans (b.mono hB.size)
 replace hS := hS.below b
 replace K1 := K1.below' b
 clear b
 show wpSeq _ _ _ _ _ _
 refine wpSeq_allocQ 23 (Iv .u8 (List.replicate 32 0)) rfl (fun W => by go_simp; rfl) ?_
 intro B2 C2 AB2 b mB2
 simp only [Act.put, List.setIfInBounds_toArray, List.set_cons_zero, List.set_cons_succ]
 have hb := b
 clear b
 refine wpSeq_store_row rfl 23 _ _ rfl (B2) (Iv .u8 (keyOf NY)) rfl rfl _ _ AB2 (info_key _ (keyOf_length _)) (by rw [Iv_size, Iv_size, keyOf_length]; rfl) (Iv_one _ _) ?_
 try simp only [Act.put, List.setIfInBounds_toArray, List.set_cons_zero, List.set_cons_succ]
 replace AB2 := AB2.row (Iv .u8 (keyOf NY))
 replace hb := below_setRow hb mB2 (Iv .u8 (keyOf NY))
 generalize hWn : World.setRow _ _ _ = Wn at *
 clear hWn
 have uB2_K1 := Nat.lt_of_lt_of_le K1.lt mB2
 replace mB2 := Nat.le_trans hB.size mB2
 replace hB := hB.trans (hb.mono hB.size)
 replace hS := hS.below hb
 replace K1 := K1.below' hb
 clear hb
 replace hS : Facts [.blk (B2) 23 (Iv .u8 (keyOf NY)), .blk (B1) 83 (El_cells U), .blk (w.heap.size) 85 (Pc ⟨X, Y, Z, T⟩)] _ := Facts.cons (f := .blk B2 23 (Iv .u8 (keyOf NY))) AB2 hS
 clear AB2
 refine wpSeq_nil ?_
 go_upto_region 3 with fail
 refine wp_region_seq ?_
 refine wpSeq_yield (S := Facts [.blk (B2) 23 (Iv .u8 (keyOf NY)), .blk (B1) 83 (El_cells U), .blk (w.heap.size) 85 (Pc ⟨X, Y, Z, T⟩)]) (show YieldsIf _ _ _ _ (.pointer (some ⟨w.heap.size, 0, none⟩)) _ from yieldsIf_pf0 rfl _ rfl (w.heap.size) rfl) hS ?_
 simp only [Act.put, List.setIfInBounds_toArray, List.set_cons_zero, List.set_cons_succ]
 refine wpSeq_yield (S := Facts [.blk (B2) 23 (Iv .u8 (keyOf NY)), .blk (B1) 83 (El_cells U), .blk (w.heap.size) 85 (Pc ⟨X, Y, Z, T⟩)]) (show YieldsIf _ _ _ _ (El X) _ from yieldsIf_pl0 rfl _ rfl (w.heap.size) rfl 85 _ (.tail _ (.tail _ (.head _)))) hS ?_
 simp only [Act.put, List.setIfInBounds_toArray, List.set_cons_zero, List.set_cons_succ]
 refine wpSeq_yield (S := Facts [.blk (B2) 23 (Iv .u8 (keyOf NY)), .blk (B1) 83 (El_cells U), .blk (w.heap.size) 85 (Pc ⟨X, Y, Z, T⟩)]) (show YieldsIf _ _ _ _ (El U) _ from yieldsIf_load rfl 83 _ rfl (B1) rfl 83 _ _ (.tail _ (.head _)) Tryz.underlying83 rfl (info_El _)) hS ?_
 simp only [Act.put, List.setIfInBounds_toArray, List.set_cons_zero, List.set_cons_succ]
 refine wpSeq_wp rfl ?_
 go_simp
 refine (CX.out _).mono ?_
 rintro e v4 ⟨rfl, b⟩
 replace hB := hB.trans (b.mono hB.size)
 replace hS := hS.below b
 replace K1 := K1.below' b
 clear b
 show wpSeq _ _ _ _ _ _
 refine wpSeq_wp rfl ?_
 go_simp
 refine (odd_v NX true _ (HO.out)).mono ?_
 rintro e v5 ⟨rfl, b⟩
 replace hB := hB.trans (b.mono hB.size)
 replace hS := hS.below b
 replace K1 := K1.below' b
 clear b
 show wpSeq _ _ _ _ _ _
 refine wpSeq_nil ?_
 have KB := hS.blkAt (B2) 23 (Iv .u8 (keyOf NY)) (.head _)
 have c0 := key_cellj KB 31 (by decide)
 have f0 := KB.frozen 31
 have hb0 := byteAt_small NY (Nat.lt_trans lNY pp_255)
 have hor := or_128 ⟨byteAt NY 31, hb0⟩
 have hlay := key_lay NY 1 (Nat.lt_trans lNY pp_255) (by decide)
 simp only [Nat.one_mul] at hlay hor
 obtain ⟨v1, hv1⟩ : ∃ v : Nat, v = byteAt NY 31 + 128 := ⟨_, rfl⟩
 rw [← hv1] at hlay hor
 have HL := Lib.hid hlay
 clear hlay hv1 hb0
 go_upto_region 5 with fail
 have hlt := K1.lt
 replace KB := KB.set 31 (.int .u8 (v1 : Int))
 rw [Iv_set, HL.out] at KB
 replace K1 : Blk _ _ _ _ := K1.far (p := ⟨B2, 31, none⟩) (by show w.heap.size + 1 ≠ B2; omega) (.int .u8 (v1 : Int))
 replace hB := hB.setCell (p := ⟨B2, 31, none⟩) (by show w.heap.size ≤ B2; omega) (.int .u8 (v1 : Int))
 clear hS c0 f0 hor hlt
 generalize World.setCell _ _ _ = V at *
 go_wp2_with (first | (refine wpList_load_row rfl 23 _ rfl (B2) rfl 23 _ (0, 0) _ KB Tryz.underlying23 rfl (info_key _ (keyOf_length _)) ?_) | (refine wpList_store_row rfl 23 _ _ rfl (w.heap.size + 1) (Iv .u8 (keyOf (NY + 57896044618658097711785492504343953926634992332820282019728792003956564819968))) rfl rfl 23 _ K1 (info_key _ (keyOf_length _)) (by rw [Iv_size, Iv_size, keyOf_length]; rfl) (Iv_one _ _) ?_))
 exact bodyPost_ret (results_cell_row rfl _ _ _ 23 _ (0, 0) _ rfl (K1.row _) Tryz.underlying23 rfl (info_key _ (keyOf_length _))) rfl ⟨rfl, below_setRow hB (by omega) _⟩
set_option maxHeartbeats 4000000 in
set_option maxRecDepth 100000 in
theorem cenc_even (X Y Z T U NX NY : Nat) (lZ : Z < pp) (lX : X < pp) (lY : Y < pp) (lU : U < pp) (lNX : NX < pp) (lNY : NY < pp) (hU : U = pinv Z) (hX : NX = fm X U) (hY : NY = fm Y U) (ho : decide (NX % 2 = 1) = false) (w : World) :
  Calls Tryz.prog 36 #[PV ⟨X, Y, Z, T⟩] w fun e w' => e = .returned (Key (keyOf NY)) ∧ Below w.heap.size w w' := by
 have CI := Lib.hid (fun W => inv_v Z U W lZ (by rw [hU]; rfl))
 have CY := Lib.hid (fun W => mul_v Y U NY W lY lU hY)
 have CX := Lib.hid (fun W => mul_v X U NX W lX lU hX)
 have HO := Lib.hid ho
 clear hU hX hY ho
 unfold PV
 go_enter Tryz.func36, Tryz.ntmps36
 go_upto_region 1 with fail
 generalize hW : World.alloc (World.alloc w _) _ = W
 have hB : Below w.heap.size w W := hW ▸ ((Below.refl w.heap.size w).alloc (Nat.le_refl _) _).alloc (by simp) _
 have K0 : Blk W (w.heap.size) 85 (Pc ⟨X, Y, Z, T⟩) := hW ▸ ((Blk.new' (by simp) _ _).alloc _)
 have K1 : Blk W (w.heap.size + 1) 23 (Iv .u8 (List.replicate 32 0)) := hW ▸ (Blk.new' (by simp) _ _)
 have hS : Facts [.blk (w.heap.size) 85 (Pc ⟨X, Y, Z, T⟩)] W := Facts.cons (f := .blk (w.heap.size) 85 (Pc ⟨X, Y, Z, T⟩)) K0 (Facts.nil)
 clear hW K0
 refine wp_region_seq ?_
 refine wpSeq_yield (S := Facts [.blk (w.heap.size) 85 (Pc ⟨X, Y, Z, T⟩)]) (show YieldsIf _ _ _ _ (.pointer (some ⟨w.heap.size, 10, none⟩)) _ from yieldsIf_pf10 rfl _ rfl (w.heap.size) rfl) hS ?_
 simp only [Act.put, List.setIfInBounds_toArray, List.set_cons_zero, List.set_cons_succ]
 refine wpSeq_yield (S := Facts [.blk (w.heap.size) 85 (Pc ⟨X, Y, Z, T⟩)]) (show YieldsIf _ _ _ _ (El Z) _ from yieldsIf_pl10 rfl _ rfl (w.heap.size) rfl 85 _ (.head _)) hS ?_
 simp only [Act.put, List.setIfInBounds_toArray, List.set_cons_zero, List.set_cons_succ]
 refine wpSeq_wp rfl ?_
 go_simp
 refine (CI.out _).mono ?_
 rintro e v1 ⟨rfl, b⟩
 replace hB := hB.trans (b.mono hB.size)
 replace hS := hS.below b
 replace K1 := K1.below' b
 clear b
 show wpSeq _ _ _ _ _ _
 refine wpSeq_allocQ 83 (El_cells 0) rfl (fun W => by go_simp; rfl) ?_
 intro B1 C1 AB1 b mB1
 simp only [Act.put, List.setIfInBounds_toArray, List.set_cons_zero, List.set_cons_succ]
 have hb := b
 clear b
 refine wpSeq_store_row rfl 83 _ _ rfl (B1) (El_cells U) rfl rfl _ _ AB1 (info_El _) (El_same _ _) (El_one _) ?_
 try simp only [Act.put, List.setIfInBounds_toArray, List.set_cons_zero, List.set_cons_succ]
 replace AB1 := AB1.row (El_cells U)
 replace hb := below_setRow hb mB1 (El_cells U)
 generalize hWn : World.setRow _ _ _ = Wn at *
 clear hWn
 have uB1_K1 := Nat.lt_of_lt_of_le K1.lt mB1
 replace mB1 := Nat.le_trans hB.size mB1
 replace hB := hB.trans (hb.mono hB.size)
 replace hS := hS.below hb
 replace K1 := K1.below' hb
 clear hb
 replace hS : Facts [.blk (B1) 83 (El_cells U), .blk (w.heap.size) 85 (Pc ⟨X, Y, Z, T⟩)] _ := Facts.cons (f := .blk B1 83 (El_cells U)) AB1 hS
 clear AB1
 refine wpSeq_nil ?_
 go_upto_region 2 with fail
 refine wp_region_seq ?_
 refine wpSeq_yield (S := Facts [.blk (B1) 83 (El_cells U), .blk (w.heap.size) 85 (Pc ⟨X, Y, Z, T⟩)]) (show YieldsIf _ _ _ _ (.pointer (some ⟨w.heap.size, 5, none⟩)) _ from yieldsIf_pf5 rfl _ rfl (w.heap.size) rfl) hS ?_
 simp only [Act.put, List.setIfInBounds_toArray, List.set_cons_zero, List.set_cons_succ]
 refine wpSeq_yield (S := Facts [.blk (B1) 83 (El_cells U), .blk (w.heap.size) 85 (Pc ⟨X, Y, Z, T⟩)]) (show YieldsIf _ _ _ _ (El Y) _ from yieldsIf_pl5 rfl _ rfl (w.heap.size) rfl 85 _ (.tail _ (.head _))) hS ?_
 simp only [Act.put, List.setIfInBounds_toArray, List.set_cons_zero, List.set_cons_succ]
 refine wpSeq_yield (S := Facts [.blk (B1) 83 (El_cells U), .blk (w.heap.size) 85 (Pc ⟨X, Y, Z, T⟩)]) (show YieldsIf _ _ _ _ (El U) _ from yieldsIf_load rfl 83 _ rfl (B1) rfl 83 _ _ (.head _) Tryz.underlying83 rfl (info_El _)) hS ?_
 simp only [Act.put, List.setIfInBounds_toArray, List.set_cons_zero, List.set_cons_succ]
 refine wpSeq_wp rfl ?_
 go_simp
 refine (CY.out _).mono ?_
 rintro e v2 ⟨rfl, b⟩
 replace hB := hB.trans (b.mono hB.size)
 replace hS := hS.below b
 replace K1 := K1.below' b
 clear b
 show wpSeq _ _ _ _ _ _
 refine wpSeq_wp rfl ?_
 go_simp
 refine (bytes_v NY _ lNY).mono ?_
 rintro e v3 ⟨rfl, b⟩
 replace hB := hB.trans (b.mono hB.size)
 replace hS := hS.below b
 replace K1 := K1.below' b
 clear b
 show wpSeq _ _ _ _ _ _
 refine wpSeq_allocQ 23 (Iv .u8 (List.replicate 32 0)) rfl (fun W => by go_simp; rfl) ?_
 intro B2 C2 AB2 b mB2
 simp only [Act.put, List.setIfInBounds_toArray, List.set_cons_zero, List.set_cons_succ]
 have hb := b
 clear b
 refine wpSeq_store_row rfl 23 _ _ rfl (B2) (Iv .u8 (keyOf NY)) rfl rfl _ _ AB2 (info_key _ (keyOf_length _)) (by rw [Iv_size, Iv_size, keyOf_length]; rfl) (Iv_one _ _) ?_
 try simp only [Act.put, List.setIfInBounds_toArray, List.set_cons_zero, List.set_cons_succ]
 replace AB2 := AB2.row (Iv .u8 (keyOf NY))
 replace hb := below_setRow hb mB2 (Iv .u8 (keyOf NY))
 generalize hWn : World.setRow _ _ _ = Wn at *
 clear hWn
 have uB2_K1 := Nat.lt_of_lt_of_le K1.lt mB2
 replace mB2 := Nat.le_trans hB.size mB2
 replace hB := hB.trans (hb.mono hB.size)
 replace hS := hS.below hb
 replace K1 := K1.below' hb
 clear hb
 replace hS : Facts [.blk (B2) 23 (Iv .u8 (keyOf NY)), .blk (B1) 83 (El_cells U), .blk (w.heap.size) 85 (Pc ⟨X, Y, Z, T⟩)] _ := Facts.cons (f := .blk B2 23 (Iv .u8 (keyOf NY))) AB2 hS
 clear AB2
 refine wpSeq_nil ?_
 go_upto_region 3 with fail
 refine wp_region_seq ?_
 refine wpSeq_yield (S := Facts [.blk (B2) 23 (Iv .u8 (keyOf NY)), .blk (B1) 83 (El_cells U), .blk (w.heap.size) 85 (Pc ⟨X, Y, Z, T⟩)]) (show YieldsIf _ _ _ _ (.pointer (some ⟨w.heap.size, 0, none⟩)) _ from yieldsIf_pf0 rfl _ rfl (w.heap.size) rfl) hS ?_
 simp only [Act.put, List.setIfInBounds_toArray, List.set_cons_zero, List.set_cons_succ]
 refine wpSeq_yield (S := Facts [.blk (B2) 23 (Iv .u8 (keyOf NY)), .blk (B1) 83 (El_cells U), .blk (w.heap.size) 85 (Pc ⟨X, Y, Z, T⟩)]) (show YieldsIf _ _ _ _ (El X) _ from yieldsIf_pl0 rfl _ rfl (w.heap.size) rfl 85 _ (.tail _ (.tail _ (.head _)))) hS ?_
 simp only [Act.put, List.setIfInBounds_toArray, List.set_cons_zero, List.set_cons_succ]
 refine wpSeq_yield (S := Facts [.blk (B2) 23 (Iv .u8 (keyOf NY)), .blk (B1) 83 (El_cells U), .blk (w.heap.size) 85 (Pc ⟨X, Y, Z, T⟩)]) (show YieldsIf _ _ _ _ (El U) _ from yieldsIf_load rfl 83 _ rfl (B1) rfl 83 _ _ (.tail _ (.head _)) Tryz.underlying83 rfl (info_El _)) hS ?_
 simp only [Act.put, List.setIfInBounds_toArray, List.set_cons_zero, List.set_cons_succ]
 refine wpSeq_wp rfl ?_
 go_simp
 refine (CX.out _).mono ?_
 rintro e v4 ⟨rfl, b⟩
 replace hB := hB.trans (b.mono hB.size)
 replace hS := hS.below b
 replace K1 := K1.below' b
 clear b
 show wpSeq _ _ _ _ _ _
 refine wpSeq_wp rfl ?_
 go_simp
 refine (odd_v NX false _ (HO.out)).mono ?_
 rintro e v5 ⟨rfl, b⟩
 replace hB := hB.trans (b.mono hB.size)
 replace hS := hS.below b
 replace K1 := K1.below' b
 clear b
 show wpSeq _ _ _ _ _ _
 refine wpSeq_nil ?_
 have KB := hS.blkAt (B2) 23 (Iv .u8 (keyOf NY)) (.head _)
 go_upto_region 5 with fail
 go_wp2_with (first | (refine wpList_load_row rfl 23 _ rfl (B2) rfl 23 _ (0, 0) _ KB Tryz.underlying23 rfl (info_key _ (keyOf_length _)) ?_) | (refine wpList_store_row rfl 23 _ _ rfl (w.heap.size + 1) (Iv .u8 (keyOf NY)) rfl rfl 23 _ K1 (info_key _ (keyOf_length _)) (by rw [Iv_size, Iv_size, keyOf_length]; rfl) (Iv_one _ _) ?_))
 exact bodyPost_ret (results_cell_row rfl _ _ _ 23 _ (0, 0) _ rfl (K1.row _) Tryz.underlying23 rfl (info_key _ (keyOf_length _))) rfl ⟨rfl, below_setRow hB (by omega) _⟩
theorem cenc (p : P4) (P : Pt dd) (hp : p.Is P) (N : Nat) (hN : N = textN P) (w : World) :
  Calls Tryz.prog 36 #[PV p] w fun e w' => e = .returned (Key (keyOf N)) ∧ Below w.heap.size w w' := by
 have h1 := enc_x hp
 have h2 := enc_y hp
 by_cases hb : P.x.val % 2 = 1
 ·
  have e : N = P.y.val + 57896044618658097711785492504343953926634992332820282019728792003956564819968 := by
   rw [hN]
   unfold textN
   rw [hb, Nat.one_mul]
  rw [e]
  exact cenc_odd p.x p.y p.z p.t (pinv p.z) _ _ hp.ok.z hp.ok.x hp.ok.y (pinv_lt _) P.x.isLt P.y.isLt rfl h1.symm h2.symm (decide_eq_true hb) w
 ·
  have e : N = P.y.val := by
   rw [hN]
   unfold textN
   have : P.x.val % 2 = 0 := by omega
   rw [this, Nat.zero_mul, Nat.add_zero]
  rw [e]
  exact cenc_even p.x p.y p.z p.t (pinv p.z) _ _ hp.ok.z hp.ok.x hp.ok.y (pinv_lt _) P.x.isLt P.y.isLt rfl h1.symm h2.symm (decide_eq_false hb) w
end Go.Proofs.YtegbnadnodlalaaGreatDoor
