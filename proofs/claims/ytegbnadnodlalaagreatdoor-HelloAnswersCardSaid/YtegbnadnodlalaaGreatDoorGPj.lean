/- The contract of curve's Decode (printed by gencurve.py). -/
import Derived.Test.YtegbnadnodlalaaGreatDoorGPi
import Derived.Test.YtegbnadnodlalaaGreatDoorGPc
import Derived.Test.YtegbnadnodlalaaGreatDoorGPg0GPl
namespace Go.Proofs.YtegbnadnodlalaaGreatDoor
open Go.RowKit
open Ed
theorem and_128 : ∀ n : Fin 256, bits .and .u8 (n.val : Int) 128 = ((n.val / 128 * 128 : Nat) : Int) := by decide +kernel
theorem not_128 : ∀ n : Fin 256, bits .andNot .u8 (n.val : Int) 128 = ((n.val % 128 : Nat) : Int) := by decide +kernel
set_option maxHeartbeats 4000000 in
set_option maxRecDepth 100000 in
theorem cdec_D1 (N M Y b ba v1 : Nat) (hN : N < p256) (hM : M < p256) (lY : Y < pp) (hb : byteAt N 31 = b) (ha : bits .and .u8 (b : Int) 128 = (ba : Int)) (hc : (!decide (ba = 0)) = false) (hv : bits .andNot .u8 (b : Int) 128 = (v1 : Int)) (hl : (keyOf N).set 31 (v1 : Int) = keyOf M) (hY : Y = plN M) (hne : (!decide (Y = M)) = false) (R : Nat) (lR : R < pp) (xo : Bool) (hx : decide (R % 2 = 1) = xo) (cb : ∀ W, Calls Tryz.prog 74 #[El Y] W fun e w' => e = .returned (.tuple #[El R, .bool true]) ∧ Below W.heap.size W w') (hz : decide (R = 0) = true) (hd : (xo != false) = false) (w : World) :
  Calls Tryz.prog 51 #[Key (keyOf N)] w fun e w' => e = .returned (.tuple #[PV (pat R Y), .bool true]) ∧ Below w.heap.size w w' := by
 have HB := Lib.hid hb
 have HA := Lib.hid ha
 have HC := Lib.hid hc
 have HV := Lib.hid hv
 have HL := Lib.hid hl
 have CO := Lib.hid (fun W => of_n M Y hM hY W)
 have kY := Nat.lt_trans lY pp_lt256
 have kM := hM
 clear hb ha hc hv hl hY
 have HNE := Lib.hid hne
 clear hne
 have HZ := Lib.hid hz
 clear hz
 have HX := Lib.hid hx
 clear hx
 have HD := Lib.hid hd
 clear hd
 have CB := Lib.hid cb
 clear cb
 unfold Key
 go_enter Tryz.func51, Tryz.ntmps51
 go_upto_region 1 with fail
 generalize hW : World.alloc (World.alloc w _) _ = W
 have hB : Below w.heap.size w W := hW ▸ ((Below.refl w.heap.size w).alloc (Nat.le_refl _) _).alloc (by simp) _
 have K0 : Blk W (w.heap.size) 23 (Iv .u8 (keyOf N)) := hW ▸ ((Blk.new' (by simp) _ _).alloc _)
 have K1 : Blk W (w.heap.size + 1) 85 (Pc p40) := hW ▸ (Blk.new' (by simp) _ _)
 have hS : Facts [.blk (w.heap.size) 23 (Iv .u8 (keyOf N))] W := Facts.cons (f := .blk (w.heap.size) 23 (Iv .u8 (keyOf N))) K0 (Facts.nil)
 clear hW K0
 refine wp_region_seq ?_
 refine wpSeq_yield (S := Facts [.blk (w.heap.size) 23 (Iv .u8 (keyOf N))]) (v := (.pointer (some ⟨w.heap.size, 31, none⟩))) (Or.inl ⟨by rfl, ?_⟩) hS ?_
 ·
  intro w' _
  go_simp
 simp only [Act.put, List.setIfInBounds_toArray, List.set_cons_zero, List.set_cons_succ]
 refine wpSeq_yield (S := Facts [.blk (w.heap.size) 23 (Iv .u8 (keyOf N))]) (v := (.int .u8 (b : Int))) (Or.inl ⟨by rfl, ?_⟩) hS ?_
 ·
  intro w' hw'
  have c := key_cellj (hw'.blkAt (w.heap.size) 23 (Iv .u8 (keyOf N)) (.head _)) 31 (by decide)
  rw [HB.out] at c
  go_simp
 simp only [Act.put, List.setIfInBounds_toArray, List.set_cons_zero, List.set_cons_succ]
 refine wpSeq_yield (S := Facts [.blk (w.heap.size) 23 (Iv .u8 (keyOf N))]) (v := (.int .u8 (ba : Int))) (Or.inl ⟨by rfl, ?_⟩) hS ?_
 ·
  intro w' _
  have c := HA.out
  go_simp
 simp only [Act.put, List.setIfInBounds_toArray, List.set_cons_zero, List.set_cons_succ]
 refine wpSeq_yield (S := Facts [.blk (w.heap.size) 23 (Iv .u8 (keyOf N))]) (yieldsIf_neq8 rfl _ _ rfl ba 0 rfl rfl false HC.out) hS ?_
 simp only [Act.put, List.setIfInBounds_toArray, List.set_cons_zero, List.set_cons_succ]
 refine wpSeq_yield (S := Facts [.blk (w.heap.size) 23 (Iv .u8 (keyOf N))]) (yieldsIf_assign rfl _ rfl _ rfl) hS ?_
 simp only [Act.put, List.setIfInBounds_toArray, List.set_cons_zero, List.set_cons_succ]
 refine wpSeq_nil ?_
 have KB := hS.blkAt (w.heap.size) 23 (Iv .u8 (keyOf N)) (.head _)
 have c0 := key_cellj KB 31 (by decide)
 rw [HB.out] at c0
 have f0 := KB.frozen 31
 have hnot := HV.out
 go_upto_region 3 with fail
 have hlt := K1.lt
 replace KB := KB.set 31 (.int .u8 (v1 : Int))
 rw [Iv_set, HL.out] at KB
 replace K1 : Blk _ _ _ _ := K1.far (p := ⟨w.heap.size, 31, none⟩) (by show w.heap.size + 1 ≠ w.heap.size; omega) (.int .u8 (v1 : Int))
 replace hB := hB.setCell (p := ⟨w.heap.size, 31, none⟩) (by show w.heap.size ≤ w.heap.size; omega) (.int .u8 (v1 : Int))
 clear hS c0 f0 hnot hlt
 generalize World.setCell _ _ _ = V at *
 have hS : Facts [.blk (w.heap.size) 23 (Iv .u8 (keyOf M))] V := Facts.cons (f := .blk (w.heap.size) 23 (Iv .u8 (keyOf M))) KB Facts.nil
 clear KB
 refine wp_region_seq ?_
 refine wpSeq_yield (S := Facts [.blk (w.heap.size) 23 (Iv .u8 (keyOf M))]) (show YieldsIf _ _ _ _ (Key (keyOf M)) _ from yieldsIf_load rfl 23 _ rfl (w.heap.size) rfl 23 _ _ (.head _) Tryz.underlying23 rfl (info_key _ (keyOf_length _))) hS ?_
 simp only [Act.put, List.setIfInBounds_toArray, List.set_cons_zero, List.set_cons_succ]
 refine wpSeq_wp rfl ?_
 go_simp
 refine (CO.out _).mono ?_
 rintro e v1 ⟨rfl, b⟩
 replace hB := hB.trans (b.mono hB.size)
 replace hS := hS.below b
 replace K1 := K1.below' b
 clear b
 show wpSeq _ _ _ _ _ _
 refine wpSeq_allocQ 83 (El_cells 0) rfl (fun W => by go_simp; rfl) ?_
 intro B1 C1 AB1 b mB1
 simp only [Act.put, List.setIfInBounds_toArray, List.set_cons_zero, List.set_cons_succ]
 have hb := b
 clear b
 refine wpSeq_store_row rfl 83 _ _ rfl (B1) (El_cells Y) rfl rfl _ _ AB1 (info_El _) (El_same _ _) (El_one _) ?_
 try simp only [Act.put, List.setIfInBounds_toArray, List.set_cons_zero, List.set_cons_succ]
 replace AB1 := AB1.row (El_cells Y)
 replace hb := below_setRow hb mB1 (El_cells Y)
 generalize hWn : World.setRow _ _ _ = Wn at *
 clear hWn
 have uB1_K1 := Nat.lt_of_lt_of_le K1.lt mB1
 replace mB1 := Nat.le_trans hB.size mB1
 replace hB := hB.trans (hb.mono hB.size)
 replace hS := hS.below hb
 replace K1 := K1.below' hb
 clear hb
 replace hS : Facts [.blk (B1) 83 (El_cells Y), .blk (w.heap.size) 23 (Iv .u8 (keyOf M))] _ := Facts.cons (f := .blk B1 83 (El_cells Y)) AB1 hS
 clear AB1
 refine wpSeq_nil ?_
 go_upto_region 4 with fail
 replace hS := hS.drew
 replace hB := below_drew hB
 replace K1 := K1.drew
 refine wp_region_S (S := Facts [.blk (B1) 83 (El_cells Y), .blk (w.heap.size) 23 (Iv .u8 (keyOf M))]) (by kernel_rfl) ?_
 refine wpAnyS_takeL 0 rfl (by kernel_rfl) (by kernel_rfl) (by kernel_rfl) (fun _ _ _ h => h) (show YieldsIf _ _ _ _ (El Y) _ from yieldsIf_load rfl 83 _ rfl (B1) rfl 83 _ _ (.head _) Tryz.underlying83 rfl (info_El _)) hS ?_
 simp only [Act.put, List.setIfInBounds_toArray, List.set_cons_zero, List.set_cons_succ]
 refine wpAnyS_takeL 2 rfl (by kernel_rfl) (by kernel_rfl) (by kernel_rfl) (fun _ _ _ h => h) (show YieldsIf _ _ _ _ (Key (keyOf M)) _ from yieldsIf_load rfl 23 _ rfl (w.heap.size) rfl 23 _ _ (.tail _ (.head _)) Tryz.underlying23 rfl (info_key _ (keyOf_length _))) hS ?_
 simp only [Act.put, List.setIfInBounds_toArray, List.set_cons_zero, List.set_cons_succ]
 refine wpAnyS_one (i := 1) (by kernel_rfl) ?_
 unfold wpOp
 go_simp
 left
 refine (bytes_v Y _ lY).mono ?_
 rintro e v2 ⟨rfl, b⟩
 replace hB := hB.trans (b.mono hB.size)
 replace hS := hS.below b
 replace K1 := K1.below' b
 clear b
 refine ⟨hS, ?_⟩
 refine wpAnyS_takeL 3 rfl (by kernel_rfl) (by kernel_rfl) (by kernel_rfl) (fun _ _ _ h => h) (yieldsIf_neqk rfl _ _ rfl Y M rfl rfl false kY kM (HNE.out)) hS ?_
 simp only [Act.put, List.setIfInBounds_toArray, List.set_cons_zero, List.set_cons_succ]
 refine wpAnyS_done (by kernel_rfl) ?_ _
 go_upto_region 6 with fail
 refine wp_region_seq ?_
 refine wpSeq_yield (S := Facts [.blk (B1) 83 (El_cells Y), .blk (w.heap.size) 23 (Iv .u8 (keyOf M))]) (show YieldsIf _ _ _ _ (El Y) _ from yieldsIf_load rfl 83 _ rfl (B1) rfl 83 _ _ (.head _) Tryz.underlying83 rfl (info_El _)) hS ?_
 simp only [Act.put, List.setIfInBounds_toArray, List.set_cons_zero, List.set_cons_succ]
 refine wpSeq_wp rfl ?_
 go_simp
 refine (CB.out _).mono ?_
 rintro e v3 ⟨rfl, b⟩
 replace hB := hB.trans (b.mono hB.size)
 replace hS := hS.below b
 replace K1 := K1.below' b
 clear b
 show wpSeq _ _ _ _ _ _
 refine wpSeq_yield (S := Facts [.blk (B1) 83 (El_cells Y), .blk (w.heap.size) 23 (Iv .u8 (keyOf M))]) (yieldsIf_move rfl _ rfl _ rfl) hS ?_
 simp only [Act.put, List.setIfInBounds_toArray, List.set_cons_zero, List.set_cons_succ]
 refine wpSeq_yield (S := Facts [.blk (B1) 83 (El_cells Y), .blk (w.heap.size) 23 (Iv .u8 (keyOf M))]) (show YieldsIf _ _ _ _ (El R) _ from yieldsIf_extract rfl _ _ rfl _ rfl _ rfl) hS ?_
 simp only [Act.put, List.setIfInBounds_toArray, List.set_cons_zero, List.set_cons_succ]
 refine wpSeq_yield (S := Facts [.blk (B1) 83 (El_cells Y), .blk (w.heap.size) 23 (Iv .u8 (keyOf M))]) (show YieldsIf _ _ _ _ (.bool true) _ from yieldsIf_extract rfl _ _ rfl _ rfl _ rfl) hS ?_
 simp only [Act.put, List.setIfInBounds_toArray, List.set_cons_zero, List.set_cons_succ]
 refine wpSeq_allocQ 83 (El_cells 0) rfl (fun W => by go_simp; rfl) ?_
 intro B2 C2 AB2 b mB2
 simp only [Act.put, List.setIfInBounds_toArray, List.set_cons_zero, List.set_cons_succ]
 have hb := b
 clear b
 refine wpSeq_store_row rfl 83 _ _ rfl (B2) (El_cells R) rfl rfl _ _ AB2 (info_El _) (El_same _ _) (El_one _) ?_
 try simp only [Act.put, List.setIfInBounds_toArray, List.set_cons_zero, List.set_cons_succ]
 replace AB2 := AB2.row (El_cells R)
 replace hb := below_setRow hb mB2 (El_cells R)
 generalize hWn : World.setRow _ _ _ = Wn at *
 clear hWn
 have eB2_0 := Nat.lt_of_lt_of_le (hS.blkAt (B1) 83 (El_cells Y) (.head _)).lt mB2
 have uB2_K1 := Nat.lt_of_lt_of_le K1.lt mB2
 replace mB2 := Nat.le_trans hB.size mB2
 replace hB := hB.trans (hb.mono hB.size)
 replace hS := hS.below hb
 replace K1 := K1.below' hb
 clear hb
 replace hS : Facts [.blk (B2) 83 (El_cells R), .blk (B1) 83 (El_cells Y), .blk (w.heap.size) 23 (Iv .u8 (keyOf M))] _ := Facts.cons (f := .blk B2 83 (El_cells R)) AB2 hS
 clear AB2
 refine wpSeq_yield (S := Facts [.blk (B2) 83 (El_cells R), .blk (B1) 83 (El_cells Y), .blk (w.heap.size) 23 (Iv .u8 (keyOf M))]) (yieldsIf_assign rfl _ rfl _ rfl) hS ?_
 simp only [Act.put, List.setIfInBounds_toArray, List.set_cons_zero, List.set_cons_succ]
 refine wpSeq_nil ?_
 go_upto_region 7 with fail
 refine wp_region_seq ?_
 refine wpSeq_yield (S := Facts [.blk (B2) 83 (El_cells R), .blk (B1) 83 (El_cells Y), .blk (w.heap.size) 23 (Iv .u8 (keyOf M))]) (yieldsIf_move rfl _ rfl _ rfl) hS ?_
 simp only [Act.put, List.setIfInBounds_toArray, List.set_cons_zero, List.set_cons_succ]
 refine wpSeq_yield (S := Facts [.blk (B2) 83 (El_cells R), .blk (B1) 83 (El_cells Y), .blk (w.heap.size) 23 (Iv .u8 (keyOf M))]) (yieldsIf_not rfl _ _ rfl true rfl) hS ?_
 simp only [Act.put, List.setIfInBounds_toArray, List.set_cons_zero, List.set_cons_succ]
 refine wpSeq_yield (S := Facts [.blk (B2) 83 (El_cells R), .blk (B1) 83 (El_cells Y), .blk (w.heap.size) 23 (Iv .u8 (keyOf M))]) (yieldsIf_move rfl _ rfl _ rfl) hS ?_
 simp only [Act.put, List.setIfInBounds_toArray, List.set_cons_zero, List.set_cons_succ]
 refine wpSeq_yield (S := Facts [.blk (B2) 83 (El_cells R), .blk (B1) 83 (El_cells Y), .blk (w.heap.size) 23 (Iv .u8 (keyOf M))]) (show YieldsIf _ _ _ _ (El R) _ from yieldsIf_load rfl 83 _ rfl (B2) rfl 83 _ _ (.head _) Tryz.underlying83 rfl (info_El _)) hS ?_
 simp only [Act.put, List.setIfInBounds_toArray, List.set_cons_zero, List.set_cons_succ]
 refine wpSeq_wp rfl ?_
 go_simp
 refine (zero_v R true _ (HZ.out)).mono ?_
 rintro e v4 ⟨rfl, b⟩
 replace hB := hB.trans (b.mono hB.size)
 replace hS := hS.below b
 replace K1 := K1.below' b
 clear b
 show wpSeq _ _ _ _ _ _
 refine wpSeq_yield (S := Facts [.blk (B2) 83 (El_cells R), .blk (B1) 83 (El_cells Y), .blk (w.heap.size) 23 (Iv .u8 (keyOf M))]) (yieldsIf_move rfl _ rfl _ rfl) hS ?_
 simp only [Act.put, List.setIfInBounds_toArray, List.set_cons_zero, List.set_cons_succ]
 refine wpSeq_yield (S := Facts [.blk (B2) 83 (El_cells R), .blk (B1) 83 (El_cells Y), .blk (w.heap.size) 23 (Iv .u8 (keyOf M))]) (yieldsIf_move rfl _ rfl _ rfl) hS ?_
 simp only [Act.put, List.setIfInBounds_toArray, List.set_cons_zero, List.set_cons_succ]
 refine wpSeq_yield (S := Facts [.blk (B2) 83 (El_cells R), .blk (B1) 83 (El_cells Y), .blk (w.heap.size) 23 (Iv .u8 (keyOf M))]) (yieldsIf_pick rfl _ _ _ rfl true rfl _ rfl) hS ?_
 simp only [Act.put, List.setIfInBounds_toArray, List.set_cons_zero, List.set_cons_succ]
 refine wpSeq_yield (S := Facts [.blk (B2) 83 (El_cells R), .blk (B1) 83 (El_cells Y), .blk (w.heap.size) 23 (Iv .u8 (keyOf M))]) (yieldsIf_pick rfl _ _ _ rfl false rfl _ rfl) hS ?_
 simp only [Act.put, List.setIfInBounds_toArray, List.set_cons_zero, List.set_cons_succ]
 refine wpSeq_nil ?_
 go_upto_region 9 with fail
 refine wp_region_seq ?_
 refine wpSeq_yield (S := Facts [.blk (B2) 83 (El_cells R), .blk (B1) 83 (El_cells Y), .blk (w.heap.size) 23 (Iv .u8 (keyOf M))]) (show YieldsIf _ _ _ _ (El R) _ from yieldsIf_load rfl 83 _ rfl (B2) rfl 83 _ _ (.head _) Tryz.underlying83 rfl (info_El _)) hS ?_
 simp only [Act.put, List.setIfInBounds_toArray, List.set_cons_zero, List.set_cons_succ]
 refine wpSeq_wp rfl ?_
 go_simp
 refine (odd_v R xo _ (HX.out)).mono ?_
 rintro e v5 ⟨rfl, b⟩
 replace hB := hB.trans (b.mono hB.size)
 replace hS := hS.below b
 replace K1 := K1.below' b
 clear b
 show wpSeq _ _ _ _ _ _
 refine wpSeq_yield (S := Facts [.blk (B2) 83 (El_cells R), .blk (B1) 83 (El_cells Y), .blk (w.heap.size) 23 (Iv .u8 (keyOf M))]) (yieldsIf_move rfl _ rfl _ rfl) hS ?_
 simp only [Act.put, List.setIfInBounds_toArray, List.set_cons_zero, List.set_cons_succ]
 refine wpSeq_yield (S := Facts [.blk (B2) 83 (El_cells R), .blk (B1) 83 (El_cells Y), .blk (w.heap.size) 23 (Iv .u8 (keyOf M))]) (yieldsIf_neqb rfl _ _ rfl xo false rfl rfl false HD.out) hS ?_
 simp only [Act.put, List.setIfInBounds_toArray, List.set_cons_zero, List.set_cons_succ]
 refine wpSeq_nil ?_
 go_upto_region 11 with fail
 refine wp_region_seq ?_
 refine wpSeq_yield (S := Facts [.blk (B2) 83 (El_cells R), .blk (B1) 83 (El_cells Y), .blk (w.heap.size) 23 (Iv .u8 (keyOf M))]) (show YieldsIf _ _ _ _ (El R) _ from yieldsIf_load rfl 83 _ rfl (B2) rfl 83 _ _ (.head _) Tryz.underlying83 rfl (info_El _)) hS ?_
 simp only [Act.put, List.setIfInBounds_toArray, List.set_cons_zero, List.set_cons_succ]
 refine wpSeq_yield (S := Facts [.blk (B2) 83 (El_cells R), .blk (B1) 83 (El_cells Y), .blk (w.heap.size) 23 (Iv .u8 (keyOf M))]) (show YieldsIf _ _ _ _ (El Y) _ from yieldsIf_load rfl 83 _ rfl (B1) rfl 83 _ _ (.tail _ (.head _)) Tryz.underlying83 rfl (info_El _)) hS ?_
 simp only [Act.put, List.setIfInBounds_toArray, List.set_cons_zero, List.set_cons_succ]
 refine wpSeq_wp rfl ?_
 go_simp
 refine (cat_v R Y lR lY _).mono ?_
 rintro e v6 ⟨rfl, b⟩
 replace hB := hB.trans (b.mono hB.size)
 replace hS := hS.below b
 replace K1 := K1.below' b
 clear b
 show wpSeq _ _ _ _ _ _
 refine wpSeq_store_row rfl 85 _ _ rfl (w.heap.size + 1) (Pc (pat R Y)) rfl rfl _ _ K1 (info_Pc _) (Pc_same _ _) (Pc_one _) ?_
 try simp only [Act.put, List.setIfInBounds_toArray, List.set_cons_zero, List.set_cons_succ]
 replace hB := below_setRow hB (g := w.heap.size + 1) (by omega) (Pc (pat R Y))
 replace hS : Facts [.blk (B2) 83 (El_cells R), .blk (B1) 83 (El_cells Y), .blk (w.heap.size) 23 (Iv .u8 (keyOf M))] _ := Facts.cons (f := .blk (B2) 83 (El_cells R)) ((hS.blkAt (B2) 83 (El_cells R) (.head _)).rowFar (k := w.heap.size + 1) (blk_ne (hS.blkAt (B2) 83 (El_cells R) (.head _)) K1 (by decide)) (Pc (pat R Y))) (Facts.cons (f := .blk (B1) 83 (El_cells Y)) ((hS.blkAt (B1) 83 (El_cells Y) (.tail _ (.head _))).rowFar (k := w.heap.size + 1) (blk_ne (hS.blkAt (B1) 83 (El_cells Y) (.tail _ (.head _))) K1 (by decide)) (Pc (pat R Y))) (Facts.cons (f := .blk (w.heap.size) 23 (Iv .u8 (keyOf M))) ((hS.blkAt (w.heap.size) 23 (Iv .u8 (keyOf M)) (.tail _ (.tail _ (.head _)))).rowFar (k := w.heap.size + 1) (blk_ne (hS.blkAt (w.heap.size) 23 (Iv .u8 (keyOf M)) (.tail _ (.tail _ (.head _)))) K1 (by decide)) (Pc (pat R Y))) (Facts.nil)))
 replace K1 := K1.row (Pc (pat R Y))
 generalize hWn : World.setRow _ _ _ = Wn at *
 clear hWn
 refine wpSeq_yield (S := Facts [.blk (B2) 83 (El_cells R), .blk (B1) 83 (El_cells Y), .blk (w.heap.size) 23 (Iv .u8 (keyOf M))]) (yieldsIf_assign rfl _ rfl _ rfl) hS ?_
 simp only [Act.put, List.setIfInBounds_toArray, List.set_cons_zero, List.set_cons_succ]
 refine wpSeq_nil ?_
 go_wp2
 exact bodyPost_ret (results_cell_tmp rfl _ _ _ 85 _ (0, 0) _ _ rfl K1 Tryz.underlying85 rfl (info_Pc _) rfl) rfl ⟨rfl, hB⟩
set_option maxHeartbeats 4000000 in
set_option maxRecDepth 100000 in
theorem cdec_D2 (N M Y b ba v1 : Nat) (co : Bool) (hN : N < p256) (hM : M < p256) (lY : Y < pp) (hb : byteAt N 31 = b) (ha : bits .and .u8 (b : Int) 128 = (ba : Int)) (hc : (!decide (ba = 0)) = co) (hv : bits .andNot .u8 (b : Int) 128 = (v1 : Int)) (hl : (keyOf N).set 31 (v1 : Int) = keyOf M) (hY : Y = plN M) (hne : (!decide (Y = M)) = false) (R : Nat) (lR : R < pp) (xo : Bool) (hx : decide (R % 2 = 1) = xo) (cb : ∀ W, Calls Tryz.prog 74 #[El Y] W fun e w' => e = .returned (.tuple #[El R, .bool true]) ∧ Below W.heap.size W w') (hz : decide (R = 0) = false) (hd : (xo != co) = false) (w : World) :
  Calls Tryz.prog 51 #[Key (keyOf N)] w fun e w' => e = .returned (.tuple #[PV (pat R Y), .bool true]) ∧ Below w.heap.size w w' := by
 have HB := Lib.hid hb
 have HA := Lib.hid ha
 have HC := Lib.hid hc
 have HV := Lib.hid hv
 have HL := Lib.hid hl
 have CO := Lib.hid (fun W => of_n M Y hM hY W)
 have kY := Nat.lt_trans lY pp_lt256
 have kM := hM
 clear hb ha hc hv hl hY
 have HNE := Lib.hid hne
 clear hne
 have HZ := Lib.hid hz
 clear hz
 have HX := Lib.hid hx
 clear hx
 have HD := Lib.hid hd
 clear hd
 have CB := Lib.hid cb
 clear cb
 unfold Key
 go_enter Tryz.func51, Tryz.ntmps51
 go_upto_region 1 with fail
 generalize hW : World.alloc (World.alloc w _) _ = W
 have hB : Below w.heap.size w W := hW ▸ ((Below.refl w.heap.size w).alloc (Nat.le_refl _) _).alloc (by simp) _
 have K0 : Blk W (w.heap.size) 23 (Iv .u8 (keyOf N)) := hW ▸ ((Blk.new' (by simp) _ _).alloc _)
 have K1 : Blk W (w.heap.size + 1) 85 (Pc p40) := hW ▸ (Blk.new' (by simp) _ _)
 have hS : Facts [.blk (w.heap.size) 23 (Iv .u8 (keyOf N))] W := Facts.cons (f := .blk (w.heap.size) 23 (Iv .u8 (keyOf N))) K0 (Facts.nil)
 clear hW K0
 refine wp_region_seq ?_
 refine wpSeq_yield (S := Facts [.blk (w.heap.size) 23 (Iv .u8 (keyOf N))]) (v := (.pointer (some ⟨w.heap.size, 31, none⟩))) (Or.inl ⟨by rfl, ?_⟩) hS ?_
 ·
  intro w' _
  go_simp
 simp only [Act.put, List.setIfInBounds_toArray, List.set_cons_zero, List.set_cons_succ]
 refine wpSeq_yield (S := Facts [.blk (w.heap.size) 23 (Iv .u8 (keyOf N))]) (v := (.int .u8 (b : Int))) (Or.inl ⟨by rfl, ?_⟩) hS ?_
 ·
  intro w' hw'
  have c := key_cellj (hw'.blkAt (w.heap.size) 23 (Iv .u8 (keyOf N)) (.head _)) 31 (by decide)
  rw [HB.out] at c
  go_simp
 simp only [Act.put, List.setIfInBounds_toArray, List.set_cons_zero, List.set_cons_succ]
 refine wpSeq_yield (S := Facts [.blk (w.heap.size) 23 (Iv .u8 (keyOf N))]) (v := (.int .u8 (ba : Int))) (Or.inl ⟨by rfl, ?_⟩) hS ?_
 ·
  intro w' _
  have c := HA.out
  go_simp
 simp only [Act.put, List.setIfInBounds_toArray, List.set_cons_zero, List.set_cons_succ]
 refine wpSeq_yield (S := Facts [.blk (w.heap.size) 23 (Iv .u8 (keyOf N))]) (yieldsIf_neq8 rfl _ _ rfl ba 0 rfl rfl co HC.out) hS ?_
 simp only [Act.put, List.setIfInBounds_toArray, List.set_cons_zero, List.set_cons_succ]
 refine wpSeq_yield (S := Facts [.blk (w.heap.size) 23 (Iv .u8 (keyOf N))]) (yieldsIf_assign rfl _ rfl _ rfl) hS ?_
 simp only [Act.put, List.setIfInBounds_toArray, List.set_cons_zero, List.set_cons_succ]
 refine wpSeq_nil ?_
 have KB := hS.blkAt (w.heap.size) 23 (Iv .u8 (keyOf N)) (.head _)
 have c0 := key_cellj KB 31 (by decide)
 rw [HB.out] at c0
 have f0 := KB.frozen 31
 have hnot := HV.out
 go_upto_region 3 with fail
 have hlt := K1.lt
 replace KB := KB.set 31 (.int .u8 (v1 : Int))
 rw [Iv_set, HL.out] at KB
 replace K1 : Blk _ _ _ _ := K1.far (p := ⟨w.heap.size, 31, none⟩) (by show w.heap.size + 1 ≠ w.heap.size; omega) (.int .u8 (v1 : Int))
 replace hB := hB.setCell (p := ⟨w.heap.size, 31, none⟩) (by show w.heap.size ≤ w.heap.size; omega) (.int .u8 (v1 : Int))
 clear hS c0 f0 hnot hlt
 generalize World.setCell _ _ _ = V at *
 have hS : Facts [.blk (w.heap.size) 23 (Iv .u8 (keyOf M))] V := Facts.cons (f := .blk (w.heap.size) 23 (Iv .u8 (keyOf M))) KB Facts.nil
 clear KB
 refine wp_region_seq ?_
 refine wpSeq_yield (S := Facts [.blk (w.heap.size) 23 (Iv .u8 (keyOf M))]) (show YieldsIf _ _ _ _ (Key (keyOf M)) _ from yieldsIf_load rfl 23 _ rfl (w.heap.size) rfl 23 _ _ (.head _) Tryz.underlying23 rfl (info_key _ (keyOf_length _))) hS ?_
 simp only [Act.put, List.setIfInBounds_toArray, List.set_cons_zero, List.set_cons_succ]
 refine wpSeq_wp rfl ?_
 go_simp
 refine (CO.out _).mono ?_
 rintro e v1 ⟨rfl, b⟩
 replace hB := hB.trans (b.mono hB.size)
 replace hS := hS.below b
 replace K1 := K1.below' b
 clear b
 show wpSeq _ _ _ _ _ _
 refine wpSeq_allocQ 83 (El_cells 0) rfl (fun W => by go_simp; rfl) ?_
 intro B1 C1 AB1 b mB1
 simp only [Act.put, List.setIfInBounds_toArray, List.set_cons_zero, List.set_cons_succ]
 have hb := b
 clear b
 refine wpSeq_store_row rfl 83 _ _ rfl (B1) (El_cells Y) rfl rfl _ _ AB1 (info_El _) (El_same _ _) (El_one _) ?_
 try simp only [Act.put, List.setIfInBounds_toArray, List.set_cons_zero, List.set_cons_succ]
 replace AB1 := AB1.row (El_cells Y)
 replace hb := below_setRow hb mB1 (El_cells Y)
 generalize hWn : World.setRow _ _ _ = Wn at *
 clear hWn
 have uB1_K1 := Nat.lt_of_lt_of_le K1.lt mB1
 replace mB1 := Nat.le_trans hB.size mB1
 replace hB := hB.trans (hb.mono hB.size)
 replace hS := hS.below hb
 replace K1 := K1.below' hb
 clear hb
 replace hS : Facts [.blk (B1) 83 (El_cells Y), .blk (w.heap.size) 23 (Iv .u8 (keyOf M))] _ := Facts.cons (f := .blk B1 83 (El_cells Y)) AB1 hS
 clear AB1
 refine wpSeq_nil ?_
 go_upto_region 4 with fail
 replace hS := hS.drew
 replace hB := below_drew hB
 replace K1 := K1.drew
 refine wp_region_S (S := Facts [.blk (B1) 83 (El_cells Y), .blk (w.heap.size) 23 (Iv .u8 (keyOf M))]) (by kernel_rfl) ?_
 refine wpAnyS_takeL 0 rfl (by kernel_rfl) (by kernel_rfl) (by kernel_rfl) (fun _ _ _ h => h) (show YieldsIf _ _ _ _ (El Y) _ from yieldsIf_load rfl 83 _ rfl (B1) rfl 83 _ _ (.head _) Tryz.underlying83 rfl (info_El _)) hS ?_
 simp only [Act.put, List.setIfInBounds_toArray, List.set_cons_zero, List.set_cons_succ]
 refine wpAnyS_takeL 2 rfl (by kernel_rfl) (by kernel_rfl) (by kernel_rfl) (fun _ _ _ h => h) (show YieldsIf _ _ _ _ (Key (keyOf M)) _ from yieldsIf_load rfl 23 _ rfl (w.heap.size) rfl 23 _ _ (.tail _ (.head _)) Tryz.underlying23 rfl (info_key _ (keyOf_length _))) hS ?_
 simp only [Act.put, List.setIfInBounds_toArray, List.set_cons_zero, List.set_cons_succ]
 refine wpAnyS_one (i := 1) (by kernel_rfl) ?_
 unfold wpOp
 go_simp
 left
 refine (bytes_v Y _ lY).mono ?_
 rintro e v2 ⟨rfl, b⟩
 replace hB := hB.trans (b.mono hB.size)
 replace hS := hS.below b
 replace K1 := K1.below' b
 clear b
 refine ⟨hS, ?_⟩
 refine wpAnyS_takeL 3 rfl (by kernel_rfl) (by kernel_rfl) (by kernel_rfl) (fun _ _ _ h => h) (yieldsIf_neqk rfl _ _ rfl Y M rfl rfl false kY kM (HNE.out)) hS ?_
 simp only [Act.put, List.setIfInBounds_toArray, List.set_cons_zero, List.set_cons_succ]
 refine wpAnyS_done (by kernel_rfl) ?_ _
 go_upto_region 6 with fail
 refine wp_region_seq ?_
 refine wpSeq_yield (S := Facts [.blk (B1) 83 (El_cells Y), .blk (w.heap.size) 23 (Iv .u8 (keyOf M))]) (show YieldsIf _ _ _ _ (El Y) _ from yieldsIf_load rfl 83 _ rfl (B1) rfl 83 _ _ (.head _) Tryz.underlying83 rfl (info_El _)) hS ?_
 simp only [Act.put, List.setIfInBounds_toArray, List.set_cons_zero, List.set_cons_succ]
 refine wpSeq_wp rfl ?_
 go_simp
 refine (CB.out _).mono ?_
 rintro e v3 ⟨rfl, b⟩
 replace hB := hB.trans (b.mono hB.size)
 replace hS := hS.below b
 replace K1 := K1.below' b
 clear b
 show wpSeq _ _ _ _ _ _
 refine wpSeq_yield (S := Facts [.blk (B1) 83 (El_cells Y), .blk (w.heap.size) 23 (Iv .u8 (keyOf M))]) (yieldsIf_move rfl _ rfl _ rfl) hS ?_
 simp only [Act.put, List.setIfInBounds_toArray, List.set_cons_zero, List.set_cons_succ]
 refine wpSeq_yield (S := Facts [.blk (B1) 83 (El_cells Y), .blk (w.heap.size) 23 (Iv .u8 (keyOf M))]) (show YieldsIf _ _ _ _ (El R) _ from yieldsIf_extract rfl _ _ rfl _ rfl _ rfl) hS ?_
 simp only [Act.put, List.setIfInBounds_toArray, List.set_cons_zero, List.set_cons_succ]
 refine wpSeq_yield (S := Facts [.blk (B1) 83 (El_cells Y), .blk (w.heap.size) 23 (Iv .u8 (keyOf M))]) (show YieldsIf _ _ _ _ (.bool true) _ from yieldsIf_extract rfl _ _ rfl _ rfl _ rfl) hS ?_
 simp only [Act.put, List.setIfInBounds_toArray, List.set_cons_zero, List.set_cons_succ]
 refine wpSeq_allocQ 83 (El_cells 0) rfl (fun W => by go_simp; rfl) ?_
 intro B2 C2 AB2 b mB2
 simp only [Act.put, List.setIfInBounds_toArray, List.set_cons_zero, List.set_cons_succ]
 have hb := b
 clear b
 refine wpSeq_store_row rfl 83 _ _ rfl (B2) (El_cells R) rfl rfl _ _ AB2 (info_El _) (El_same _ _) (El_one _) ?_
 try simp only [Act.put, List.setIfInBounds_toArray, List.set_cons_zero, List.set_cons_succ]
 replace AB2 := AB2.row (El_cells R)
 replace hb := below_setRow hb mB2 (El_cells R)
 generalize hWn : World.setRow _ _ _ = Wn at *
 clear hWn
 have eB2_0 := Nat.lt_of_lt_of_le (hS.blkAt (B1) 83 (El_cells Y) (.head _)).lt mB2
 have uB2_K1 := Nat.lt_of_lt_of_le K1.lt mB2
 replace mB2 := Nat.le_trans hB.size mB2
 replace hB := hB.trans (hb.mono hB.size)
 replace hS := hS.below hb
 replace K1 := K1.below' hb
 clear hb
 replace hS : Facts [.blk (B2) 83 (El_cells R), .blk (B1) 83 (El_cells Y), .blk (w.heap.size) 23 (Iv .u8 (keyOf M))] _ := Facts.cons (f := .blk B2 83 (El_cells R)) AB2 hS
 clear AB2
 refine wpSeq_yield (S := Facts [.blk (B2) 83 (El_cells R), .blk (B1) 83 (El_cells Y), .blk (w.heap.size) 23 (Iv .u8 (keyOf M))]) (yieldsIf_assign rfl _ rfl _ rfl) hS ?_
 simp only [Act.put, List.setIfInBounds_toArray, List.set_cons_zero, List.set_cons_succ]
 refine wpSeq_nil ?_
 go_upto_region 7 with fail
 refine wp_region_seq ?_
 refine wpSeq_yield (S := Facts [.blk (B2) 83 (El_cells R), .blk (B1) 83 (El_cells Y), .blk (w.heap.size) 23 (Iv .u8 (keyOf M))]) (yieldsIf_move rfl _ rfl _ rfl) hS ?_
 simp only [Act.put, List.setIfInBounds_toArray, List.set_cons_zero, List.set_cons_succ]
 refine wpSeq_yield (S := Facts [.blk (B2) 83 (El_cells R), .blk (B1) 83 (El_cells Y), .blk (w.heap.size) 23 (Iv .u8 (keyOf M))]) (yieldsIf_not rfl _ _ rfl true rfl) hS ?_
 simp only [Act.put, List.setIfInBounds_toArray, List.set_cons_zero, List.set_cons_succ]
 refine wpSeq_yield (S := Facts [.blk (B2) 83 (El_cells R), .blk (B1) 83 (El_cells Y), .blk (w.heap.size) 23 (Iv .u8 (keyOf M))]) (yieldsIf_move rfl _ rfl _ rfl) hS ?_
 simp only [Act.put, List.setIfInBounds_toArray, List.set_cons_zero, List.set_cons_succ]
 refine wpSeq_yield (S := Facts [.blk (B2) 83 (El_cells R), .blk (B1) 83 (El_cells Y), .blk (w.heap.size) 23 (Iv .u8 (keyOf M))]) (show YieldsIf _ _ _ _ (El R) _ from yieldsIf_load rfl 83 _ rfl (B2) rfl 83 _ _ (.head _) Tryz.underlying83 rfl (info_El _)) hS ?_
 simp only [Act.put, List.setIfInBounds_toArray, List.set_cons_zero, List.set_cons_succ]
 refine wpSeq_wp rfl ?_
 go_simp
 refine (zero_v R false _ (HZ.out)).mono ?_
 rintro e v4 ⟨rfl, b⟩
 replace hB := hB.trans (b.mono hB.size)
 replace hS := hS.below b
 replace K1 := K1.below' b
 clear b
 show wpSeq _ _ _ _ _ _
 refine wpSeq_yield (S := Facts [.blk (B2) 83 (El_cells R), .blk (B1) 83 (El_cells Y), .blk (w.heap.size) 23 (Iv .u8 (keyOf M))]) (yieldsIf_move rfl _ rfl _ rfl) hS ?_
 simp only [Act.put, List.setIfInBounds_toArray, List.set_cons_zero, List.set_cons_succ]
 refine wpSeq_yield (S := Facts [.blk (B2) 83 (El_cells R), .blk (B1) 83 (El_cells Y), .blk (w.heap.size) 23 (Iv .u8 (keyOf M))]) (yieldsIf_off rfl) hS ?_
 simp only [Act.put, List.setIfInBounds_toArray, List.set_cons_zero, List.set_cons_succ]
 refine wpSeq_yield (S := Facts [.blk (B2) 83 (El_cells R), .blk (B1) 83 (El_cells Y), .blk (w.heap.size) 23 (Iv .u8 (keyOf M))]) (yieldsIf_pick rfl _ _ _ rfl false rfl _ rfl) hS ?_
 simp only [Act.put, List.setIfInBounds_toArray, List.set_cons_zero, List.set_cons_succ]
 refine wpSeq_yield (S := Facts [.blk (B2) 83 (El_cells R), .blk (B1) 83 (El_cells Y), .blk (w.heap.size) 23 (Iv .u8 (keyOf M))]) (yieldsIf_pick rfl _ _ _ rfl false rfl _ rfl) hS ?_
 simp only [Act.put, List.setIfInBounds_toArray, List.set_cons_zero, List.set_cons_succ]
 refine wpSeq_nil ?_
 go_upto_region 9 with fail
 refine wp_region_seq ?_
 refine wpSeq_yield (S := Facts [.blk (B2) 83 (El_cells R), .blk (B1) 83 (El_cells Y), .blk (w.heap.size) 23 (Iv .u8 (keyOf M))]) (show YieldsIf _ _ _ _ (El R) _ from yieldsIf_load rfl 83 _ rfl (B2) rfl 83 _ _ (.head _) Tryz.underlying83 rfl (info_El _)) hS ?_
 simp only [Act.put, List.setIfInBounds_toArray, List.set_cons_zero, List.set_cons_succ]
 refine wpSeq_wp rfl ?_
 go_simp
 refine (odd_v R xo _ (HX.out)).mono ?_
 rintro e v5 ⟨rfl, b⟩
 replace hB := hB.trans (b.mono hB.size)
 replace hS := hS.below b
 replace K1 := K1.below' b
 clear b
 show wpSeq _ _ _ _ _ _
 refine wpSeq_yield (S := Facts [.blk (B2) 83 (El_cells R), .blk (B1) 83 (El_cells Y), .blk (w.heap.size) 23 (Iv .u8 (keyOf M))]) (yieldsIf_move rfl _ rfl _ rfl) hS ?_
 simp only [Act.put, List.setIfInBounds_toArray, List.set_cons_zero, List.set_cons_succ]
 refine wpSeq_yield (S := Facts [.blk (B2) 83 (El_cells R), .blk (B1) 83 (El_cells Y), .blk (w.heap.size) 23 (Iv .u8 (keyOf M))]) (yieldsIf_neqb rfl _ _ rfl xo co rfl rfl false HD.out) hS ?_
 simp only [Act.put, List.setIfInBounds_toArray, List.set_cons_zero, List.set_cons_succ]
 refine wpSeq_nil ?_
 go_upto_region 11 with fail
 refine wp_region_seq ?_
 refine wpSeq_yield (S := Facts [.blk (B2) 83 (El_cells R), .blk (B1) 83 (El_cells Y), .blk (w.heap.size) 23 (Iv .u8 (keyOf M))]) (show YieldsIf _ _ _ _ (El R) _ from yieldsIf_load rfl 83 _ rfl (B2) rfl 83 _ _ (.head _) Tryz.underlying83 rfl (info_El _)) hS ?_
 simp only [Act.put, List.setIfInBounds_toArray, List.set_cons_zero, List.set_cons_succ]
 refine wpSeq_yield (S := Facts [.blk (B2) 83 (El_cells R), .blk (B1) 83 (El_cells Y), .blk (w.heap.size) 23 (Iv .u8 (keyOf M))]) (show YieldsIf _ _ _ _ (El Y) _ from yieldsIf_load rfl 83 _ rfl (B1) rfl 83 _ _ (.tail _ (.head _)) Tryz.underlying83 rfl (info_El _)) hS ?_
 simp only [Act.put, List.setIfInBounds_toArray, List.set_cons_zero, List.set_cons_succ]
 refine wpSeq_wp rfl ?_
 go_simp
 refine (cat_v R Y lR lY _).mono ?_
 rintro e v6 ⟨rfl, b⟩
 replace hB := hB.trans (b.mono hB.size)
 replace hS := hS.below b
 replace K1 := K1.below' b
 clear b
 show wpSeq _ _ _ _ _ _
 refine wpSeq_store_row rfl 85 _ _ rfl (w.heap.size + 1) (Pc (pat R Y)) rfl rfl _ _ K1 (info_Pc _) (Pc_same _ _) (Pc_one _) ?_
 try simp only [Act.put, List.setIfInBounds_toArray, List.set_cons_zero, List.set_cons_succ]
 replace hB := below_setRow hB (g := w.heap.size + 1) (by omega) (Pc (pat R Y))
 replace hS : Facts [.blk (B2) 83 (El_cells R), .blk (B1) 83 (El_cells Y), .blk (w.heap.size) 23 (Iv .u8 (keyOf M))] _ := Facts.cons (f := .blk (B2) 83 (El_cells R)) ((hS.blkAt (B2) 83 (El_cells R) (.head _)).rowFar (k := w.heap.size + 1) (blk_ne (hS.blkAt (B2) 83 (El_cells R) (.head _)) K1 (by decide)) (Pc (pat R Y))) (Facts.cons (f := .blk (B1) 83 (El_cells Y)) ((hS.blkAt (B1) 83 (El_cells Y) (.tail _ (.head _))).rowFar (k := w.heap.size + 1) (blk_ne (hS.blkAt (B1) 83 (El_cells Y) (.tail _ (.head _))) K1 (by decide)) (Pc (pat R Y))) (Facts.cons (f := .blk (w.heap.size) 23 (Iv .u8 (keyOf M))) ((hS.blkAt (w.heap.size) 23 (Iv .u8 (keyOf M)) (.tail _ (.tail _ (.head _)))).rowFar (k := w.heap.size + 1) (blk_ne (hS.blkAt (w.heap.size) 23 (Iv .u8 (keyOf M)) (.tail _ (.tail _ (.head _)))) K1 (by decide)) (Pc (pat R Y))) (Facts.nil)))
 replace K1 := K1.row (Pc (pat R Y))
 generalize hWn : World.setRow _ _ _ = Wn at *
 clear hWn
 refine wpSeq_yield (S := Facts [.blk (B2) 83 (El_cells R), .blk (B1) 83 (El_cells Y), .blk (w.heap.size) 23 (Iv .u8 (keyOf M))]) (yieldsIf_assign rfl _ rfl _ rfl) hS ?_
 simp only [Act.put, List.setIfInBounds_toArray, List.set_cons_zero, List.set_cons_succ]
 refine wpSeq_nil ?_
 go_wp2
 exact bodyPost_ret (results_cell_tmp rfl _ _ _ 85 _ (0, 0) _ _ rfl K1 Tryz.underlying85 rfl (info_Pc _) rfl) rfl ⟨rfl, hB⟩
set_option maxHeartbeats 4000000 in
set_option maxRecDepth 100000 in
theorem cdec_D3 (N M Y b ba v1 : Nat) (co : Bool) (hN : N < p256) (hM : M < p256) (lY : Y < pp) (hb : byteAt N 31 = b) (ha : bits .and .u8 (b : Int) 128 = (ba : Int)) (hc : (!decide (ba = 0)) = co) (hv : bits .andNot .u8 (b : Int) 128 = (v1 : Int)) (hl : (keyOf N).set 31 (v1 : Int) = keyOf M) (hY : Y = plN M) (hne : (!decide (Y = M)) = false) (R : Nat) (lR : R < pp) (xo : Bool) (hx : decide (R % 2 = 1) = xo) (cb : ∀ W, Calls Tryz.prog 74 #[El Y] W fun e w' => e = .returned (.tuple #[El R, .bool true]) ∧ Below W.heap.size W w') (hz : decide (R = 0) = false) (hd : (xo != co) = true) (w : World) :
  Calls Tryz.prog 51 #[Key (keyOf N)] w fun e w' => e = .returned (.tuple #[PV (pat (fneg R) Y), .bool true]) ∧ Below w.heap.size w w' := by
 have HB := Lib.hid hb
 have HA := Lib.hid ha
 have HC := Lib.hid hc
 have HV := Lib.hid hv
 have HL := Lib.hid hl
 have CO := Lib.hid (fun W => of_n M Y hM hY W)
 have kY := Nat.lt_trans lY pp_lt256
 have kM := hM
 clear hb ha hc hv hl hY
 have HNE := Lib.hid hne
 clear hne
 have HZ := Lib.hid hz
 clear hz
 have HX := Lib.hid hx
 clear hx
 have HD := Lib.hid hd
 clear hd
 have CB := Lib.hid cb
 clear cb
 unfold Key
 go_enter Tryz.func51, Tryz.ntmps51
 go_upto_region 1 with fail
 generalize hW : World.alloc (World.alloc w _) _ = W
 have hB : Below w.heap.size w W := hW ▸ ((Below.refl w.heap.size w).alloc (Nat.le_refl _) _).alloc (by simp) _
 have K0 : Blk W (w.heap.size) 23 (Iv .u8 (keyOf N)) := hW ▸ ((Blk.new' (by simp) _ _).alloc _)
 have K1 : Blk W (w.heap.size + 1) 85 (Pc p40) := hW ▸ (Blk.new' (by simp) _ _)
 have hS : Facts [.blk (w.heap.size) 23 (Iv .u8 (keyOf N))] W := Facts.cons (f := .blk (w.heap.size) 23 (Iv .u8 (keyOf N))) K0 (Facts.nil)
 clear hW K0
 refine wp_region_seq ?_
 refine wpSeq_yield (S := Facts [.blk (w.heap.size) 23 (Iv .u8 (keyOf N))]) (v := (.pointer (some ⟨w.heap.size, 31, none⟩))) (Or.inl ⟨by rfl, ?_⟩) hS ?_
 ·
  intro w' _
  go_simp
 simp only [Act.put, List.setIfInBounds_toArray, List.set_cons_zero, List.set_cons_succ]
 refine wpSeq_yield (S := Facts [.blk (w.heap.size) 23 (Iv .u8 (keyOf N))]) (v := (.int .u8 (b : Int))) (Or.inl ⟨by rfl, ?_⟩) hS ?_
 ·
  intro w' hw'
  have c := key_cellj (hw'.blkAt (w.heap.size) 23 (Iv .u8 (keyOf N)) (.head _)) 31 (by decide)
  rw [HB.out] at c
  go_simp
 simp only [Act.put, List.setIfInBounds_toArray, List.set_cons_zero, List.set_cons_succ]
 refine wpSeq_yield (S := Facts [.blk (w.heap.size) 23 (Iv .u8 (keyOf N))]) (v := (.int .u8 (ba : Int))) (Or.inl ⟨by rfl, ?_⟩) hS ?_
 ·
  intro w' _
  have c := HA.out
  go_simp
 simp only [Act.put, List.setIfInBounds_toArray, List.set_cons_zero, List.set_cons_succ]
 refine wpSeq_yield (S := Facts [.blk (w.heap.size) 23 (Iv .u8 (keyOf N))]) (yieldsIf_neq8 rfl _ _ rfl ba 0 rfl rfl co HC.out) hS ?_
 simp only [Act.put, List.setIfInBounds_toArray, List.set_cons_zero, List.set_cons_succ]
 refine wpSeq_yield (S := Facts [.blk (w.heap.size) 23 (Iv .u8 (keyOf N))]) (yieldsIf_assign rfl _ rfl _ rfl) hS ?_
 simp only [Act.put, List.setIfInBounds_toArray, List.set_cons_zero, List.set_cons_succ]
 refine wpSeq_nil ?_
 have KB := hS.blkAt (w.heap.size) 23 (Iv .u8 (keyOf N)) (.head _)
 have c0 := key_cellj KB 31 (by decide)
 rw [HB.out] at c0
 have f0 := KB.frozen 31
 have hnot := HV.out
 go_upto_region 3 with fail
 have hlt := K1.lt
 replace KB := KB.set 31 (.int .u8 (v1 : Int))
 rw [Iv_set, HL.out] at KB
 replace K1 : Blk _ _ _ _ := K1.far (p := ⟨w.heap.size, 31, none⟩) (by show w.heap.size + 1 ≠ w.heap.size; omega) (.int .u8 (v1 : Int))
 replace hB := hB.setCell (p := ⟨w.heap.size, 31, none⟩) (by show w.heap.size ≤ w.heap.size; omega) (.int .u8 (v1 : Int))
 clear hS c0 f0 hnot hlt
 generalize World.setCell _ _ _ = V at *
 have hS : Facts [.blk (w.heap.size) 23 (Iv .u8 (keyOf M))] V := Facts.cons (f := .blk (w.heap.size) 23 (Iv .u8 (keyOf M))) KB Facts.nil
 clear KB
 refine wp_region_seq ?_
 refine wpSeq_yield (S := Facts [.blk (w.heap.size) 23 (Iv .u8 (keyOf M))]) (show YieldsIf _ _ _ _ (Key (keyOf M)) _ from yieldsIf_load rfl 23 _ rfl (w.heap.size) rfl 23 _ _ (.head _) Tryz.underlying23 rfl (info_key _ (keyOf_length _))) hS ?_
 simp only [Act.put, List.setIfInBounds_toArray, List.set_cons_zero, List.set_cons_succ]
 refine wpSeq_wp rfl ?_
 go_simp
 refine (CO.out _).mono ?_
 rintro e v1 ⟨rfl, b⟩
 replace hB := hB.trans (b.mono hB.size)
 replace hS := hS.below b
 replace K1 := K1.below' b
 clear b
 show wpSeq _ _ _ _ _ _
 refine wpSeq_allocQ 83 (El_cells 0) rfl (fun W => by go_simp; rfl) ?_
 intro B1 C1 AB1 b mB1
 simp only [Act.put, List.setIfInBounds_toArray, List.set_cons_zero, List.set_cons_succ]
 have hb := b
 clear b
 refine wpSeq_store_row rfl 83 _ _ rfl (B1) (El_cells Y) rfl rfl _ _ AB1 (info_El _) (El_same _ _) (El_one _) ?_
 try simp only [Act.put, List.setIfInBounds_toArray, List.set_cons_zero, List.set_cons_succ]
 replace AB1 := AB1.row (El_cells Y)
 replace hb := below_setRow hb mB1 (El_cells Y)
 generalize hWn : World.setRow _ _ _ = Wn at *
 clear hWn
 have uB1_K1 := Nat.lt_of_lt_of_le K1.lt mB1
 replace mB1 := Nat.le_trans hB.size mB1
 replace hB := hB.trans (hb.mono hB.size)
 replace hS := hS.below hb
 replace K1 := K1.below' hb
 clear hb
 replace hS : Facts [.blk (B1) 83 (El_cells Y), .blk (w.heap.size) 23 (Iv .u8 (keyOf M))] _ := Facts.cons (f := .blk B1 83 (El_cells Y)) AB1 hS
 clear AB1
 refine wpSeq_nil ?_
 go_upto_region 4 with fail
 replace hS := hS.drew
 replace hB := below_drew hB
 replace K1 := K1.drew
 refine wp_region_S (S := Facts [.blk (B1) 83 (El_cells Y), .blk (w.heap.size) 23 (Iv .u8 (keyOf M))]) (by kernel_rfl) ?_
 refine wpAnyS_takeL 0 rfl (by kernel_rfl) (by kernel_rfl) (by kernel_rfl) (fun _ _ _ h => h) (show YieldsIf _ _ _ _ (El Y) _ from yieldsIf_load rfl 83 _ rfl (B1) rfl 83 _ _ (.head _) Tryz.underlying83 rfl (info_El _)) hS ?_
 simp only [Act.put, List.setIfInBounds_toArray, List.set_cons_zero, List.set_cons_succ]
 refine wpAnyS_takeL 2 rfl (by kernel_rfl) (by kernel_rfl) (by kernel_rfl) (fun _ _ _ h => h) (show YieldsIf _ _ _ _ (Key (keyOf M)) _ from yieldsIf_load rfl 23 _ rfl (w.heap.size) rfl 23 _ _ (.tail _ (.head _)) Tryz.underlying23 rfl (info_key _ (keyOf_length _))) hS ?_
 simp only [Act.put, List.setIfInBounds_toArray, List.set_cons_zero, List.set_cons_succ]
 refine wpAnyS_one (i := 1) (by kernel_rfl) ?_
 unfold wpOp
 go_simp
 left
 refine (bytes_v Y _ lY).mono ?_
 rintro e v2 ⟨rfl, b⟩
 replace hB := hB.trans (b.mono hB.size)
 replace hS := hS.below b
 replace K1 := K1.below' b
 clear b
 refine ⟨hS, ?_⟩
 refine wpAnyS_takeL 3 rfl (by kernel_rfl) (by kernel_rfl) (by kernel_rfl) (fun _ _ _ h => h) (yieldsIf_neqk rfl _ _ rfl Y M rfl rfl false kY kM (HNE.out)) hS ?_
 simp only [Act.put, List.setIfInBounds_toArray, List.set_cons_zero, List.set_cons_succ]
 refine wpAnyS_done (by kernel_rfl) ?_ _
 go_upto_region 6 with fail
 refine wp_region_seq ?_
 refine wpSeq_yield (S := Facts [.blk (B1) 83 (El_cells Y), .blk (w.heap.size) 23 (Iv .u8 (keyOf M))]) (show YieldsIf _ _ _ _ (El Y) _ from yieldsIf_load rfl 83 _ rfl (B1) rfl 83 _ _ (.head _) Tryz.underlying83 rfl (info_El _)) hS ?_
 simp only [Act.put, List.setIfInBounds_toArray, List.set_cons_zero, List.set_cons_succ]
 refine wpSeq_wp rfl ?_
 go_simp
 refine (CB.out _).mono ?_
 rintro e v3 ⟨rfl, b⟩
 replace hB := hB.trans (b.mono hB.size)
 replace hS := hS.below b
 replace K1 := K1.below' b
 clear b
 show wpSeq _ _ _ _ _ _
 refine wpSeq_yield (S := Facts [.blk (B1) 83 (El_cells Y), .blk (w.heap.size) 23 (Iv .u8 (keyOf M))]) (yieldsIf_move rfl _ rfl _ rfl) hS ?_
 simp only [Act.put, List.setIfInBounds_toArray, List.set_cons_zero, List.set_cons_succ]
 refine wpSeq_yield (S := Facts [.blk (B1) 83 (El_cells Y), .blk (w.heap.size) 23 (Iv .u8 (keyOf M))]) (show YieldsIf _ _ _ _ (El R) _ from yieldsIf_extract rfl _ _ rfl _ rfl _ rfl) hS ?_
 simp only [Act.put, List.setIfInBounds_toArray, List.set_cons_zero, List.set_cons_succ]
 refine wpSeq_yield (S := Facts [.blk (B1) 83 (El_cells Y), .blk (w.heap.size) 23 (Iv .u8 (keyOf M))]) (show YieldsIf _ _ _ _ (.bool true) _ from yieldsIf_extract rfl _ _ rfl _ rfl _ rfl) hS ?_
 simp only [Act.put, List.setIfInBounds_toArray, List.set_cons_zero, List.set_cons_succ]
 refine wpSeq_allocQ 83 (El_cells 0) rfl (fun W => by go_simp; rfl) ?_
 intro B2 C2 AB2 b mB2
 simp only [Act.put, List.setIfInBounds_toArray, List.set_cons_zero, List.set_cons_succ]
 have hb := b
 clear b
 refine wpSeq_store_row rfl 83 _ _ rfl (B2) (El_cells R) rfl rfl _ _ AB2 (info_El _) (El_same _ _) (El_one _) ?_
 try simp only [Act.put, List.setIfInBounds_toArray, List.set_cons_zero, List.set_cons_succ]
 replace AB2 := AB2.row (El_cells R)
 replace hb := below_setRow hb mB2 (El_cells R)
 generalize hWn : World.setRow _ _ _ = Wn at *
 clear hWn
 have eB2_0 := Nat.lt_of_lt_of_le (hS.blkAt (B1) 83 (El_cells Y) (.head _)).lt mB2
 have uB2_K1 := Nat.lt_of_lt_of_le K1.lt mB2
 replace mB2 := Nat.le_trans hB.size mB2
 replace hB := hB.trans (hb.mono hB.size)
 replace hS := hS.below hb
 replace K1 := K1.below' hb
 clear hb
 replace hS : Facts [.blk (B2) 83 (El_cells R), .blk (B1) 83 (El_cells Y), .blk (w.heap.size) 23 (Iv .u8 (keyOf M))] _ := Facts.cons (f := .blk B2 83 (El_cells R)) AB2 hS
 clear AB2
 refine wpSeq_yield (S := Facts [.blk (B2) 83 (El_cells R), .blk (B1) 83 (El_cells Y), .blk (w.heap.size) 23 (Iv .u8 (keyOf M))]) (yieldsIf_assign rfl _ rfl _ rfl) hS ?_
 simp only [Act.put, List.setIfInBounds_toArray, List.set_cons_zero, List.set_cons_succ]
 refine wpSeq_nil ?_
 go_upto_region 7 with fail
 refine wp_region_seq ?_
 refine wpSeq_yield (S := Facts [.blk (B2) 83 (El_cells R), .blk (B1) 83 (El_cells Y), .blk (w.heap.size) 23 (Iv .u8 (keyOf M))]) (yieldsIf_move rfl _ rfl _ rfl) hS ?_
 simp only [Act.put, List.setIfInBounds_toArray, List.set_cons_zero, List.set_cons_succ]
 refine wpSeq_yield (S := Facts [.blk (B2) 83 (El_cells R), .blk (B1) 83 (El_cells Y), .blk (w.heap.size) 23 (Iv .u8 (keyOf M))]) (yieldsIf_not rfl _ _ rfl true rfl) hS ?_
 simp only [Act.put, List.setIfInBounds_toArray, List.set_cons_zero, List.set_cons_succ]
 refine wpSeq_yield (S := Facts [.blk (B2) 83 (El_cells R), .blk (B1) 83 (El_cells Y), .blk (w.heap.size) 23 (Iv .u8 (keyOf M))]) (yieldsIf_move rfl _ rfl _ rfl) hS ?_
 simp only [Act.put, List.setIfInBounds_toArray, List.set_cons_zero, List.set_cons_succ]
 refine wpSeq_yield (S := Facts [.blk (B2) 83 (El_cells R), .blk (B1) 83 (El_cells Y), .blk (w.heap.size) 23 (Iv .u8 (keyOf M))]) (show YieldsIf _ _ _ _ (El R) _ from yieldsIf_load rfl 83 _ rfl (B2) rfl 83 _ _ (.head _) Tryz.underlying83 rfl (info_El _)) hS ?_
 simp only [Act.put, List.setIfInBounds_toArray, List.set_cons_zero, List.set_cons_succ]
 refine wpSeq_wp rfl ?_
 go_simp
 refine (zero_v R false _ (HZ.out)).mono ?_
 rintro e v4 ⟨rfl, b⟩
 replace hB := hB.trans (b.mono hB.size)
 replace hS := hS.below b
 replace K1 := K1.below' b
 clear b
 show wpSeq _ _ _ _ _ _
 refine wpSeq_yield (S := Facts [.blk (B2) 83 (El_cells R), .blk (B1) 83 (El_cells Y), .blk (w.heap.size) 23 (Iv .u8 (keyOf M))]) (yieldsIf_move rfl _ rfl _ rfl) hS ?_
 simp only [Act.put, List.setIfInBounds_toArray, List.set_cons_zero, List.set_cons_succ]
 refine wpSeq_yield (S := Facts [.blk (B2) 83 (El_cells R), .blk (B1) 83 (El_cells Y), .blk (w.heap.size) 23 (Iv .u8 (keyOf M))]) (yieldsIf_off rfl) hS ?_
 simp only [Act.put, List.setIfInBounds_toArray, List.set_cons_zero, List.set_cons_succ]
 refine wpSeq_yield (S := Facts [.blk (B2) 83 (El_cells R), .blk (B1) 83 (El_cells Y), .blk (w.heap.size) 23 (Iv .u8 (keyOf M))]) (yieldsIf_pick rfl _ _ _ rfl false rfl _ rfl) hS ?_
 simp only [Act.put, List.setIfInBounds_toArray, List.set_cons_zero, List.set_cons_succ]
 refine wpSeq_yield (S := Facts [.blk (B2) 83 (El_cells R), .blk (B1) 83 (El_cells Y), .blk (w.heap.size) 23 (Iv .u8 (keyOf M))]) (yieldsIf_pick rfl _ _ _ rfl false rfl _ rfl) hS ?_
 simp only [Act.put, List.setIfInBounds_toArray, List.set_cons_zero, List.set_cons_succ]
 refine wpSeq_nil ?_
 go_upto_region 9 with fail
 refine wp_region_seq ?_
 refine wpSeq_yield (S := Facts [.blk (B2) 83 (El_cells R), .blk (B1) 83 (El_cells Y), .blk (w.heap.size) 23 (Iv .u8 (keyOf M))]) (show YieldsIf _ _ _ _ (El R) _ from yieldsIf_load rfl 83 _ rfl (B2) rfl 83 _ _ (.head _) Tryz.underlying83 rfl (info_El _)) hS ?_
 simp only [Act.put, List.setIfInBounds_toArray, List.set_cons_zero, List.set_cons_succ]
 refine wpSeq_wp rfl ?_
 go_simp
 refine (odd_v R xo _ (HX.out)).mono ?_
 rintro e v5 ⟨rfl, b⟩
 replace hB := hB.trans (b.mono hB.size)
 replace hS := hS.below b
 replace K1 := K1.below' b
 clear b
 show wpSeq _ _ _ _ _ _
 refine wpSeq_yield (S := Facts [.blk (B2) 83 (El_cells R), .blk (B1) 83 (El_cells Y), .blk (w.heap.size) 23 (Iv .u8 (keyOf M))]) (yieldsIf_move rfl _ rfl _ rfl) hS ?_
 simp only [Act.put, List.setIfInBounds_toArray, List.set_cons_zero, List.set_cons_succ]
 refine wpSeq_yield (S := Facts [.blk (B2) 83 (El_cells R), .blk (B1) 83 (El_cells Y), .blk (w.heap.size) 23 (Iv .u8 (keyOf M))]) (yieldsIf_neqb rfl _ _ rfl xo co rfl rfl true HD.out) hS ?_
 simp only [Act.put, List.setIfInBounds_toArray, List.set_cons_zero, List.set_cons_succ]
 refine wpSeq_nil ?_
 go_upto_region 10 with fail
 refine wp_region_seq ?_
 refine wpSeq_yield (S := Facts [.blk (B2) 83 (El_cells R), .blk (B1) 83 (El_cells Y), .blk (w.heap.size) 23 (Iv .u8 (keyOf M))]) (show YieldsIf _ _ _ _ (El R) _ from yieldsIf_load rfl 83 _ rfl (B2) rfl 83 _ _ (.head _) Tryz.underlying83 rfl (info_El _)) hS ?_
 simp only [Act.put, List.setIfInBounds_toArray, List.set_cons_zero, List.set_cons_succ]
 refine wpSeq_wp rfl ?_
 go_simp
 refine (neg_v R (fneg R) _ lR rfl).mono ?_
 rintro e v6 ⟨rfl, b⟩
 replace hB := hB.trans (b.mono hB.size)
 replace hS := hS.below b
 replace K1 := K1.below' b
 clear b
 show wpSeq _ _ _ _ _ _
 refine wpSeq_store_row rfl 83 _ _ rfl (B2) (El_cells (fneg R)) rfl rfl _ _ (hS.blkAt (B2) 83 (El_cells R) (.head _)) (info_El _) rfl (El_one _) ?_
 try simp only [Act.put, List.setIfInBounds_toArray, List.set_cons_zero, List.set_cons_succ]
 replace K1 := K1.rowFar (k := B2) (blk_ne K1 (hS.blkAt _ _ _ (.head _)) (by decide)) (El_cells (fneg R))
 replace hB := below_setRow hB (g := B2) (by omega) (El_cells (fneg R))
 replace hS : Facts [.blk (B2) 83 (El_cells (fneg R)), .blk (B1) 83 (El_cells Y), .blk (w.heap.size) 23 (Iv .u8 (keyOf M))] _ := Facts.cons (f := .blk (B2) 83 (El_cells (fneg R))) ((hS.blkAt (B2) 83 (El_cells R) (.head _)).row _) (Facts.cons (f := .blk (B1) 83 (El_cells Y)) ((hS.blkAt (B1) 83 (El_cells Y) (.tail _ (.head _))).rowFar (k := B2) (by first | omega | exact blk_ne (hS.blkAt _ _ _ (.tail _ (.head _))) (hS.blkAt _ _ _ (.head _)) (by decide)) _) (Facts.cons (f := .blk (w.heap.size) 23 (Iv .u8 (keyOf M))) ((hS.blkAt (w.heap.size) 23 (Iv .u8 (keyOf M)) (.tail _ (.tail _ (.head _)))).rowFar (k := B2) (blk_ne (hS.blkAt _ _ _ (.tail _ (.tail _ (.head _)))) (hS.blkAt _ _ _ (.head _)) (by decide)) _) (Facts.nil)))
 generalize hWn : World.setRow _ _ _ = Wn at *
 clear hWn
 refine wpSeq_nil ?_
 go_upto_region 11 with fail
 refine wp_region_seq ?_
 refine wpSeq_yield (S := Facts [.blk (B2) 83 (El_cells (fneg R)), .blk (B1) 83 (El_cells Y), .blk (w.heap.size) 23 (Iv .u8 (keyOf M))]) (show YieldsIf _ _ _ _ (El (fneg R)) _ from yieldsIf_load rfl 83 _ rfl (B2) rfl 83 _ _ (.head _) Tryz.underlying83 rfl (info_El _)) hS ?_
 simp only [Act.put, List.setIfInBounds_toArray, List.set_cons_zero, List.set_cons_succ]
 refine wpSeq_yield (S := Facts [.blk (B2) 83 (El_cells (fneg R)), .blk (B1) 83 (El_cells Y), .blk (w.heap.size) 23 (Iv .u8 (keyOf M))]) (show YieldsIf _ _ _ _ (El Y) _ from yieldsIf_load rfl 83 _ rfl (B1) rfl 83 _ _ (.tail _ (.head _)) Tryz.underlying83 rfl (info_El _)) hS ?_
 simp only [Act.put, List.setIfInBounds_toArray, List.set_cons_zero, List.set_cons_succ]
 refine wpSeq_wp rfl ?_
 go_simp
 refine (cat_v (fneg R) Y (fneg_lt R) lY _).mono ?_
 rintro e v7 ⟨rfl, b⟩
 replace hB := hB.trans (b.mono hB.size)
 replace hS := hS.below b
 replace K1 := K1.below' b
 clear b
 show wpSeq _ _ _ _ _ _
 refine wpSeq_store_row rfl 85 _ _ rfl (w.heap.size + 1) (Pc (pat (fneg R) Y)) rfl rfl _ _ K1 (info_Pc _) (Pc_same _ _) (Pc_one _) ?_
 try simp only [Act.put, List.setIfInBounds_toArray, List.set_cons_zero, List.set_cons_succ]
 replace hB := below_setRow hB (g := w.heap.size + 1) (by omega) (Pc (pat (fneg R) Y))
 replace hS : Facts [.blk (B2) 83 (El_cells (fneg R)), .blk (B1) 83 (El_cells Y), .blk (w.heap.size) 23 (Iv .u8 (keyOf M))] _ := Facts.cons (f := .blk (B2) 83 (El_cells (fneg R))) ((hS.blkAt (B2) 83 (El_cells (fneg R)) (.head _)).rowFar (k := w.heap.size + 1) (blk_ne (hS.blkAt (B2) 83 (El_cells (fneg R)) (.head _)) K1 (by decide)) (Pc (pat (fneg R) Y))) (Facts.cons (f := .blk (B1) 83 (El_cells Y)) ((hS.blkAt (B1) 83 (El_cells Y) (.tail _ (.head _))).rowFar (k := w.heap.size + 1) (blk_ne (hS.blkAt (B1) 83 (El_cells Y) (.tail _ (.head _))) K1 (by decide)) (Pc (pat (fneg R) Y))) (Facts.cons (f := .blk (w.heap.size) 23 (Iv .u8 (keyOf M))) ((hS.blkAt (w.heap.size) 23 (Iv .u8 (keyOf M)) (.tail _ (.tail _ (.head _)))).rowFar (k := w.heap.size + 1) (blk_ne (hS.blkAt (w.heap.size) 23 (Iv .u8 (keyOf M)) (.tail _ (.tail _ (.head _)))) K1 (by decide)) (Pc (pat (fneg R) Y))) (Facts.nil)))
 replace K1 := K1.row (Pc (pat (fneg R) Y))
 generalize hWn : World.setRow _ _ _ = Wn at *
 clear hWn
 refine wpSeq_yield (S := Facts [.blk (B2) 83 (El_cells (fneg R)), .blk (B1) 83 (El_cells Y), .blk (w.heap.size) 23 (Iv .u8 (keyOf M))]) (yieldsIf_assign rfl _ rfl _ rfl) hS ?_
 simp only [Act.put, List.setIfInBounds_toArray, List.set_cons_zero, List.set_cons_succ]
 refine wpSeq_nil ?_
 go_wp2
 exact bodyPost_ret (results_cell_tmp rfl _ _ _ 85 _ (0, 0) _ _ rfl K1 Tryz.underlying85 rfl (info_Pc _) rfl) rfl ⟨rfl, hB⟩
theorem cdec_some (N : Nat) (hN : N < p256) (P : Pt dd) (hP : textN P = N) (w : World) :
  Calls Tryz.prog 51 #[Key (keyOf N)] w fun e w' => ∃ p : P4, e = .returned (.tuple #[PV p, .bool true]) ∧ p.Is P ∧ Below w.heap.size w w' := by
 obtain ⟨I, hI⟩ := has_I
 have hy := ptn_y hP
 have hx := ptn_x hP
 obtain ⟨Y, hY⟩ : ∃ Y, Y = N % 57896044618658097711785492504343953926634992332820282019728792003956564819968 := ⟨_, rfl⟩
 rw [← hY] at hy
 have lY : Y < pp := by rw [← hy]; exact P.y.isLt
 have hb := byteAt_top N hN
 have hb2 : byteAt N 31 < 256 := (keyOf_bytes N).lt 31
 have hok := rOk_pt P hy
 have hon := rV_on (Y := Y) hI hok
 have lR := rV_lt I (dOv Y) (dUn Y)
 have cb := fun W => cbesides_v I Y _ true hI lY rfl hok.symm W
 have hpick := some_pt (x := rV I (dOv Y) (dUn Y)) hN hY.symm lY lR hon
 have hodd := fun h => none_odd (N := N) (Y := Y) hY.symm h
 have hN2 : N / 57896044618658097711785492504343953926634992332820282019728792003956564819968 < 2 := by unfold p256 at hN; omega
 have hMY : Y = plN Y := (plN_small lY).symm
 have lM := Nat.lt_trans lY pp_lt256
 have hcut := key_cut N
 rw [← hY] at hcut
 have ha := and_128 ⟨byteAt N 31, hb2⟩
 have hv := not_128 ⟨byteAt N 31, hb2⟩
 have hb3 : byteAt N 31 / 128 * 128 = N / 57896044618658097711785492504343953926634992332820282019728792003956564819968 * 128 := by rw [hb]
 simp only at ha hv
 rw [hb3] at ha
 generalize rV I (dOv Y) (dUn Y) = R at *
 generalize N / 57896044618658097711785492504343953926634992332820282019728792003956564819968 = o at *
 clear hok hb hb3 hY
 have hne : (!decide (Y = Y)) = false := by rw [decide_eq_true rfl]; rfl
 by_cases z : R = 0
 ·
  have ho : o = 0 := by
   by_cases h1 : o = 1
   · exact absurd hP (hodd (by rw [← z]; exact hon) h1 P)
   · omega
  obtain ⟨P', e1, e2, e3⟩ := hpick (fun h => by omega)
  have ep : pick R o = R := by unfold pick; rw [z, ho]; rfl
  rw [ep] at e2
  have eP : P' = P := textN_inj P' P (e1.trans hP.symm)
  refine (cdec_D1 N Y Y _ (o * 128) _ hN lM lY rfl ha (by rw [ho]; rfl) hv hcut hMY hne R lR false (by rw [z]; rfl) cb (by rw [z]; rfl) rfl w).mono ?_
  rintro e w' ⟨rfl, b⟩
  exact ⟨_, rfl, eP ▸ pat_is lR lY e2 e3, b⟩
 ·
  obtain ⟨P', e1, e2, e3⟩ := hpick (fun h => z h.1)
  have eP : P' = P := textN_inj P' P (e1.trans hP.symm)
  have hc : (!decide (o * 128 = 0)) = decide (o = 1) := by
   rcases (show o = 0 ∨ o = 1 by omega) with h | h <;> rw [h] <;> rfl
  by_cases hp : R % 2 = o
  ·
   have ep : pick R o = R := by unfold pick; rw [if_pos hp]
   rw [ep] at e2
   refine (cdec_D2 N Y Y _ (o * 128) _ (decide (o = 1)) hN lM lY rfl ha hc hv hcut hMY hne R lR (decide (R % 2 = 1)) rfl cb (decide_eq_false z) (by rw [hp]; exact bne_self_eq_false _) w).mono ?_
   rintro e w' ⟨rfl, b⟩
   exact ⟨_, rfl, eP ▸ pat_is lR lY e2 e3, b⟩
  ·
   have ep : pick R o = fneg R := by unfold pick; rw [if_neg hp]
   rw [ep] at e2
   have hd : (decide (R % 2 = 1) != decide (o = 1)) = true := by
    rcases (show o = 0 ∨ o = 1 by omega) with h | h
    ·
     have h2 : R % 2 = 1 := by omega
     rw [h, h2]
     rfl
    ·
     have h2 : R % 2 = 0 := by omega
     rw [h, h2]
     rfl
   refine (cdec_D3 N Y Y _ (o * 128) _ (decide (o = 1)) hN lM lY rfl ha hc hv hcut hMY hne R lR (decide (R % 2 = 1)) rfl cb (decide_eq_false z) hd w).mono ?_
   rintro e w' ⟨rfl, b⟩
   exact ⟨_, rfl, eP ▸ pat_is (fneg_lt R) lY e2 e3, b⟩
end Go.Proofs.YtegbnadnodlalaaGreatDoor
