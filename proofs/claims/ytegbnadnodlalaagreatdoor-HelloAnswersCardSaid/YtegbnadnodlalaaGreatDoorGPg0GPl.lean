/- Contracts of curve's Neg, besides (printed by gencurve.py). A byte of a key in memory. -/
import Derived.Test.YtegbnadnodlalaaGreatDoorGCi0GPb
namespace Go.Proofs.YtegbnadnodlalaaGreatDoor
open Go.RowKit
set_option maxHeartbeats 4000000 in
set_option maxRecDepth 100000 in
theorem cneg_v (X Y Z T : Nat) (lX : X < pp) (lY : Y < pp) (lZ : Z < pp) (lT : T < pp) (w : World) :
  Calls Tryz.prog 55 #[PV ⟨X, Y, Z, T⟩] w fun e w' => e = .returned (PV (pneg ⟨X, Y, Z, T⟩)) ∧ Below w.heap.size w w' := by
 unfold PV
 go_enter Tryz.func55, Tryz.ntmps55
 go_upto_region 1 with fail
 generalize hW : World.alloc (World.alloc w _) _ = W
 have hB : Below w.heap.size w W := hW ▸ ((Below.refl w.heap.size w).alloc (Nat.le_refl _) _).alloc (by simp) _
 have K0 : Blk W (w.heap.size) 85 (Pc ⟨X, Y, Z, T⟩) := hW ▸ ((Blk.new' (by simp) _ _).alloc _)
 have K1 : Blk W (w.heap.size + 1) 85 (Pc p40) := hW ▸ (Blk.new' (by simp) _ _)
 have hS : Facts [.blk (w.heap.size) 85 (Pc ⟨X, Y, Z, T⟩)] W := Facts.cons (f := .blk (w.heap.size) 85 (Pc ⟨X, Y, Z, T⟩)) K0 (Facts.nil)
 clear hW K0
 replace hS := hS.drew
 replace hB := below_drew hB
 replace K1 := K1.drew
 refine wp_region_Z (S := Facts [.blk (w.heap.size) 85 (Pc ⟨X, Y, Z, T⟩)]) 11 (by kernel_rfl) ?_
 refine wpAnyZ_takeL 0 rfl (by kernel_rfl) (by kernel_rfl) (by kernel_rfl) (by kernel_rfl) (by kernel_rfl) (fun _ _ _ h => h) (show YieldsIf _ _ _ _ (.pointer (some ⟨w.heap.size, 0, none⟩)) _ from yieldsIf_pf0 rfl _ rfl (w.heap.size) rfl) hS ?_
 simp only [Act.put, List.setIfInBounds_toArray, List.set_cons_zero, List.set_cons_succ]
 refine wpAnyZ_takeL 1 rfl (by kernel_rfl) (by kernel_rfl) (by kernel_rfl) (by kernel_rfl) (by kernel_rfl) (fun _ _ _ h => h) (show YieldsIf _ _ _ _ (El X) _ from yieldsIf_pl0 rfl _ rfl (w.heap.size) rfl 85 _ (.head _)) hS ?_
 simp only [Act.put, List.setIfInBounds_toArray, List.set_cons_zero, List.set_cons_succ]
 refine wpAnyZ_takeL 3 rfl (by kernel_rfl) (by kernel_rfl) (by kernel_rfl) (by kernel_rfl) (by kernel_rfl) (fun _ _ _ h => h) (show YieldsIf _ _ _ _ (.pointer (some ⟨w.heap.size, 5, none⟩)) _ from yieldsIf_pf5 rfl _ rfl (w.heap.size) rfl) hS ?_
 simp only [Act.put, List.setIfInBounds_toArray, List.set_cons_zero, List.set_cons_succ]
 refine wpAnyZ_takeL 4 rfl (by kernel_rfl) (by kernel_rfl) (by kernel_rfl) (by kernel_rfl) (by kernel_rfl) (fun _ _ _ h => h) (show YieldsIf _ _ _ _ (El Y) _ from yieldsIf_pl5 rfl _ rfl (w.heap.size) rfl 85 _ (.head _)) hS ?_
 simp only [Act.put, List.setIfInBounds_toArray, List.set_cons_zero, List.set_cons_succ]
 refine wpAnyZ_takeL 5 rfl (by kernel_rfl) (by kernel_rfl) (by kernel_rfl) (by kernel_rfl) (by kernel_rfl) (fun _ _ _ h => h) (show YieldsIf _ _ _ _ (.pointer (some ⟨w.heap.size, 10, none⟩)) _ from yieldsIf_pf10 rfl _ rfl (w.heap.size) rfl) hS ?_
 simp only [Act.put, List.setIfInBounds_toArray, List.set_cons_zero, List.set_cons_succ]
 refine wpAnyZ_takeL 6 rfl (by kernel_rfl) (by kernel_rfl) (by kernel_rfl) (by kernel_rfl) (by kernel_rfl) (fun _ _ _ h => h) (show YieldsIf _ _ _ _ (El Z) _ from yieldsIf_pl10 rfl _ rfl (w.heap.size) rfl 85 _ (.head _)) hS ?_
 simp only [Act.put, List.setIfInBounds_toArray, List.set_cons_zero, List.set_cons_succ]
 refine wpAnyZ_takeL 7 rfl (by kernel_rfl) (by kernel_rfl) (by kernel_rfl) (by kernel_rfl) (by kernel_rfl) (fun _ _ _ h => h) (show YieldsIf _ _ _ _ (.pointer (some ⟨w.heap.size, 15, none⟩)) _ from yieldsIf_pf15 rfl _ rfl (w.heap.size) rfl) hS ?_
 simp only [Act.put, List.setIfInBounds_toArray, List.set_cons_zero, List.set_cons_succ]
 refine wpAnyZ_takeL 8 rfl (by kernel_rfl) (by kernel_rfl) (by kernel_rfl) (by kernel_rfl) (by kernel_rfl) (fun _ _ _ h => h) (show YieldsIf _ _ _ _ (El T) _ from yieldsIf_pl15 rfl _ rfl (w.heap.size) rfl 85 _ (.head _)) hS ?_
 simp only [Act.put, List.setIfInBounds_toArray, List.set_cons_zero, List.set_cons_succ]
 refine wpAnyZ_one (i := 2) (by kernel_rfl) ?_
 unfold wpOp
 go_simp
 left
 refine (neg_v X (fneg X) _ lX rfl).mono ?_
 rintro e v1 ⟨rfl, b⟩
 replace hB := hB.trans (b.mono hB.size)
 replace hS := hS.below b
 replace K1 := K1.below' b
 clear b
 refine ⟨hS, ?_⟩
 refine wpAnyZ_one (i := 9) (by kernel_rfl) ?_
 unfold wpOp
 go_simp
 left
 refine (neg_v T (fneg T) _ lT rfl).mono ?_
 rintro e v2 ⟨rfl, b⟩
 replace hB := hB.trans (b.mono hB.size)
 replace hS := hS.below b
 replace K1 := K1.below' b
 clear b
 refine ⟨hS, ?_⟩
 refine wpAnyZ_takeL 10 rfl (by kernel_rfl) (by kernel_rfl) (by kernel_rfl) (by kernel_rfl) (by kernel_rfl) (fun _ _ _ h => h) (yieldsIf_pt rfl _ _ _ _ rfl ((fneg X)) Y Z ((fneg T)) rfl rfl rfl rfl) hS ?_
 simp only [Act.put, List.setIfInBounds_toArray, List.set_cons_zero, List.set_cons_succ]
 refine wpAnyZ_store_end 11 rfl (by kernel_rfl) rfl _ _ _ rfl (w.heap.size + 1) (Pc ⟨(fneg X), Y, Z, (fneg T)⟩) rfl rfl _ _ K1 (info_Pc _) (Pc_same _ _) (Pc_one _) (by kernel_rfl) ?_
 try simp only [Act.put, List.setIfInBounds_toArray, List.set_cons_zero, List.set_cons_succ]
 replace hB := below_setRow hB (g := w.heap.size + 1) (by omega) (Pc ⟨(fneg X), Y, Z, (fneg T)⟩)
 replace hS : Facts [.blk (w.heap.size) 85 (Pc ⟨X, Y, Z, T⟩)] _ := Facts.cons (f := .blk (w.heap.size) 85 (Pc ⟨X, Y, Z, T⟩)) ((hS.blkAt (w.heap.size) 85 (Pc ⟨X, Y, Z, T⟩) (.head _)).rowFar (k := w.heap.size + 1) (by omega) (Pc ⟨(fneg X), Y, Z, (fneg T)⟩)) (Facts.nil)
 replace K1 := K1.row (Pc ⟨(fneg X), Y, Z, (fneg T)⟩)
 generalize hWn : World.setRow _ _ _ = Wn at *
 clear hWn
 refine wpAnyZ_done (by kernel_rfl) ?_ _
 go_wp2
 exact bodyPost_ret (results_cell_row rfl _ _ _ 85 _ (0, 0) _ rfl K1 Tryz.underlying85 rfl (info_Pc _)) rfl ⟨rfl, hB⟩
set_option maxHeartbeats 4000000 in
set_option maxRecDepth 100000 in
theorem cbesides_v (I Y RT : Nat) (c : Bool) (hI : IOk I) (lY : Y < pp) (hR : RT = rV I (dOv Y) (dUn Y)) (hc : c = rOk (dOv Y) (dUn Y)) (w : World) :
  Calls Tryz.prog 74 #[El Y] w fun e w' => e = .returned (.tuple #[El RT, .bool c]) ∧ Below w.heap.size w w' := by
 have CR : Hid (∀ W, Calls Tryz.prog 95 #[El (dOv Y), El (dUn Y)] W fun e w' => e = .returned (.tuple #[El RT, .bool c]) ∧ Below W.heap.size W w') := Lib.hid (fun W => by rw [hR, hc]; exact root_v I (dOv Y) (dUn Y) hI (dOv_lt Y) (dUn_lt Y) W)
 clear hR hc hI
 have C1 := fun W => mul_v Y Y (fm Y Y) W lY lY rfl
 have C2 := fun W => sub_v (fm Y Y) 1 (fs (fm Y Y) 1) W (fm_lt _ _) one_lt rfl
 have C3 := fun W => mul_v 121666 (fs (fm Y Y) 1) (dOv Y) W l121666 (fs_lt _ _) rfl
 have C4 := fun W => mul_v 121665 (fm Y Y) (fm 121665 (fm Y Y)) W l121665 (fm_lt _ _) rfl
 have C5 := fun W => sub_v 121666 (fm 121665 (fm Y Y)) (dUn Y) W l121666 (fm_lt _ _) rfl
 generalize dOv Y = OV at *
 generalize dUn Y = UN at *
 generalize fs (fm Y Y) 1 = YM at *
 generalize fm 121665 (fm Y Y) = YC at *
 generalize fm Y Y = YY at *
 generalize hA6 : (121666 : Nat) = A6 at C3 C5
 generalize hA5 : (121665 : Nat) = A5 at C4
 generalize hA1 : (1 : Nat) = A1 at C2
 have HA6 := Lib.hid hA6.symm
 have HA5 := Lib.hid hA5.symm
 have HA1 := Lib.hid hA1.symm
 clear hA6 hA5 hA1
 unfold El
 go_enter Tryz.func74, Tryz.ntmps74
 go_upto_region 1 with fail
 generalize hW : World.alloc (World.alloc w _) _ = W
 have hB : Below w.heap.size w W := hW ▸ ((Below.refl w.heap.size w).alloc (Nat.le_refl _) _).alloc (by simp) _
 have K0 : Blk W (w.heap.size) 83 (El_cells Y) := hW ▸ ((Blk.new' (by simp) _ _).alloc _)
 have K1 : Blk W (w.heap.size + 1) 83 (El_cells 0) := hW ▸ (Blk.new' (by simp) _ _)
 have hS : Facts [.blk (w.heap.size) 83 (El_cells Y)] W := Facts.cons (f := .blk (w.heap.size) 83 (El_cells Y)) K0 (Facts.nil)
 clear hW K0
 refine wp_region_seq ?_
 refine wpSeq_yield (S := Facts [.blk (w.heap.size) 83 (El_cells Y)]) (show YieldsIf _ _ _ _ (El Y) _ from yieldsIf_load rfl 83 _ rfl (w.heap.size) rfl 83 _ _ (.head _) Tryz.underlying83 rfl (info_El _)) hS ?_
 simp only [Act.put, List.setIfInBounds_toArray, List.set_cons_zero, List.set_cons_succ]
 refine wpSeq_yield (S := Facts [.blk (w.heap.size) 83 (El_cells Y)]) (show YieldsIf _ _ _ _ (El Y) _ from yieldsIf_load rfl 83 _ rfl (w.heap.size) rfl 83 _ _ (.head _) Tryz.underlying83 rfl (info_El _)) hS ?_
 simp only [Act.put, List.setIfInBounds_toArray, List.set_cons_zero, List.set_cons_succ]
 refine wpSeq_wp rfl ?_
 go_simp
 refine (C1 _).mono ?_
 rintro e v1 ⟨rfl, b⟩
 replace hB := hB.trans (b.mono hB.size)
 replace hS := hS.below b
 replace K1 := K1.below' b
 clear b
 show wpSeq _ _ _ _ _ _
 refine wpSeq_allocQ 83 (El_cells 0) rfl (fun W => by go_simp; rfl) ?_
 intro B1 C1 AB1 b mB1
 simp only [Act.put, List.setIfInBounds_toArray, List.set_cons_zero, List.set_cons_succ]
 have hb := b
 clear b
 refine wpSeq_store_row rfl 83 _ _ rfl (B1) (El_cells YY) rfl rfl _ _ AB1 (info_El _) (El_same _ _) (El_one _) ?_
 try simp only [Act.put, List.setIfInBounds_toArray, List.set_cons_zero, List.set_cons_succ]
 replace AB1 := AB1.row (El_cells YY)
 replace hb := below_setRow hb mB1 (El_cells YY)
 generalize hWn : World.setRow _ _ _ = Wn at *
 clear hWn
 have eB1_0 := Nat.lt_of_lt_of_le (hS.blkAt (w.heap.size) 83 (El_cells Y) (.head _)).lt mB1
 have uB1_K1 := Nat.lt_of_lt_of_le K1.lt mB1
 replace mB1 := Nat.le_trans hB.size mB1
 replace hB := hB.trans (hb.mono hB.size)
 replace hS := hS.below hb
 replace K1 := K1.below' hb
 clear hb
 replace hS : Facts [.blk (B1) 83 (El_cells YY), .blk (w.heap.size) 83 (El_cells Y)] _ := Facts.cons (f := .blk B1 83 (El_cells YY)) AB1 hS
 clear AB1
 refine wpSeq_nil ?_
 go_upto_region 2 with fail
 replace hS := hS.drew
 replace hB := below_drew hB
 replace K1 := K1.drew
 refine wp_region_Z (S := Facts [.blk (B1) 83 (El_cells YY), .blk (w.heap.size) 83 (El_cells Y)]) 6 (by kernel_rfl) ?_
 refine wpAnyZ_takeL 1 rfl (by kernel_rfl) (by kernel_rfl) (by kernel_rfl) (by kernel_rfl) (by kernel_rfl) (fun _ _ _ h => h) (show YieldsIf _ _ _ _ (El YY) _ from yieldsIf_load rfl 83 _ rfl (B1) rfl 83 _ _ (.head _) Tryz.underlying83 rfl (info_El _)) hS ?_
 simp only [Act.put, List.setIfInBounds_toArray, List.set_cons_zero, List.set_cons_succ]
 refine wpAnyZ_jobsL [(⟨0, 10⟩, .is (El A6)), (⟨2, 12⟩, .is (El A1)), (⟨3, 13⟩, .is (El YM)), (⟨4, 14⟩, .is (El OV)), (⟨5, 5⟩, .rel (fun v w' => ∃ g, v = .pointer (some ⟨g, 0, none⟩) ∧ Blk w' g 83 (El_cells 0)))] [] 1 _ _ _ (by kernel_rfl) (fun _ _ _ _ _ h => h) ?_ (fun _ _ _ _ _ h => h) (fun _ _ h hb => h.below hb) hS ?_ ?_ ?_
 · exact fun _ _ h => by cases h
 ·
  intro j hj
  simp only [List.map_cons, List.map_nil, List.mem_cons, List.not_mem_nil, or_false] at hj
  rcases hj with rfl | rfl | rfl | rfl | rfl
  · exact fun _ _ _ h _ => h
  · exact fun _ _ _ h _ => h
  · exact fun _ _ _ h _ => h
  · exact fun _ _ _ h _ => h
  ·
   intro v w1 w2 h hb
   obtain ⟨g, e, H⟩ : ∃ g, v = .pointer (some ⟨g, 0, none⟩) ∧ Blk w1 g 83 (El_cells 0) := h
   exact ⟨g, e, H.below' hb⟩
 ·
  intro j hj
  simp only [List.map_cons, List.map_nil, List.mem_cons, List.not_mem_nil, or_false] at hj
  rcases hj with rfl | rfl | rfl | rfl | rfl
  ·
   refine job_frame [] (by kernel_rfl) ?_
   show JobAt _ _ _ _ _ _ _
   simp only [putAll, List.foldr_nil]
   intro W K hS' hK
   unfold wpOp
   go_simp
   left
   refine (small_v 121666 A6 _ (by decide) HA6.out).mono ?_
   rintro e v ⟨rfl, b⟩
   exact hK _ _ rfl b (fun g hg => ((block_agg _) g hg).elim)
  ·
   refine job_frame [] (by kernel_rfl) ?_
   show JobAt _ _ _ _ _ _ _
   simp only [putAll, List.foldr_nil]
   intro W K hS' hK
   unfold wpOp
   go_simp
   left
   refine (small_v 1 A1 _ (by decide) HA1.out).mono ?_
   rintro e v ⟨rfl, b⟩
   exact hK _ _ rfl b (fun g hg => ((block_agg _) g hg).elim)
  ·
   refine job_frame [⟨2, 12⟩] (by kernel_rfl) ?_
   show JobAt _ _ _ _ (Act.put _ (some 12) (El A1)) _ _
   simp only [Act.put, List.setIfInBounds_toArray, List.set_cons_zero, List.set_cons_succ]
   intro W K hS' hK
   unfold wpOp
   go_simp
   left
   refine (C2 _).mono ?_
   rintro e v ⟨rfl, b⟩
   exact hK _ _ rfl b (fun g hg => ((block_agg _) g hg).elim)
  ·
   refine job_frame [⟨0, 10⟩, ⟨3, 13⟩] (by kernel_rfl) ?_
   show JobAt _ _ _ _ (Act.put (Act.put _ (some 13) (El YM)) (some 10) (El A6)) _ _
   simp only [Act.put, List.setIfInBounds_toArray, List.set_cons_zero, List.set_cons_succ]
   intro W K hS' hK
   unfold wpOp
   go_simp
   left
   refine (C3 _).mono ?_
   rintro e v ⟨rfl, b⟩
   exact hK _ _ rfl b (fun g hg => ((block_agg _) g hg).elim)
  ·
   refine job_frame [] (by kernel_rfl) ?_
   show JobAt _ _ _ _ _ _ _
   exact job_alloc 83 (El_cells 0) _ _ rfl rfl rfl (fun W => by go_simp; rfl)
 ·
  intro f W hS2 hB1 hR hF hA
  have e0 : f 0 = (El A6) := hR ⟨0, 10⟩ (by simp)
  have e2 : f 2 = (El A1) := hR ⟨2, 12⟩ (by simp)
  have e3 : f 3 = (El YM) := hR ⟨3, 13⟩ (by simp)
  have e4 : f 4 = (El OV) := hR ⟨4, 14⟩ (by simp)
  obtain ⟨g5r2, e5, A5⟩ : ∃ g, f 5 = .pointer (some ⟨g, 0, none⟩) ∧ Blk W g 83 (El_cells 0) := hR ⟨5, 5⟩ (by simp)
  have n5 : _ ≤ g5r2 := (hF ⟨5, 5⟩ (by simp) g5r2 (by show blockOf (f 5) = _; rw [e5]; rfl)).1
  have m5 : w.heap.size ≤ g5r2 := Nat.le_trans hB.size n5
  have u5 := Nat.lt_of_lt_of_le K1.lt n5
  clear hA hF hR
  simp only [setAll, putAll, List.map_cons, List.map_nil, List.foldr_cons, List.foldr_nil, Act.put, List.setIfInBounds_toArray, List.set_cons_zero, List.set_cons_succ, e0, e2, e3, e4, e5]
  clear e0 e2 e3 e4 e5
  have hBs := hB1
  replace hB1 := below_setRow hB1 n5 (El_cells OV)
  refine wpAnyZ_store_row 6 rfl (by kernel_rfl) rfl _ _ _ rfl g5r2 (El_cells OV) rfl rfl _ _ A5 (info_El _) (El_same _ _) (El_one _) (hS.below hB1) ?_
  try simp only [Act.put, List.setIfInBounds_toArray, List.set_cons_zero, List.set_cons_succ]
  replace A5 := A5.row (El_cells OV)
  refine wpAnyZ_done (by kernel_rfl) ?_ _
  replace K1 := K1.below' hB1
  have hS3 := hS.below hB1
  replace hB := hB.trans (hB1.mono hB.size)
  clear hS hS2 hB1 hBs
  have hS : Facts [.blk (g5r2) 83 (El_cells OV), .blk (B1) 83 (El_cells YY), .blk (w.heap.size) 83 (El_cells Y)] _ := Facts.cons (f := .blk g5r2 83 (El_cells OV)) A5 (hS3)
  clear hS3
  try clear n5
  clear A5
  generalize hWn : World.setRow _ _ _ = Wn at *
  clear hWn
  go_upto_region 3 with fail
  replace hS := hS.drew
  replace hB := below_drew hB
  replace K1 := K1.drew
  refine wp_region_Z (S := Facts [.blk (g5r2) 83 (El_cells OV), .blk (B1) 83 (El_cells YY), .blk (w.heap.size) 83 (El_cells Y)]) 6 (by kernel_rfl) ?_
  refine wpAnyZ_takeL 2 rfl (by kernel_rfl) (by kernel_rfl) (by kernel_rfl) (by kernel_rfl) (by kernel_rfl) (fun _ _ _ h => h) (show YieldsIf _ _ _ _ (El YY) _ from yieldsIf_load rfl 83 _ rfl (B1) rfl 83 _ _ (.tail _ (.head _)) Tryz.underlying83 rfl (info_El _)) hS ?_
  simp only [Act.put, List.setIfInBounds_toArray, List.set_cons_zero, List.set_cons_succ]
  refine wpAnyZ_jobsL [(⟨0, 15⟩, .is (El A6)), (⟨1, 16⟩, .is (El A5)), (⟨3, 18⟩, .is (El YC)), (⟨4, 19⟩, .is (El UN)), (⟨5, 6⟩, .rel (fun v w' => ∃ g, v = .pointer (some ⟨g, 0, none⟩) ∧ Blk w' g 83 (El_cells 0)))] [] 1 _ _ _ (by kernel_rfl) (fun _ _ _ _ _ h => h) ?_ (fun _ _ _ _ _ h => h) (fun _ _ h hb => h.below hb) hS ?_ ?_ ?_
  · exact fun _ _ h => by cases h
  ·
   intro j hj
   simp only [List.map_cons, List.map_nil, List.mem_cons, List.not_mem_nil, or_false] at hj
   rcases hj with rfl | rfl | rfl | rfl | rfl
   · exact fun _ _ _ h _ => h
   · exact fun _ _ _ h _ => h
   · exact fun _ _ _ h _ => h
   · exact fun _ _ _ h _ => h
   ·
    intro v w1 w2 h hb
    obtain ⟨g, e, H⟩ : ∃ g, v = .pointer (some ⟨g, 0, none⟩) ∧ Blk w1 g 83 (El_cells 0) := h
    exact ⟨g, e, H.below' hb⟩
  ·
   intro j hj
   simp only [List.map_cons, List.map_nil, List.mem_cons, List.not_mem_nil, or_false] at hj
   rcases hj with rfl | rfl | rfl | rfl | rfl
   ·
    refine job_frame [] (by kernel_rfl) ?_
    show JobAt _ _ _ _ _ _ _
    simp only [putAll, List.foldr_nil]
    intro W K hS' hK
    unfold wpOp
    go_simp
    left
    refine (small_v 121666 A6 _ (by decide) HA6.out).mono ?_
    rintro e v ⟨rfl, b⟩
    exact hK _ _ rfl b (fun g hg => ((block_agg _) g hg).elim)
   ·
    refine job_frame [] (by kernel_rfl) ?_
    show JobAt _ _ _ _ _ _ _
    simp only [putAll, List.foldr_nil]
    intro W K hS' hK
    unfold wpOp
    go_simp
    left
    refine (small_v 121665 A5 _ (by decide) HA5.out).mono ?_
    rintro e v ⟨rfl, b⟩
    exact hK _ _ rfl b (fun g hg => ((block_agg _) g hg).elim)
   ·
    refine job_frame [⟨1, 16⟩] (by kernel_rfl) ?_
    show JobAt _ _ _ _ (Act.put _ (some 16) (El A5)) _ _
    simp only [Act.put, List.setIfInBounds_toArray, List.set_cons_zero, List.set_cons_succ]
    intro W K hS' hK
    unfold wpOp
    go_simp
    left
    refine (C4 _).mono ?_
    rintro e v ⟨rfl, b⟩
    exact hK _ _ rfl b (fun g hg => ((block_agg _) g hg).elim)
   ·
    refine job_frame [⟨0, 15⟩, ⟨3, 18⟩] (by kernel_rfl) ?_
    show JobAt _ _ _ _ (Act.put (Act.put _ (some 18) (El YC)) (some 15) (El A6)) _ _
    simp only [Act.put, List.setIfInBounds_toArray, List.set_cons_zero, List.set_cons_succ]
    intro W K hS' hK
    unfold wpOp
    go_simp
    left
    refine (C5 _).mono ?_
    rintro e v ⟨rfl, b⟩
    exact hK _ _ rfl b (fun g hg => ((block_agg _) g hg).elim)
   ·
    refine job_frame [] (by kernel_rfl) ?_
    show JobAt _ _ _ _ _ _ _
    exact job_alloc 83 (El_cells 0) _ _ rfl rfl rfl (fun W => by go_simp; rfl)
  ·
   intro f W hS2 hB1 hR hF hA
   have e0 : f 0 = (El A6) := hR ⟨0, 15⟩ (by simp)
   have e1 : f 1 = (El A5) := hR ⟨1, 16⟩ (by simp)
   have e3 : f 3 = (El YC) := hR ⟨3, 18⟩ (by simp)
   have e4 : f 4 = (El UN) := hR ⟨4, 19⟩ (by simp)
   obtain ⟨g5r3, e5, A5⟩ : ∃ g, f 5 = .pointer (some ⟨g, 0, none⟩) ∧ Blk W g 83 (El_cells 0) := hR ⟨5, 6⟩ (by simp)
   have n5 : _ ≤ g5r3 := (hF ⟨5, 6⟩ (by simp) g5r3 (by show blockOf (f 5) = _; rw [e5]; rfl)).1
   have m5 : w.heap.size ≤ g5r3 := Nat.le_trans hB.size n5
   have u5 := Nat.lt_of_lt_of_le K1.lt n5
   clear hA hF hR
   simp only [setAll, putAll, List.map_cons, List.map_nil, List.foldr_cons, List.foldr_nil, Act.put, List.setIfInBounds_toArray, List.set_cons_zero, List.set_cons_succ, e0, e1, e3, e4, e5]
   clear e0 e1 e3 e4 e5
   have hBs := hB1
   replace hB1 := below_setRow hB1 n5 (El_cells UN)
   refine wpAnyZ_store_row 6 rfl (by kernel_rfl) rfl _ _ _ rfl g5r3 (El_cells UN) rfl rfl _ _ A5 (info_El _) (El_same _ _) (El_one _) (hS.below hB1) ?_
   try simp only [Act.put, List.setIfInBounds_toArray, List.set_cons_zero, List.set_cons_succ]
   replace A5 := A5.row (El_cells UN)
   refine wpAnyZ_done (by kernel_rfl) ?_ _
   replace K1 := K1.below' hB1
   have hS3 := hS.below hB1
   replace hB := hB.trans (hB1.mono hB.size)
   clear hS hS2 hB1 hBs
   have hS : Facts [.blk (g5r3) 83 (El_cells UN), .blk (g5r2) 83 (El_cells OV), .blk (B1) 83 (El_cells YY), .blk (w.heap.size) 83 (El_cells Y)] _ := Facts.cons (f := .blk g5r3 83 (El_cells UN)) A5 (hS3)
   clear hS3
   try clear n5
   clear A5
   generalize hWn : World.setRow _ _ _ = Wn at *
   clear hWn
   go_upto_region 4 with fail
   refine wp_region_seq ?_
   refine wpSeq_yield (S := Facts [.blk (g5r3) 83 (El_cells UN), .blk (g5r2) 83 (El_cells OV), .blk (B1) 83 (El_cells YY), .blk (w.heap.size) 83 (El_cells Y)]) (show YieldsIf _ _ _ _ (El OV) _ from yieldsIf_load rfl 83 _ rfl (g5r2) rfl 83 _ _ (.tail _ (.head _)) Tryz.underlying83 rfl (info_El _)) hS ?_
   simp only [Act.put, List.setIfInBounds_toArray, List.set_cons_zero, List.set_cons_succ]
   refine wpSeq_yield (S := Facts [.blk (g5r3) 83 (El_cells UN), .blk (g5r2) 83 (El_cells OV), .blk (B1) 83 (El_cells YY), .blk (w.heap.size) 83 (El_cells Y)]) (show YieldsIf _ _ _ _ (El UN) _ from yieldsIf_load rfl 83 _ rfl (g5r3) rfl 83 _ _ (.head _) Tryz.underlying83 rfl (info_El _)) hS ?_
   simp only [Act.put, List.setIfInBounds_toArray, List.set_cons_zero, List.set_cons_succ]
   refine wpSeq_wp rfl ?_
   go_simp
   refine (CR.out _).mono ?_
   rintro e v2 ⟨rfl, b⟩
   replace hB := hB.trans (b.mono hB.size)
   replace hS := hS.below b
   replace K1 := K1.below' b
   clear b
   show wpSeq _ _ _ _ _ _
   refine wpSeq_yield (S := Facts [.blk (g5r3) 83 (El_cells UN), .blk (g5r2) 83 (El_cells OV), .blk (B1) 83 (El_cells YY), .blk (w.heap.size) 83 (El_cells Y)]) (show YieldsIf _ _ _ _ (El RT) _ from yieldsIf_extract rfl _ _ rfl _ rfl _ rfl) hS ?_
   simp only [Act.put, List.setIfInBounds_toArray, List.set_cons_zero, List.set_cons_succ]
   refine wpSeq_yield (S := Facts [.blk (g5r3) 83 (El_cells UN), .blk (g5r2) 83 (El_cells OV), .blk (B1) 83 (El_cells YY), .blk (w.heap.size) 83 (El_cells Y)]) (show YieldsIf _ _ _ _ (.bool c) _ from yieldsIf_extract rfl _ _ rfl _ rfl _ rfl) hS ?_
   simp only [Act.put, List.setIfInBounds_toArray, List.set_cons_zero, List.set_cons_succ]
   refine wpSeq_store_row rfl 83 _ _ rfl (w.heap.size + 1) (El_cells RT) rfl rfl _ _ K1 (info_El _) (El_same _ _) (El_one _) ?_
   try simp only [Act.put, List.setIfInBounds_toArray, List.set_cons_zero, List.set_cons_succ]
   replace hB := below_setRow hB (g := w.heap.size + 1) (by omega) (El_cells RT)
   replace hS : Facts [.blk (g5r3) 83 (El_cells UN), .blk (g5r2) 83 (El_cells OV), .blk (B1) 83 (El_cells YY), .blk (w.heap.size) 83 (El_cells Y)] _ := Facts.cons (f := .blk (g5r3) 83 (El_cells UN)) ((hS.blkAt (g5r3) 83 (El_cells UN) (.head _)).rowFar (k := w.heap.size + 1) (by omega) (El_cells RT)) (Facts.cons (f := .blk (g5r2) 83 (El_cells OV)) ((hS.blkAt (g5r2) 83 (El_cells OV) (.tail _ (.head _))).rowFar (k := w.heap.size + 1) (by omega) (El_cells RT)) (Facts.cons (f := .blk (B1) 83 (El_cells YY)) ((hS.blkAt (B1) 83 (El_cells YY) (.tail _ (.tail _ (.head _)))).rowFar (k := w.heap.size + 1) (by omega) (El_cells RT)) (Facts.cons (f := .blk (w.heap.size) 83 (El_cells Y)) ((hS.blkAt (w.heap.size) 83 (El_cells Y) (.tail _ (.tail _ (.tail _ (.head _))))).rowFar (k := w.heap.size + 1) (by omega) (El_cells RT)) (Facts.nil))))
   replace K1 := K1.row (El_cells RT)
   generalize hWn : World.setRow _ _ _ = Wn at *
   clear hWn
   refine wpSeq_yield (S := Facts [.blk (g5r3) 83 (El_cells UN), .blk (g5r2) 83 (El_cells OV), .blk (B1) 83 (El_cells YY), .blk (w.heap.size) 83 (El_cells Y)]) (yieldsIf_assign rfl _ rfl _ rfl) hS ?_
   simp only [Act.put, List.setIfInBounds_toArray, List.set_cons_zero, List.set_cons_succ]
   refine wpSeq_nil ?_
   go_wp2
   exact bodyPost_ret (results_cell_tmp rfl _ _ _ 83 _ (0, 0) _ _ rfl K1 Tryz.underlying83 rfl (info_El _) rfl) rfl ⟨rfl, hB⟩
end Go.Proofs.YtegbnadnodlalaaGreatDoor
namespace Go.Proofs.YtegbnadnodlalaaGreatDoor
open Go.RowKit
theorem key_cellj {w : World} {g : Nat} {t : TypeId} {N : Nat} (h : Blk w g t (Iv .u8 (keyOf N))) (i : Nat) (hi : i < 32) : w.cell? ⟨g, i, none⟩ = some (.int .u8 ((byteAt N i : Nat) : Int)) := by
 have hl := keyOf_bytes N
 rw [h.cell, Iv_get _ _ _ (by rw [hl.len]; exact hi), hl.get i hi]
theorem yieldsIf_neq8 {ops : Array Oper} {S : World → Prop} {o : Oper} {a : Act} (hgd : Region.wanted o (yielded ops a.tmps) = true) (x y : Operand) (ho : o.op = .binOp .neq 5 x y 5) (n m : Nat) (hx : a.eval x = .int .u8 (n : Int)) (hy : a.eval y = .int .u8 (m : Int)) (c : Bool) (hc : (!decide (n = m)) = c) :
  YieldsIf Tryz.prog ops S o (.bool c) a := Or.inl ⟨hgd, fun w _ => by
 subst hc
 by_cases h : n = m
 ·
  subst h
  simp only [execOp, ho, hx, hy]
  go_simp
 ·
  have h2 : ¬ ((n : Int) = (m : Int)) := by omega
  simp only [execOp, ho, hx, hy]
  go_simp⟩
theorem yieldsIf_neqb {ops : Array Oper} {S : World → Prop} {o : Oper} {a : Act} (hgd : Region.wanted o (yielded ops a.tmps) = true) (x y : Operand) (ho : o.op = .binOp .neq 4 x y 4) (n m : Bool) (hx : a.eval x = .bool n) (hy : a.eval y = .bool m) (c : Bool) (hc : (n != m) = c) :
  YieldsIf Tryz.prog ops S o (.bool c) a := Or.inl ⟨hgd, fun w _ => by
 subst hc
 simp only [execOp, ho, hx, hy]
 cases n <;> cases m <;> go_simp⟩
end Go.Proofs.YtegbnadnodlalaaGreatDoor
