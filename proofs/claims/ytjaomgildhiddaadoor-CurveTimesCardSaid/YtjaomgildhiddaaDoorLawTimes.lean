/- The law CurveTimes (printed by gencurve.py). -/
import Derived.Test.YtjaomgildhiddaaDoorQg
namespace Go.Proofs.YtjaomgildhiddaaDoor
open Go.RowKit

open Ed
set_option maxHeartbeats 8000000 in
set_option maxRecDepth 100000 in
theorem times_n (NK NA : Nat) (kNK : NK < p256) (kNA : NA < p256) (w : World) (GX : Rng w 0 (Iv .u8 (keyOf bxN))) (GY : Rng w 1 (Iv .u8 (keyOf byN))) (GD : Rng w 2 (Iv .u8 (keyOf dN))) :
    Calls Tryd.prog 5 #[Key (keyOf NK), Key (keyOf NA)] w fun e w' => e = .returned (.bool true) ∧ Below w.heap.size w w' := by
  have bGX := GX.blk
  have bGY := GY.blk
  have bGD := GD.blk
  have ipbase := pbase_is
  have ipzero := pzero_is
  unfold Key
  go_enter Tryd.func5, Tryd.ntmps5
  go_upto_region 1 with fail
  generalize hW : World.alloc (World.alloc w _) _ = W
  have hB : Below w.heap.size w W := hW ▸ ((Below.refl w.heap.size w).alloc (Nat.le_refl _) _).alloc (by simp) _
  have K0 : Blk W (w.heap.size) 23 (Iv .u8 (keyOf NK)) := hW ▸ ((Blk.new' (by simp) _ _).alloc _)
  have K1 : Blk W (w.heap.size + 1) 23 (Iv .u8 (keyOf NA)) := hW ▸ (Blk.new' (by simp) _ _)
  have hS : Facts [.blk (w.heap.size) 23 (Iv .u8 (keyOf NK)), .blk (w.heap.size + 1) 23 (Iv .u8 (keyOf NA)), .rng 0 (Iv .u8 (keyOf bxN)), .rng 1 (Iv .u8 (keyOf byN)), .rng 2 (Iv .u8 (keyOf dN))] W := Facts.cons (f := .blk (w.heap.size) 23 (Iv .u8 (keyOf NK))) K0 (Facts.cons (f := .blk (w.heap.size + 1) 23 (Iv .u8 (keyOf NA))) K1 (Facts.cons (f := .rng 0 (Iv .u8 (keyOf bxN))) (GX.below hB) (Facts.cons (f := .rng 1 (Iv .u8 (keyOf byN))) (GY.below hB) (Facts.cons (f := .rng 2 (Iv .u8 (keyOf dN))) (GD.below hB) (Facts.nil)))))
  clear hW K0 K1
  refine wp_region_seq ?_
  refine wpSeq_wp rfl ?_
  go_simp
  refine (awake_any _ (hS.rngAt _ _ (.tail _ (.tail _ (.head _)))) (hS.rngAt _ _ (.tail _ (.tail _ (.tail _ (.head _)))))).mono ?_
  rintro e v1 ⟨rfl, b⟩
  replace hB := hB.trans (b.mono hB.size)
  replace hS := hS.below b
  clear b
  show wpSeq _ _ _ _ _ _
  refine wpSeq_yield (S := Facts [.blk (w.heap.size) 23 (Iv .u8 (keyOf NK)), .blk (w.heap.size + 1) 23 (Iv .u8 (keyOf NA)), .rng 0 (Iv .u8 (keyOf bxN)), .rng 1 (Iv .u8 (keyOf byN)), .rng 2 (Iv .u8 (keyOf dN))]) (yieldsIf_not rfl _ _ rfl true rfl) hS ?_
  simp only [Act.put, List.setIfInBounds_toArray, List.set_cons_zero, List.set_cons_succ]
  refine wpSeq_nil ?_
  go_upto_region 3 with fail
  refine wp_region_seq ?_
  refine wpSeq_yield (S := Facts [.blk (w.heap.size) 23 (Iv .u8 (keyOf NK)), .blk (w.heap.size + 1) 23 (Iv .u8 (keyOf NA)), .rng 0 (Iv .u8 (keyOf bxN)), .rng 1 (Iv .u8 (keyOf byN)), .rng 2 (Iv .u8 (keyOf dN))]) (show YieldsIf _ _ _ _ (Key (keyOf NA)) _ from yieldsIf_load rfl 23 _ rfl (w.heap.size + 1) rfl 23 _ _ (.tail _ (.head _)) Tryd.underlying23 rfl (info_key _ (keyOf_length _))) hS ?_
  simp only [Act.put, List.setIfInBounds_toArray, List.set_cons_zero, List.set_cons_succ]
  refine wpSeq_wp rfl ?_
  go_simp
  refine (pair_v NA kNA _ (hS.rngAt _ _ (.tail _ (.tail _ (.head _)))) (hS.rngAt _ _ (.tail _ (.tail _ (.tail _ (.head _))))) (hS.rngAt _ _ (.tail _ (.tail _ (.tail _ (.tail _ (.head _))))))).mono ?_
  rintro e v2 ⟨p2, r2, PT2, rfl, ip2, Hr2n, b⟩
  replace hB := hB.trans (b.mono hB.size)
  replace hS := hS.below b
  clear b
  have Hr2 := Hr2n
  clear Hr2n
  show wpSeq _ _ _ _ _ _
  refine wpSeq_yield (S := Facts [.blk (w.heap.size) 23 (Iv .u8 (keyOf NK)), .blk (w.heap.size + 1) 23 (Iv .u8 (keyOf NA)), .rng 0 (Iv .u8 (keyOf bxN)), .rng 1 (Iv .u8 (keyOf byN)), .rng 2 (Iv .u8 (keyOf dN))]) (yieldsIf_move rfl _ rfl (.tuple #[(PV p2), (RW r2)]) rfl) hS ?_
  simp only [Act.put, List.setIfInBounds_toArray, List.set_cons_zero, List.set_cons_succ]
  refine wpSeq_yield (S := Facts [.blk (w.heap.size) 23 (Iv .u8 (keyOf NK)), .blk (w.heap.size + 1) 23 (Iv .u8 (keyOf NA)), .rng 0 (Iv .u8 (keyOf bxN)), .rng 1 (Iv .u8 (keyOf byN)), .rng 2 (Iv .u8 (keyOf dN))]) (show YieldsIf _ _ _ _ (PV p2) _ from yieldsIf_extract rfl _ _ rfl _ rfl _ rfl) hS ?_
  simp only [Act.put, List.setIfInBounds_toArray, List.set_cons_zero, List.set_cons_succ]
  refine wpSeq_yield (S := Facts [.blk (w.heap.size) 23 (Iv .u8 (keyOf NK)), .blk (w.heap.size + 1) 23 (Iv .u8 (keyOf NA)), .rng 0 (Iv .u8 (keyOf bxN)), .rng 1 (Iv .u8 (keyOf byN)), .rng 2 (Iv .u8 (keyOf dN))]) (show YieldsIf _ _ _ _ (RW r2) _ from yieldsIf_extract rfl _ _ rfl _ rfl _ rfl) hS ?_
  simp only [Act.put, List.setIfInBounds_toArray, List.set_cons_zero, List.set_cons_succ]
  refine wpSeq_allocQ 38 (Pc p40) rfl (fun W => by go_simp; rfl) ?_
  intro B1 C1 AB1 b mB1
  simp only [Act.put, List.setIfInBounds_toArray, List.set_cons_zero, List.set_cons_succ]
  have hb := b
  clear b
  refine wpSeq_allocQ 42 zR rfl (fun W => by go_simp; rfl) ?_
  intro B2 C2 AB2 b mB2
  simp only [Act.put, List.setIfInBounds_toArray, List.set_cons_zero, List.set_cons_succ]
  have dB1_B2 : B1 < B2 := Nat.lt_of_lt_of_le AB1.lt mB2
  replace AB1 := AB1.below' b
  replace mB2 := Nat.le_trans hb.size mB2
  replace hb := hb.trans (b.mono hb.size)
  clear b
  refine wpSeq_store_row rfl 38 _ _ rfl (B1) (Pc p2) rfl rfl _ _ AB1 (info_Pc _) (Pc_same _ _) (Pc_one _) ?_
  try simp only [Act.put, List.setIfInBounds_toArray, List.set_cons_zero, List.set_cons_succ]
  replace AB2 := AB2.rowFar (k := B1) (by omega) (Pc p2)
  replace AB1 := AB1.row (Pc p2)
  replace hb := below_setRow hb mB1 (Pc p2)
  generalize hWn : World.setRow _ _ _ = Wn at *
  clear hWn
  refine wpSeq_store_row rfl 42 _ _ rfl (B2) (Rc r2) rfl rfl _ _ AB2 (info_Rc _) rfl Hr2.one ?_
  try simp only [Act.put, List.setIfInBounds_toArray, List.set_cons_zero, List.set_cons_succ]
  replace AB1 := AB1.rowFar (k := B2) (by omega) (Rc r2)
  replace AB2 := AB2.row (Rc r2)
  replace hb := below_setRow hb mB2 (Rc r2)
  generalize hWn : World.setRow _ _ _ = Wn at *
  clear hWn
  replace mB1 := Nat.le_trans hB.size mB1
  replace mB2 := Nat.le_trans hB.size mB2
  replace hB := hB.trans (hb.mono hB.size)
  replace hS := hS.below hb
  replace Hr2 := Hr2.below hb
  clear hb
  replace hS : Facts [.blk (B1) 38 (Pc p2), .blk (w.heap.size) 23 (Iv .u8 (keyOf NK)), .blk (w.heap.size + 1) 23 (Iv .u8 (keyOf NA)), .rng 0 (Iv .u8 (keyOf bxN)), .rng 1 (Iv .u8 (keyOf byN)), .rng 2 (Iv .u8 (keyOf dN))] _ := Facts.cons (f := .blk B1 38 (Pc p2)) AB1 hS
  clear AB1
  replace hS : Facts [.blk (B2) 42 (Rc r2), .blk (B1) 38 (Pc p2), .blk (w.heap.size) 23 (Iv .u8 (keyOf NK)), .blk (w.heap.size + 1) 23 (Iv .u8 (keyOf NA)), .rng 0 (Iv .u8 (keyOf bxN)), .rng 1 (Iv .u8 (keyOf byN)), .rng 2 (Iv .u8 (keyOf dN))] _ := Facts.cons (f := .blk B2 42 (Rc r2)) AB2 hS
  clear AB2
  refine wpSeq_nil ?_
  go_upto_region 4 with fail
  replace hS := hS.drew
  replace hB := below_drew hB
  replace Hr2 := Hr2.drew
  refine wp_region_Z (S := Facts [.blk (B2) 42 (Rc r2), .blk (B1) 38 (Pc p2), .blk (w.heap.size) 23 (Iv .u8 (keyOf NK)), .blk (w.heap.size + 1) 23 (Iv .u8 (keyOf NA)), .rng 0 (Iv .u8 (keyOf bxN)), .rng 1 (Iv .u8 (keyOf byN)), .rng 2 (Iv .u8 (keyOf dN))]) 9 (by kernel_rfl) ?_
  refine wpAnyZ_takeL 0 rfl (by kernel_rfl) (by kernel_rfl) (by kernel_rfl) (by kernel_rfl) (by kernel_rfl) (fun _ _ _ h => h) (show YieldsIf _ _ _ _ (Key (keyOf NK)) _ from yieldsIf_load rfl 23 _ rfl (w.heap.size) rfl 23 _ _ (.tail _ (.tail _ (.head _))) Tryd.underlying23 rfl (info_key _ (keyOf_length _))) hS ?_
  simp only [Act.put, List.setIfInBounds_toArray, List.set_cons_zero, List.set_cons_succ]
  refine wpAnyZ_takeL 1 rfl (by kernel_rfl) (by kernel_rfl) (by kernel_rfl) (by kernel_rfl) (by kernel_rfl) (fun _ _ _ h => h) (show YieldsIf _ _ _ _ (PV p2) _ from yieldsIf_load rfl 38 _ rfl (B1) rfl 38 _ _ (.tail _ (.head _)) Tryd.underlying38 rfl (info_Pc _)) hS ?_
  simp only [Act.put, List.setIfInBounds_toArray, List.set_cons_zero, List.set_cons_succ]
  refine wpAnyZ_takeL 4 rfl (by kernel_rfl) (by kernel_rfl) (by kernel_rfl) (by kernel_rfl) (by kernel_rfl) (fun _ _ _ h => h) (show YieldsIf _ _ _ _ (Key (keyOf NK)) _ from yieldsIf_load rfl 23 _ rfl (w.heap.size) rfl 23 _ _ (.tail _ (.tail _ (.head _))) Tryd.underlying23 rfl (info_key _ (keyOf_length _))) hS ?_
  simp only [Act.put, List.setIfInBounds_toArray, List.set_cons_zero, List.set_cons_succ]
  refine wpAnyZ_takeL 5 rfl (by kernel_rfl) (by kernel_rfl) (by kernel_rfl) (by kernel_rfl) (by kernel_rfl) (fun _ _ _ h => h) (show YieldsIf _ _ _ _ (RW r2) _ from yieldsIf_load rfl 42 _ rfl (B2) rfl 42 _ _ (.head _) Tryd.underlying42 rfl (info_Rc _)) hS ?_
  simp only [Act.put, List.setIfInBounds_toArray, List.set_cons_zero, List.set_cons_succ]
  obtain ⟨q0, hq0⟩ : ∃ q : P4, q = pmul NK p2 256 := ⟨_, rfl⟩
  have iq0 : q0.Is (times ok NK PT2) := by rw [hq0]; exact pmul_is256 NK kNK ip2
  have Hq0 := Lib.hid hq0
  clear hq0
  refine wpAnyZ_one (i := 2) (by kernel_rfl) ?_
  unfold wpOp
  go_simp
  left
  refine (mul_d NK p2 q0 kNK ip2.ok Hq0.out _ (hS.rngAt _ _ (.tail _ (.tail _ (.tail _ (.tail _ (.tail _ (.tail _ (.head _))))))))).mono ?_
  rintro e v3 ⟨rfl, b⟩
  replace hB := hB.trans (b.mono hB.size)
  replace hS := hS.below b
  replace Hr2 := Hr2.below b
  clear b
  refine ⟨hS, ?_⟩
  obtain ⟨T0, hT0⟩ : ∃ t : Nat, t = textN (times ok NK PT2) := ⟨_, rfl⟩
  have kT0 : T0 < p256 := by rw [hT0]; exact textN_lt _
  have HT0 := Lib.hid hT0
  clear hT0
  refine wpAnyZ_one (i := 3) (by kernel_rfl) ?_
  unfold wpOp
  go_simp
  left
  refine (cenc q0 (times ok NK PT2) iq0 T0 HT0.out _).mono ?_
  rintro e v4 ⟨rfl, b⟩
  replace hB := hB.trans (b.mono hB.size)
  replace hS := hS.below b
  replace Hr2 := Hr2.below b
  clear b
  refine ⟨hS, ?_⟩
  refine wpAnyZ_one (i := 6) (by kernel_rfl) ?_
  unfold wpOp
  go_simp
  left
  refine (roften_v NK kNK r2 PT2 _ Hr2).mono ?_
  rintro e v5 ⟨r5, rfl, Hr5n, b⟩
  replace hB := hB.trans (b.mono hB.size)
  replace hS := hS.below b
  replace Hr2 := Hr2.below b
  clear b
  have Hr5 := Hr5n
  clear Hr5n
  refine ⟨hS, ?_⟩
  refine wpAnyZ_one (i := 7) (by kernel_rfl) ?_
  unfold wpOp
  go_simp
  left
  refine (rtext_v r5 (times ok NK PT2) T0 _ Hr5 HT0.out).mono ?_
  rintro e v6 ⟨rfl, b⟩
  replace hB := hB.trans (b.mono hB.size)
  replace hS := hS.below b
  replace Hr2 := Hr2.below b
  replace Hr5 := Hr5.below b
  clear b
  refine ⟨hS, ?_⟩
  refine wpAnyZ_takeL 8 rfl (by kernel_rfl) (by kernel_rfl) (by kernel_rfl) (by kernel_rfl) (by kernel_rfl) (fun _ _ _ h => h) (yieldsIf_eqlk rfl _ _ rfl T0 T0 rfl rfl true kT0 kT0 (decide_eq_true rfl)) hS ?_
  simp only [Act.put, List.setIfInBounds_toArray, List.set_cons_zero, List.set_cons_succ]
  refine wpAnyZ_one (i := 9) (by kernel_rfl) ?_
  unfold wpOp
  go_simp
  left
  refine wpAnyZ_done (by kernel_rfl) ?_ _
  go_wp2
  exact bodyPost_ret (results_tmp rfl _ _ _) rfl ⟨rfl, hB⟩
end Go.Proofs.YtjaomgildhiddaaDoor
