/- The law CurveSums (printed by gencurve.py). -/
import Derived.Test.YtjaomgildhiddaaDoorQg
namespace Go.Proofs.YtjaomgildhiddaaDoor
open Go.RowKit

open Ed
set_option maxHeartbeats 8000000 in
set_option maxRecDepth 100000 in
theorem sums_n (NA NB NC : Nat) (kNA : NA < p256) (kNB : NB < p256) (kNC : NC < p256) (w : World) (GX : Rng w 0 (Iv .u8 (keyOf bxN))) (GY : Rng w 1 (Iv .u8 (keyOf byN))) (GD : Rng w 2 (Iv .u8 (keyOf dN))) :
    Calls Tryd.prog 4 #[Key (keyOf NA), Key (keyOf NB), Key (keyOf NC)] w fun e w' => e = .returned (.bool true) ∧ Below w.heap.size w w' := by
  have bGX := GX.blk
  have bGY := GY.blk
  have bGD := GD.blk
  have ipbase := pbase_is
  have ipzero := pzero_is
  unfold Key
  go_enter Tryd.func4, Tryd.ntmps4
  go_upto_region 1 with fail
  generalize hW : World.alloc (World.alloc (World.alloc w _) _) _ = W
  have hB : Below w.heap.size w W := hW ▸ (((Below.refl w.heap.size w).alloc (Nat.le_refl _) _).alloc (by simp) _).alloc (by simp; omega) _
  have K0 : Blk W (w.heap.size) 23 (Iv .u8 (keyOf NA)) := hW ▸ (((Blk.new' (by simp) _ _).alloc _).alloc _)
  have K1 : Blk W (w.heap.size + 1) 23 (Iv .u8 (keyOf NB)) := hW ▸ ((Blk.new' (by simp) _ _).alloc _)
  have K2 : Blk W (w.heap.size + 1 + 1) 23 (Iv .u8 (keyOf NC)) := hW ▸ (Blk.new' (by simp) _ _)
  have hS : Facts [.blk (w.heap.size) 23 (Iv .u8 (keyOf NA)), .blk (w.heap.size + 1) 23 (Iv .u8 (keyOf NB)), .blk (w.heap.size + 1 + 1) 23 (Iv .u8 (keyOf NC)), .rng 0 (Iv .u8 (keyOf bxN)), .rng 1 (Iv .u8 (keyOf byN)), .rng 2 (Iv .u8 (keyOf dN))] W := Facts.cons (f := .blk (w.heap.size) 23 (Iv .u8 (keyOf NA))) K0 (Facts.cons (f := .blk (w.heap.size + 1) 23 (Iv .u8 (keyOf NB))) K1 (Facts.cons (f := .blk (w.heap.size + 1 + 1) 23 (Iv .u8 (keyOf NC))) K2 (Facts.cons (f := .rng 0 (Iv .u8 (keyOf bxN))) (GX.below hB) (Facts.cons (f := .rng 1 (Iv .u8 (keyOf byN))) (GY.below hB) (Facts.cons (f := .rng 2 (Iv .u8 (keyOf dN))) (GD.below hB) (Facts.nil))))))
  clear hW K0 K1 K2
  refine wp_region_seq ?_
  refine wpSeq_wp rfl ?_
  go_simp
  refine (awake_any _ (hS.rngAt _ _ (.tail _ (.tail _ (.tail _ (.head _))))) (hS.rngAt _ _ (.tail _ (.tail _ (.tail _ (.tail _ (.head _))))))).mono ?_
  rintro e v1 ⟨rfl, b⟩
  replace hB := hB.trans (b.mono hB.size)
  replace hS := hS.below b
  clear b
  show wpSeq _ _ _ _ _ _
  refine wpSeq_yield (S := Facts [.blk (w.heap.size) 23 (Iv .u8 (keyOf NA)), .blk (w.heap.size + 1) 23 (Iv .u8 (keyOf NB)), .blk (w.heap.size + 1 + 1) 23 (Iv .u8 (keyOf NC)), .rng 0 (Iv .u8 (keyOf bxN)), .rng 1 (Iv .u8 (keyOf byN)), .rng 2 (Iv .u8 (keyOf dN))]) (yieldsIf_not rfl _ _ rfl true rfl) hS ?_
  simp only [Act.put, List.setIfInBounds_toArray, List.set_cons_zero, List.set_cons_succ]
  refine wpSeq_nil ?_
  go_upto_region 3 with fail
  refine wp_region_seq ?_
  refine wpSeq_yield (S := Facts [.blk (w.heap.size) 23 (Iv .u8 (keyOf NA)), .blk (w.heap.size + 1) 23 (Iv .u8 (keyOf NB)), .blk (w.heap.size + 1 + 1) 23 (Iv .u8 (keyOf NC)), .rng 0 (Iv .u8 (keyOf bxN)), .rng 1 (Iv .u8 (keyOf byN)), .rng 2 (Iv .u8 (keyOf dN))]) (show YieldsIf _ _ _ _ (Key (keyOf NA)) _ from yieldsIf_load rfl 23 _ rfl (w.heap.size) rfl 23 _ _ (.head _) Tryd.underlying23 rfl (info_key _ (keyOf_length _))) hS ?_
  simp only [Act.put, List.setIfInBounds_toArray, List.set_cons_zero, List.set_cons_succ]
  refine wpSeq_wp rfl ?_
  go_simp
  refine (pair_v NA kNA _ (hS.rngAt _ _ (.tail _ (.tail _ (.tail _ (.head _))))) (hS.rngAt _ _ (.tail _ (.tail _ (.tail _ (.tail _ (.head _)))))) (hS.rngAt _ _ (.tail _ (.tail _ (.tail _ (.tail _ (.tail _ (.head _)))))))).mono ?_
  rintro e v2 ⟨p2, r2, PT2, rfl, ip2, Hr2n, b⟩
  replace hB := hB.trans (b.mono hB.size)
  replace hS := hS.below b
  clear b
  have Hr2 := Hr2n
  clear Hr2n
  show wpSeq _ _ _ _ _ _
  refine wpSeq_yield (S := Facts [.blk (w.heap.size) 23 (Iv .u8 (keyOf NA)), .blk (w.heap.size + 1) 23 (Iv .u8 (keyOf NB)), .blk (w.heap.size + 1 + 1) 23 (Iv .u8 (keyOf NC)), .rng 0 (Iv .u8 (keyOf bxN)), .rng 1 (Iv .u8 (keyOf byN)), .rng 2 (Iv .u8 (keyOf dN))]) (yieldsIf_move rfl _ rfl (.tuple #[(PV p2), (RW r2)]) rfl) hS ?_
  simp only [Act.put, List.setIfInBounds_toArray, List.set_cons_zero, List.set_cons_succ]
  refine wpSeq_yield (S := Facts [.blk (w.heap.size) 23 (Iv .u8 (keyOf NA)), .blk (w.heap.size + 1) 23 (Iv .u8 (keyOf NB)), .blk (w.heap.size + 1 + 1) 23 (Iv .u8 (keyOf NC)), .rng 0 (Iv .u8 (keyOf bxN)), .rng 1 (Iv .u8 (keyOf byN)), .rng 2 (Iv .u8 (keyOf dN))]) (show YieldsIf _ _ _ _ (PV p2) _ from yieldsIf_extract rfl _ _ rfl _ rfl _ rfl) hS ?_
  simp only [Act.put, List.setIfInBounds_toArray, List.set_cons_zero, List.set_cons_succ]
  refine wpSeq_yield (S := Facts [.blk (w.heap.size) 23 (Iv .u8 (keyOf NA)), .blk (w.heap.size + 1) 23 (Iv .u8 (keyOf NB)), .blk (w.heap.size + 1 + 1) 23 (Iv .u8 (keyOf NC)), .rng 0 (Iv .u8 (keyOf bxN)), .rng 1 (Iv .u8 (keyOf byN)), .rng 2 (Iv .u8 (keyOf dN))]) (show YieldsIf _ _ _ _ (RW r2) _ from yieldsIf_extract rfl _ _ rfl _ rfl _ rfl) hS ?_
  simp only [Act.put, List.setIfInBounds_toArray, List.set_cons_zero, List.set_cons_succ]
  refine wpSeq_allocQ 38 (Pc p40) rfl (fun W => by go_simp; rfl) ?_
  intro B1 C1 AB1 b mB1
  simp only [Act.put, List.setIfInBounds_toArray, List.set_cons_zero, List.set_cons_succ]
  have hb := b
  clear b
  refine wpSeq_allocQ 42 zR rfl (fun W => by go_simp; rfl) ?_
  intro B2 C2 AB2 b mB2
  simp only [Act.put, List.setIfInBounds_toArray, List.set_cons_zero, List.set_cons_succ]
  have dB1_B2 : B1 < B2 := Nat.lt_of_lt_of_le AB1.lt mB2
  replace AB1 := AB1.below' b
  replace mB2 := Nat.le_trans hb.size mB2
  replace hb := hb.trans (b.mono hb.size)
  clear b
  refine wpSeq_store_row rfl 38 _ _ rfl (B1) (Pc p2) rfl rfl _ _ AB1 (info_Pc _) (Pc_same _ _) (Pc_one _) ?_
  try simp only [Act.put, List.setIfInBounds_toArray, List.set_cons_zero, List.set_cons_succ]
  replace AB2 := AB2.rowFar (k := B1) (by omega) (Pc p2)
  replace AB1 := AB1.row (Pc p2)
  replace hb := below_setRow hb mB1 (Pc p2)
  generalize hWn : World.setRow _ _ _ = Wn at *
  clear hWn
  refine wpSeq_store_row rfl 42 _ _ rfl (B2) (Rc r2) rfl rfl _ _ AB2 (info_Rc _) rfl Hr2.one ?_
  try simp only [Act.put, List.setIfInBounds_toArray, List.set_cons_zero, List.set_cons_succ]
  replace AB1 := AB1.rowFar (k := B2) (by omega) (Rc r2)
  replace AB2 := AB2.row (Rc r2)
  replace hb := below_setRow hb mB2 (Rc r2)
  generalize hWn : World.setRow _ _ _ = Wn at *
  clear hWn
  replace mB1 := Nat.le_trans hB.size mB1
  replace mB2 := Nat.le_trans hB.size mB2
  replace hB := hB.trans (hb.mono hB.size)
  replace hS := hS.below hb
  replace Hr2 := Hr2.below hb
  clear hb
  replace hS : Facts [.blk (B1) 38 (Pc p2), .blk (w.heap.size) 23 (Iv .u8 (keyOf NA)), .blk (w.heap.size + 1) 23 (Iv .u8 (keyOf NB)), .blk (w.heap.size + 1 + 1) 23 (Iv .u8 (keyOf NC)), .rng 0 (Iv .u8 (keyOf bxN)), .rng 1 (Iv .u8 (keyOf byN)), .rng 2 (Iv .u8 (keyOf dN))] _ := Facts.cons (f := .blk B1 38 (Pc p2)) AB1 hS
  clear AB1
  replace hS : Facts [.blk (B2) 42 (Rc r2), .blk (B1) 38 (Pc p2), .blk (w.heap.size) 23 (Iv .u8 (keyOf NA)), .blk (w.heap.size + 1) 23 (Iv .u8 (keyOf NB)), .blk (w.heap.size + 1 + 1) 23 (Iv .u8 (keyOf NC)), .rng 0 (Iv .u8 (keyOf bxN)), .rng 1 (Iv .u8 (keyOf byN)), .rng 2 (Iv .u8 (keyOf dN))] _ := Facts.cons (f := .blk B2 42 (Rc r2)) AB2 hS
  clear AB2
  refine wpSeq_nil ?_
  go_upto_region 4 with fail
  refine wp_region_seq ?_
  refine wpSeq_yield (S := Facts [.blk (B2) 42 (Rc r2), .blk (B1) 38 (Pc p2), .blk (w.heap.size) 23 (Iv .u8 (keyOf NA)), .blk (w.heap.size + 1) 23 (Iv .u8 (keyOf NB)), .blk (w.heap.size + 1 + 1) 23 (Iv .u8 (keyOf NC)), .rng 0 (Iv .u8 (keyOf bxN)), .rng 1 (Iv .u8 (keyOf byN)), .rng 2 (Iv .u8 (keyOf dN))]) (show YieldsIf _ _ _ _ (Key (keyOf NB)) _ from yieldsIf_load rfl 23 _ rfl (w.heap.size + 1) rfl 23 _ _ (.tail _ (.tail _ (.tail _ (.head _)))) Tryd.underlying23 rfl (info_key _ (keyOf_length _))) hS ?_
  simp only [Act.put, List.setIfInBounds_toArray, List.set_cons_zero, List.set_cons_succ]
  refine wpSeq_wp rfl ?_
  go_simp
  refine (pair_v NB kNB _ (hS.rngAt _ _ (.tail _ (.tail _ (.tail _ (.tail _ (.tail _ (.head _))))))) (hS.rngAt _ _ (.tail _ (.tail _ (.tail _ (.tail _ (.tail _ (.tail _ (.head _)))))))) (hS.rngAt _ _ (.tail _ (.tail _ (.tail _ (.tail _ (.tail _ (.tail _ (.tail _ (.head _)))))))))).mono ?_
  rintro e v3 ⟨p3, r3, PT3, rfl, ip3, Hr3n, b⟩
  replace hB := hB.trans (b.mono hB.size)
  replace hS := hS.below b
  replace Hr2 := Hr2.below b
  clear b
  have Hr3 := Hr3n
  clear Hr3n
  show wpSeq _ _ _ _ _ _
  refine wpSeq_yield (S := Facts [.blk (B2) 42 (Rc r2), .blk (B1) 38 (Pc p2), .blk (w.heap.size) 23 (Iv .u8 (keyOf NA)), .blk (w.heap.size + 1) 23 (Iv .u8 (keyOf NB)), .blk (w.heap.size + 1 + 1) 23 (Iv .u8 (keyOf NC)), .rng 0 (Iv .u8 (keyOf bxN)), .rng 1 (Iv .u8 (keyOf byN)), .rng 2 (Iv .u8 (keyOf dN))]) (yieldsIf_move rfl _ rfl (.tuple #[(PV p3), (RW r3)]) rfl) hS ?_
  simp only [Act.put, List.setIfInBounds_toArray, List.set_cons_zero, List.set_cons_succ]
  refine wpSeq_yield (S := Facts [.blk (B2) 42 (Rc r2), .blk (B1) 38 (Pc p2), .blk (w.heap.size) 23 (Iv .u8 (keyOf NA)), .blk (w.heap.size + 1) 23 (Iv .u8 (keyOf NB)), .blk (w.heap.size + 1 + 1) 23 (Iv .u8 (keyOf NC)), .rng 0 (Iv .u8 (keyOf bxN)), .rng 1 (Iv .u8 (keyOf byN)), .rng 2 (Iv .u8 (keyOf dN))]) (show YieldsIf _ _ _ _ (PV p3) _ from yieldsIf_extract rfl _ _ rfl _ rfl _ rfl) hS ?_
  simp only [Act.put, List.setIfInBounds_toArray, List.set_cons_zero, List.set_cons_succ]
  refine wpSeq_yield (S := Facts [.blk (B2) 42 (Rc r2), .blk (B1) 38 (Pc p2), .blk (w.heap.size) 23 (Iv .u8 (keyOf NA)), .blk (w.heap.size + 1) 23 (Iv .u8 (keyOf NB)), .blk (w.heap.size + 1 + 1) 23 (Iv .u8 (keyOf NC)), .rng 0 (Iv .u8 (keyOf bxN)), .rng 1 (Iv .u8 (keyOf byN)), .rng 2 (Iv .u8 (keyOf dN))]) (show YieldsIf _ _ _ _ (RW r3) _ from yieldsIf_extract rfl _ _ rfl _ rfl _ rfl) hS ?_
  simp only [Act.put, List.setIfInBounds_toArray, List.set_cons_zero, List.set_cons_succ]
  refine wpSeq_allocQ 38 (Pc p40) rfl (fun W => by go_simp; rfl) ?_
  intro B3 C3 AB3 b mB3
  simp only [Act.put, List.setIfInBounds_toArray, List.set_cons_zero, List.set_cons_succ]
  have hb := b
  clear b
  refine wpSeq_allocQ 42 zR rfl (fun W => by go_simp; rfl) ?_
  intro B4 C4 AB4 b mB4
  simp only [Act.put, List.setIfInBounds_toArray, List.set_cons_zero, List.set_cons_succ]
  have dB3_B4 : B3 < B4 := Nat.lt_of_lt_of_le AB3.lt mB4
  replace AB3 := AB3.below' b
  replace mB4 := Nat.le_trans hb.size mB4
  replace hb := hb.trans (b.mono hb.size)
  clear b
  refine wpSeq_store_row rfl 38 _ _ rfl (B3) (Pc p3) rfl rfl _ _ AB3 (info_Pc _) (Pc_same _ _) (Pc_one _) ?_
  try simp only [Act.put, List.setIfInBounds_toArray, List.set_cons_zero, List.set_cons_succ]
  replace AB4 := AB4.rowFar (k := B3) (by omega) (Pc p3)
  replace AB3 := AB3.row (Pc p3)
  replace hb := below_setRow hb mB3 (Pc p3)
  generalize hWn : World.setRow _ _ _ = Wn at *
  clear hWn
  refine wpSeq_store_row rfl 42 _ _ rfl (B4) (Rc r3) rfl rfl _ _ AB4 (info_Rc _) rfl Hr3.one ?_
  try simp only [Act.put, List.setIfInBounds_toArray, List.set_cons_zero, List.set_cons_succ]
  replace AB3 := AB3.rowFar (k := B4) (by omega) (Rc r3)
  replace AB4 := AB4.row (Rc r3)
  replace hb := below_setRow hb mB4 (Rc r3)
  generalize hWn : World.setRow _ _ _ = Wn at *
  clear hWn
  have eB3_1 := Nat.lt_of_lt_of_le (hS.blkAt (B1) 38 (Pc p2) (.tail _ (.head _))).lt mB3
  replace mB3 := Nat.le_trans hB.size mB3
  have eB4_0 := Nat.lt_of_lt_of_le (hS.blkAt (B2) 42 (Rc r2) (.head _)).lt mB4
  replace mB4 := Nat.le_trans hB.size mB4
  replace hB := hB.trans (hb.mono hB.size)
  replace hS := hS.below hb
  replace Hr2 := Hr2.below hb
  replace Hr3 := Hr3.below hb
  clear hb
  replace hS : Facts [.blk (B3) 38 (Pc p3), .blk (B2) 42 (Rc r2), .blk (B1) 38 (Pc p2), .blk (w.heap.size) 23 (Iv .u8 (keyOf NA)), .blk (w.heap.size + 1) 23 (Iv .u8 (keyOf NB)), .blk (w.heap.size + 1 + 1) 23 (Iv .u8 (keyOf NC)), .rng 0 (Iv .u8 (keyOf bxN)), .rng 1 (Iv .u8 (keyOf byN)), .rng 2 (Iv .u8 (keyOf dN))] _ := Facts.cons (f := .blk B3 38 (Pc p3)) AB3 hS
  clear AB3
  replace hS : Facts [.blk (B4) 42 (Rc r3), .blk (B3) 38 (Pc p3), .blk (B2) 42 (Rc r2), .blk (B1) 38 (Pc p2), .blk (w.heap.size) 23 (Iv .u8 (keyOf NA)), .blk (w.heap.size + 1) 23 (Iv .u8 (keyOf NB)), .blk (w.heap.size + 1 + 1) 23 (Iv .u8 (keyOf NC)), .rng 0 (Iv .u8 (keyOf bxN)), .rng 1 (Iv .u8 (keyOf byN)), .rng 2 (Iv .u8 (keyOf dN))] _ := Facts.cons (f := .blk B4 42 (Rc r3)) AB4 hS
  clear AB4
  refine wpSeq_nil ?_
  go_upto_region 5 with fail
  refine wp_region_seq ?_
  refine wpSeq_yield (S := Facts [.blk (B4) 42 (Rc r3), .blk (B3) 38 (Pc p3), .blk (B2) 42 (Rc r2), .blk (B1) 38 (Pc p2), .blk (w.heap.size) 23 (Iv .u8 (keyOf NA)), .blk (w.heap.size + 1) 23 (Iv .u8 (keyOf NB)), .blk (w.heap.size + 1 + 1) 23 (Iv .u8 (keyOf NC)), .rng 0 (Iv .u8 (keyOf bxN)), .rng 1 (Iv .u8 (keyOf byN)), .rng 2 (Iv .u8 (keyOf dN))]) (show YieldsIf _ _ _ _ (Key (keyOf NC)) _ from yieldsIf_load rfl 23 _ rfl (w.heap.size + 1 + 1) rfl 23 _ _ (.tail _ (.tail _ (.tail _ (.tail _ (.tail _ (.tail _ (.head _))))))) Tryd.underlying23 rfl (info_key _ (keyOf_length _))) hS ?_
  simp only [Act.put, List.setIfInBounds_toArray, List.set_cons_zero, List.set_cons_succ]
  refine wpSeq_wp rfl ?_
  go_simp
  refine (pair_v NC kNC _ (hS.rngAt _ _ (.tail _ (.tail _ (.tail _ (.tail _ (.tail _ (.tail _ (.tail _ (.head _))))))))) (hS.rngAt _ _ (.tail _ (.tail _ (.tail _ (.tail _ (.tail _ (.tail _ (.tail _ (.tail _ (.head _)))))))))) (hS.rngAt _ _ (.tail _ (.tail _ (.tail _ (.tail _ (.tail _ (.tail _ (.tail _ (.tail _ (.tail _ (.head _)))))))))))).mono ?_
  rintro e v4 ⟨p4, r4, PT4, rfl, ip4, Hr4n, b⟩
  replace hB := hB.trans (b.mono hB.size)
  replace hS := hS.below b
  replace Hr2 := Hr2.below b
  replace Hr3 := Hr3.below b
  clear b
  have Hr4 := Hr4n
  clear Hr4n
  show wpSeq _ _ _ _ _ _
  refine wpSeq_yield (S := Facts [.blk (B4) 42 (Rc r3), .blk (B3) 38 (Pc p3), .blk (B2) 42 (Rc r2), .blk (B1) 38 (Pc p2), .blk (w.heap.size) 23 (Iv .u8 (keyOf NA)), .blk (w.heap.size + 1) 23 (Iv .u8 (keyOf NB)), .blk (w.heap.size + 1 + 1) 23 (Iv .u8 (keyOf NC)), .rng 0 (Iv .u8 (keyOf bxN)), .rng 1 (Iv .u8 (keyOf byN)), .rng 2 (Iv .u8 (keyOf dN))]) (yieldsIf_move rfl _ rfl (.tuple #[(PV p4), (RW r4)]) rfl) hS ?_
  simp only [Act.put, List.setIfInBounds_toArray, List.set_cons_zero, List.set_cons_succ]
  refine wpSeq_yield (S := Facts [.blk (B4) 42 (Rc r3), .blk (B3) 38 (Pc p3), .blk (B2) 42 (Rc r2), .blk (B1) 38 (Pc p2), .blk (w.heap.size) 23 (Iv .u8 (keyOf NA)), .blk (w.heap.size + 1) 23 (Iv .u8 (keyOf NB)), .blk (w.heap.size + 1 + 1) 23 (Iv .u8 (keyOf NC)), .rng 0 (Iv .u8 (keyOf bxN)), .rng 1 (Iv .u8 (keyOf byN)), .rng 2 (Iv .u8 (keyOf dN))]) (show YieldsIf _ _ _ _ (PV p4) _ from yieldsIf_extract rfl _ _ rfl _ rfl _ rfl) hS ?_
  simp only [Act.put, List.setIfInBounds_toArray, List.set_cons_zero, List.set_cons_succ]
  refine wpSeq_yield (S := Facts [.blk (B4) 42 (Rc r3), .blk (B3) 38 (Pc p3), .blk (B2) 42 (Rc r2), .blk (B1) 38 (Pc p2), .blk (w.heap.size) 23 (Iv .u8 (keyOf NA)), .blk (w.heap.size + 1) 23 (Iv .u8 (keyOf NB)), .blk (w.heap.size + 1 + 1) 23 (Iv .u8 (keyOf NC)), .rng 0 (Iv .u8 (keyOf bxN)), .rng 1 (Iv .u8 (keyOf byN)), .rng 2 (Iv .u8 (keyOf dN))]) (show YieldsIf _ _ _ _ (RW r4) _ from yieldsIf_extract rfl _ _ rfl _ rfl _ rfl) hS ?_
  simp only [Act.put, List.setIfInBounds_toArray, List.set_cons_zero, List.set_cons_succ]
  refine wpSeq_allocQ 38 (Pc p40) rfl (fun W => by go_simp; rfl) ?_
  intro B5 C5 AB5 b mB5
  simp only [Act.put, List.setIfInBounds_toArray, List.set_cons_zero, List.set_cons_succ]
  have hb := b
  clear b
  refine wpSeq_allocQ 42 zR rfl (fun W => by go_simp; rfl) ?_
  intro B6 C6 AB6 b mB6
  simp only [Act.put, List.setIfInBounds_toArray, List.set_cons_zero, List.set_cons_succ]
  have dB5_B6 : B5 < B6 := Nat.lt_of_lt_of_le AB5.lt mB6
  replace AB5 := AB5.below' b
  replace mB6 := Nat.le_trans hb.size mB6
  replace hb := hb.trans (b.mono hb.size)
  clear b
  refine wpSeq_store_row rfl 38 _ _ rfl (B5) (Pc p4) rfl rfl _ _ AB5 (info_Pc _) (Pc_same _ _) (Pc_one _) ?_
  try simp only [Act.put, List.setIfInBounds_toArray, List.set_cons_zero, List.set_cons_succ]
  replace AB6 := AB6.rowFar (k := B5) (by omega) (Pc p4)
  replace AB5 := AB5.row (Pc p4)
  replace hb := below_setRow hb mB5 (Pc p4)
  generalize hWn : World.setRow _ _ _ = Wn at *
  clear hWn
  refine wpSeq_store_row rfl 42 _ _ rfl (B6) (Rc r4) rfl rfl _ _ AB6 (info_Rc _) rfl Hr4.one ?_
  try simp only [Act.put, List.setIfInBounds_toArray, List.set_cons_zero, List.set_cons_succ]
  replace AB5 := AB5.rowFar (k := B6) (by omega) (Rc r4)
  replace AB6 := AB6.row (Rc r4)
  replace hb := below_setRow hb mB6 (Rc r4)
  generalize hWn : World.setRow _ _ _ = Wn at *
  clear hWn
  have eB5_1 := Nat.lt_of_lt_of_le (hS.blkAt (B3) 38 (Pc p3) (.tail _ (.head _))).lt mB5
  have eB5_3 := Nat.lt_of_lt_of_le (hS.blkAt (B1) 38 (Pc p2) (.tail _ (.tail _ (.tail _ (.head _))))).lt mB5
  replace mB5 := Nat.le_trans hB.size mB5
  have eB6_0 := Nat.lt_of_lt_of_le (hS.blkAt (B4) 42 (Rc r3) (.head _)).lt mB6
  have eB6_2 := Nat.lt_of_lt_of_le (hS.blkAt (B2) 42 (Rc r2) (.tail _ (.tail _ (.head _)))).lt mB6
  replace mB6 := Nat.le_trans hB.size mB6
  replace hB := hB.trans (hb.mono hB.size)
  replace hS := hS.below hb
  replace Hr2 := Hr2.below hb
  replace Hr3 := Hr3.below hb
  replace Hr4 := Hr4.below hb
  clear hb
  replace hS : Facts [.blk (B5) 38 (Pc p4), .blk (B4) 42 (Rc r3), .blk (B3) 38 (Pc p3), .blk (B2) 42 (Rc r2), .blk (B1) 38 (Pc p2), .blk (w.heap.size) 23 (Iv .u8 (keyOf NA)), .blk (w.heap.size + 1) 23 (Iv .u8 (keyOf NB)), .blk (w.heap.size + 1 + 1) 23 (Iv .u8 (keyOf NC)), .rng 0 (Iv .u8 (keyOf bxN)), .rng 1 (Iv .u8 (keyOf byN)), .rng 2 (Iv .u8 (keyOf dN))] _ := Facts.cons (f := .blk B5 38 (Pc p4)) AB5 hS
  clear AB5
  replace hS : Facts [.blk (B6) 42 (Rc r4), .blk (B5) 38 (Pc p4), .blk (B4) 42 (Rc r3), .blk (B3) 38 (Pc p3), .blk (B2) 42 (Rc r2), .blk (B1) 38 (Pc p2), .blk (w.heap.size) 23 (Iv .u8 (keyOf NA)), .blk (w.heap.size + 1) 23 (Iv .u8 (keyOf NB)), .blk (w.heap.size + 1 + 1) 23 (Iv .u8 (keyOf NC)), .rng 0 (Iv .u8 (keyOf bxN)), .rng 1 (Iv .u8 (keyOf byN)), .rng 2 (Iv .u8 (keyOf dN))] _ := Facts.cons (f := .blk B6 42 (Rc r4)) AB6 hS
  clear AB6
  refine wpSeq_nil ?_
  go_upto_region 6 with fail
  refine wp_region_seq ?_
  refine wpSeq_wp rfl ?_
  go_simp
  refine (rd_v _).mono ?_
  rintro e v5 ⟨r5, rfl, Hr5, b⟩
  replace hB := hB.trans (b.mono hB.size)
  replace hS := hS.below b
  replace Hr2 := Hr2.below b
  replace Hr3 := Hr3.below b
  replace Hr4 := Hr4.below b
  clear b
  show wpSeq _ _ _ _ _ _
  refine wpSeq_yield (S := Facts [.blk (B6) 42 (Rc r4), .blk (B5) 38 (Pc p4), .blk (B4) 42 (Rc r3), .blk (B3) 38 (Pc p3), .blk (B2) 42 (Rc r2), .blk (B1) 38 (Pc p2), .blk (w.heap.size) 23 (Iv .u8 (keyOf NA)), .blk (w.heap.size + 1) 23 (Iv .u8 (keyOf NB)), .blk (w.heap.size + 1 + 1) 23 (Iv .u8 (keyOf NC)), .rng 0 (Iv .u8 (keyOf bxN)), .rng 1 (Iv .u8 (keyOf byN)), .rng 2 (Iv .u8 (keyOf dN))]) (yieldsIf_assign rfl _ rfl r5 rfl) hS ?_
  simp only [Act.put, List.setIfInBounds_toArray, List.set_cons_zero, List.set_cons_succ]
  refine wpSeq_nil ?_
  go_upto_region 7 with fail
  refine wp_region_seq ?_
  refine wpSeq_yield (S := Facts [.blk (B6) 42 (Rc r4), .blk (B5) 38 (Pc p4), .blk (B4) 42 (Rc r3), .blk (B3) 38 (Pc p3), .blk (B2) 42 (Rc r2), .blk (B1) 38 (Pc p2), .blk (w.heap.size) 23 (Iv .u8 (keyOf NA)), .blk (w.heap.size + 1) 23 (Iv .u8 (keyOf NB)), .blk (w.heap.size + 1 + 1) 23 (Iv .u8 (keyOf NC)), .rng 0 (Iv .u8 (keyOf bxN)), .rng 1 (Iv .u8 (keyOf byN)), .rng 2 (Iv .u8 (keyOf dN))]) (show YieldsIf _ _ _ _ (RW r2) _ from yieldsIf_load rfl 42 _ rfl (B2) rfl 42 _ _ (.tail _ (.tail _ (.tail _ (.tail _ (.head _))))) Tryd.underlying42 rfl (info_Rc _)) hS ?_
  simp only [Act.put, List.setIfInBounds_toArray, List.set_cons_zero, List.set_cons_succ]
  refine wpSeq_yield (S := Facts [.blk (B6) 42 (Rc r4), .blk (B5) 38 (Pc p4), .blk (B4) 42 (Rc r3), .blk (B3) 38 (Pc p3), .blk (B2) 42 (Rc r2), .blk (B1) 38 (Pc p2), .blk (w.heap.size) 23 (Iv .u8 (keyOf NA)), .blk (w.heap.size + 1) 23 (Iv .u8 (keyOf NB)), .blk (w.heap.size + 1 + 1) 23 (Iv .u8 (keyOf NC)), .rng 0 (Iv .u8 (keyOf bxN)), .rng 1 (Iv .u8 (keyOf byN)), .rng 2 (Iv .u8 (keyOf dN))]) (show YieldsIf _ _ _ _ (RW r3) _ from yieldsIf_load rfl 42 _ rfl (B4) rfl 42 _ _ (.tail _ (.tail _ (.head _))) Tryd.underlying42 rfl (info_Rc _)) hS ?_
  simp only [Act.put, List.setIfInBounds_toArray, List.set_cons_zero, List.set_cons_succ]
  refine wpSeq_yield (S := Facts [.blk (B6) 42 (Rc r4), .blk (B5) 38 (Pc p4), .blk (B4) 42 (Rc r3), .blk (B3) 38 (Pc p3), .blk (B2) 42 (Rc r2), .blk (B1) 38 (Pc p2), .blk (w.heap.size) 23 (Iv .u8 (keyOf NA)), .blk (w.heap.size + 1) 23 (Iv .u8 (keyOf NB)), .blk (w.heap.size + 1 + 1) 23 (Iv .u8 (keyOf NC)), .rng 0 (Iv .u8 (keyOf bxN)), .rng 1 (Iv .u8 (keyOf byN)), .rng 2 (Iv .u8 (keyOf dN))]) (yieldsIf_move rfl _ rfl r5 rfl) hS ?_
  simp only [Act.put, List.setIfInBounds_toArray, List.set_cons_zero, List.set_cons_succ]
  refine wpSeq_wp rfl ?_
  go_simp
  refine (rjoin_v r2 r3 PT2 PT3 r5 _ Hr2 Hr3 Hr5).mono ?_
  rintro e v6 ⟨r6, rfl, Hr6n, b⟩
  replace hB := hB.trans (b.mono hB.size)
  replace hS := hS.below b
  replace Hr2 := Hr2.below b
  replace Hr3 := Hr3.below b
  replace Hr4 := Hr4.below b
  replace Hr5 := Hr5.below b
  clear b
  have Hr6 := Hr6n
  clear Hr6n
  show wpSeq _ _ _ _ _ _
  refine wpSeq_allocQ 42 zR rfl (fun W => by go_simp; rfl) ?_
  intro B7 C7 AB7 b mB7
  simp only [Act.put, List.setIfInBounds_toArray, List.set_cons_zero, List.set_cons_succ]
  have hb := b
  clear b
  refine wpSeq_store_row rfl 42 _ _ rfl (B7) (Rc r6) rfl rfl _ _ AB7 (info_Rc _) rfl Hr6.one ?_
  try simp only [Act.put, List.setIfInBounds_toArray, List.set_cons_zero, List.set_cons_succ]
  replace AB7 := AB7.row (Rc r6)
  replace hb := below_setRow hb mB7 (Rc r6)
  generalize hWn : World.setRow _ _ _ = Wn at *
  clear hWn
  have eB7_0 := Nat.lt_of_lt_of_le (hS.blkAt (B6) 42 (Rc r4) (.head _)).lt mB7
  have eB7_2 := Nat.lt_of_lt_of_le (hS.blkAt (B4) 42 (Rc r3) (.tail _ (.tail _ (.head _)))).lt mB7
  have eB7_4 := Nat.lt_of_lt_of_le (hS.blkAt (B2) 42 (Rc r2) (.tail _ (.tail _ (.tail _ (.tail _ (.head _)))))).lt mB7
  replace mB7 := Nat.le_trans hB.size mB7
  replace hB := hB.trans (hb.mono hB.size)
  replace hS := hS.below hb
  replace Hr2 := Hr2.below hb
  replace Hr3 := Hr3.below hb
  replace Hr4 := Hr4.below hb
  replace Hr5 := Hr5.below hb
  replace Hr6 := Hr6.below hb
  clear hb
  replace hS : Facts [.blk (B7) 42 (Rc r6), .blk (B6) 42 (Rc r4), .blk (B5) 38 (Pc p4), .blk (B4) 42 (Rc r3), .blk (B3) 38 (Pc p3), .blk (B2) 42 (Rc r2), .blk (B1) 38 (Pc p2), .blk (w.heap.size) 23 (Iv .u8 (keyOf NA)), .blk (w.heap.size + 1) 23 (Iv .u8 (keyOf NB)), .blk (w.heap.size + 1 + 1) 23 (Iv .u8 (keyOf NC)), .rng 0 (Iv .u8 (keyOf bxN)), .rng 1 (Iv .u8 (keyOf byN)), .rng 2 (Iv .u8 (keyOf dN))] _ := Facts.cons (f := .blk B7 42 (Rc r6)) AB7 hS
  clear AB7
  refine wpSeq_nil ?_
  go_upto_region 8 with fail
  replace hS := hS.drew
  replace hB := below_drew hB
  replace Hr2 := Hr2.drew
  replace Hr3 := Hr3.drew
  replace Hr4 := Hr4.drew
  replace Hr5 := Hr5.drew
  replace Hr6 := Hr6.drew
  refine wp_region_Z (S := Facts [.blk (B7) 42 (Rc r6), .blk (B6) 42 (Rc r4), .blk (B5) 38 (Pc p4), .blk (B4) 42 (Rc r3), .blk (B3) 38 (Pc p3), .blk (B2) 42 (Rc r2), .blk (B1) 38 (Pc p2), .blk (w.heap.size) 23 (Iv .u8 (keyOf NA)), .blk (w.heap.size + 1) 23 (Iv .u8 (keyOf NB)), .blk (w.heap.size + 1 + 1) 23 (Iv .u8 (keyOf NC)), .rng 0 (Iv .u8 (keyOf bxN)), .rng 1 (Iv .u8 (keyOf byN)), .rng 2 (Iv .u8 (keyOf dN))]) 56 (by kernel_rfl) ?_
  refine wpAnyZ_takeL 0 rfl (by kernel_rfl) (by kernel_rfl) (by kernel_rfl) (by kernel_rfl) (by kernel_rfl) (fun _ _ _ h => h) (show YieldsIf _ _ _ _ (PV p2) _ from yieldsIf_load rfl 38 _ rfl (B1) rfl 38 _ _ (.tail _ (.tail _ (.tail _ (.tail _ (.tail _ (.tail _ (.head _))))))) Tryd.underlying38 rfl (info_Pc _)) hS ?_
  simp only [Act.put, List.setIfInBounds_toArray, List.set_cons_zero, List.set_cons_succ]
  refine wpAnyZ_takeL 1 rfl (by kernel_rfl) (by kernel_rfl) (by kernel_rfl) (by kernel_rfl) (by kernel_rfl) (fun _ _ _ h => h) (show YieldsIf _ _ _ _ (PV p3) _ from yieldsIf_load rfl 38 _ rfl (B3) rfl 38 _ _ (.tail _ (.tail _ (.tail _ (.tail _ (.head _))))) Tryd.underlying38 rfl (info_Pc _)) hS ?_
  simp only [Act.put, List.setIfInBounds_toArray, List.set_cons_zero, List.set_cons_succ]
  refine wpAnyZ_takeL 5 rfl (by kernel_rfl) (by kernel_rfl) (by kernel_rfl) (by kernel_rfl) (by kernel_rfl) (fun _ _ _ h => h) (show YieldsIf _ _ _ _ (RW r6) _ from yieldsIf_load rfl 42 _ rfl (B7) rfl 42 _ _ (.head _) Tryd.underlying42 rfl (info_Rc _)) hS ?_
  simp only [Act.put, List.setIfInBounds_toArray, List.set_cons_zero, List.set_cons_succ]
  refine wpAnyZ_points 2 rfl (by kernel_rfl) rfl 2 _ rfl [p2, p3] (parts2 rfl rfl) rfl (by decide) (by decide) (fun W b => hS.below b) ?_
  intro G8 CG8 AG8 b mG8
  replace hB := hB.trans (b.mono hB.size)
  replace hS := hS.below b
  replace Hr2 := Hr2.below b
  replace Hr3 := Hr3.below b
  replace Hr4 := Hr4.below b
  replace Hr5 := Hr5.below b
  replace Hr6 := Hr6.below b
  clear b mG8
  simp only [Act.put, List.setIfInBounds_toArray, List.set_cons_zero, List.set_cons_succ]
  obtain ⟨q0, hq0⟩ : ∃ q : P4, q = psum [p2, p3] := ⟨_, rfl⟩
  have iq0 : q0.Is (add ok PT2 PT3) := by rw [hq0]; exact psum2 ip2 ip3
  have Hq0 := Lib.hid hq0
  clear hq0
  refine wpAnyZ_one (i := 3) (by kernel_rfl) ?_
  unfold wpOp
  go_simp
  left
  refine (add_d2 p2 p3 q0 ip2.ok ip3.ok G8 _ AG8 (hS.rngAt _ _ (.tail _ (.tail _ (.tail _ (.tail _ (.tail _ (.tail _ (.tail _ (.tail _ (.tail _ (.tail _ (.tail _ (.tail _ (.head _)))))))))))))) Hq0.out).mono ?_
  rintro e v7 ⟨rfl, b⟩
  replace hB := hB.trans (b.mono hB.size)
  replace hS := hS.below b
  replace Hr2 := Hr2.below b
  replace Hr3 := Hr3.below b
  replace Hr4 := Hr4.below b
  replace Hr5 := Hr5.below b
  replace Hr6 := Hr6.below b
  replace AG8 := AG8.below' b
  clear b
  refine ⟨hS, ?_⟩
  obtain ⟨T0, hT0⟩ : ∃ t : Nat, t = textN (add ok PT2 PT3) := ⟨_, rfl⟩
  have kT0 : T0 < p256 := by rw [hT0]; exact textN_lt _
  have HT0 := Lib.hid hT0
  clear hT0
  refine wpAnyZ_one (i := 4) (by kernel_rfl) ?_
  unfold wpOp
  go_simp
  left
  refine (cenc q0 (add ok PT2 PT3) iq0 T0 HT0.out _).mono ?_
  rintro e v8 ⟨rfl, b⟩
  replace hB := hB.trans (b.mono hB.size)
  replace hS := hS.below b
  replace Hr2 := Hr2.below b
  replace Hr3 := Hr3.below b
  replace Hr4 := Hr4.below b
  replace Hr5 := Hr5.below b
  replace Hr6 := Hr6.below b
  replace AG8 := AG8.below' b
  clear b
  refine ⟨hS, ?_⟩
  refine wpAnyZ_one (i := 6) (by kernel_rfl) ?_
  unfold wpOp
  go_simp
  left
  refine (rtext_v r6 (add ok PT2 PT3) T0 _ Hr6 HT0.out).mono ?_
  rintro e v9 ⟨rfl, b⟩
  replace hB := hB.trans (b.mono hB.size)
  replace hS := hS.below b
  replace Hr2 := Hr2.below b
  replace Hr3 := Hr3.below b
  replace Hr4 := Hr4.below b
  replace Hr5 := Hr5.below b
  replace Hr6 := Hr6.below b
  replace AG8 := AG8.below' b
  clear b
  refine ⟨hS, ?_⟩
  refine wpAnyZ_takeL 7 rfl (by kernel_rfl) (by kernel_rfl) (by kernel_rfl) (by kernel_rfl) (by kernel_rfl) (fun _ _ _ h => h) (yieldsIf_eqlk rfl _ _ rfl T0 T0 rfl rfl true kT0 kT0 (decide_eq_true rfl)) hS ?_
  simp only [Act.put, List.setIfInBounds_toArray, List.set_cons_zero, List.set_cons_succ]
  refine wpAnyZ_takeL 8 rfl (by kernel_rfl) (by kernel_rfl) (by kernel_rfl) (by kernel_rfl) (by kernel_rfl) (fun _ _ _ h => h) (yieldsIf_move rfl _ rfl (.bool true) rfl) hS ?_
  simp only [Act.put, List.setIfInBounds_toArray, List.set_cons_zero, List.set_cons_succ]
  refine wpAnyZ_takeL 9 rfl (by kernel_rfl) (by kernel_rfl) (by kernel_rfl) (by kernel_rfl) (by kernel_rfl) (fun _ _ _ h => h) (show YieldsIf _ _ _ _ (PV p2) _ from yieldsIf_load rfl 38 _ rfl (B1) rfl 38 _ _ (.tail _ (.tail _ (.tail _ (.tail _ (.tail _ (.tail _ (.head _))))))) Tryd.underlying38 rfl (info_Pc _)) hS ?_
  simp only [Act.put, List.setIfInBounds_toArray, List.set_cons_zero, List.set_cons_succ]
  refine wpAnyZ_takeL 10 rfl (by kernel_rfl) (by kernel_rfl) (by kernel_rfl) (by kernel_rfl) (by kernel_rfl) (fun _ _ _ h => h) (show YieldsIf _ _ _ _ (PV p3) _ from yieldsIf_load rfl 38 _ rfl (B3) rfl 38 _ _ (.tail _ (.tail _ (.tail _ (.tail _ (.head _))))) Tryd.underlying38 rfl (info_Pc _)) hS ?_
  simp only [Act.put, List.setIfInBounds_toArray, List.set_cons_zero, List.set_cons_succ]
  refine wpAnyZ_takeL 11 rfl (by kernel_rfl) (by kernel_rfl) (by kernel_rfl) (by kernel_rfl) (by kernel_rfl) (fun _ _ _ h => h) (show YieldsIf _ _ _ _ (PV p4) _ from yieldsIf_load rfl 38 _ rfl (B5) rfl 38 _ _ (.tail _ (.tail _ (.head _))) Tryd.underlying38 rfl (info_Pc _)) hS ?_
  simp only [Act.put, List.setIfInBounds_toArray, List.set_cons_zero, List.set_cons_succ]
  refine wpAnyZ_takeL 15 rfl (by kernel_rfl) (by kernel_rfl) (by kernel_rfl) (by kernel_rfl) (by kernel_rfl) (fun _ _ _ h => h) (show YieldsIf _ _ _ _ (RW r6) _ from yieldsIf_load rfl 42 _ rfl (B7) rfl 42 _ _ (.head _) Tryd.underlying42 rfl (info_Rc _)) hS ?_
  simp only [Act.put, List.setIfInBounds_toArray, List.set_cons_zero, List.set_cons_succ]
  refine wpAnyZ_takeL 16 rfl (by kernel_rfl) (by kernel_rfl) (by kernel_rfl) (by kernel_rfl) (by kernel_rfl) (fun _ _ _ h => h) (show YieldsIf _ _ _ _ (RW r4) _ from yieldsIf_load rfl 42 _ rfl (B6) rfl 42 _ _ (.tail _ (.head _)) Tryd.underlying42 rfl (info_Rc _)) hS ?_
  simp only [Act.put, List.setIfInBounds_toArray, List.set_cons_zero, List.set_cons_succ]
  refine wpAnyZ_takeL 17 rfl (by kernel_rfl) (by kernel_rfl) (by kernel_rfl) (by kernel_rfl) (by kernel_rfl) (fun _ _ _ h => h) (yieldsIf_move rfl _ rfl r5 rfl) hS ?_
  simp only [Act.put, List.setIfInBounds_toArray, List.set_cons_zero, List.set_cons_succ]
  refine wpAnyZ_points 12 rfl (by kernel_rfl) rfl 3 _ rfl [p2, p3, p4] (parts3 rfl rfl rfl) rfl (by decide) (by decide) (fun W b => hS.below b) ?_
  intro G9 CG9 AG9 b mG9
  replace hB := hB.trans (b.mono hB.size)
  replace hS := hS.below b
  replace Hr2 := Hr2.below b
  replace Hr3 := Hr3.below b
  replace Hr4 := Hr4.below b
  replace Hr5 := Hr5.below b
  replace Hr6 := Hr6.below b
  replace AG8 := AG8.below' b
  clear b mG9
  simp only [Act.put, List.setIfInBounds_toArray, List.set_cons_zero, List.set_cons_succ]
  obtain ⟨q1, hq1⟩ : ∃ q : P4, q = psum [p2, p3, p4] := ⟨_, rfl⟩
  have iq1 : q1.Is (add ok (add ok PT2 PT3) PT4) := by rw [hq1]; exact psum3 ip2 ip3 ip4
  have Hq1 := Lib.hid hq1
  clear hq1
  refine wpAnyZ_one (i := 13) (by kernel_rfl) ?_
  unfold wpOp
  go_simp
  left
  refine (add_d3 p2 p3 p4 q1 ip2.ok ip3.ok ip4.ok G9 _ AG9 (hS.rngAt _ _ (.tail _ (.tail _ (.tail _ (.tail _ (.tail _ (.tail _ (.tail _ (.tail _ (.tail _ (.tail _ (.tail _ (.tail _ (.head _)))))))))))))) Hq1.out).mono ?_
  rintro e v10 ⟨rfl, b⟩
  replace hB := hB.trans (b.mono hB.size)
  replace hS := hS.below b
  replace Hr2 := Hr2.below b
  replace Hr3 := Hr3.below b
  replace Hr4 := Hr4.below b
  replace Hr5 := Hr5.below b
  replace Hr6 := Hr6.below b
  replace AG8 := AG8.below' b
  replace AG9 := AG9.below' b
  clear b
  refine ⟨hS, ?_⟩
  obtain ⟨T1, hT1⟩ : ∃ t : Nat, t = textN (add ok (add ok PT2 PT3) PT4) := ⟨_, rfl⟩
  have kT1 : T1 < p256 := by rw [hT1]; exact textN_lt _
  have HT1 := Lib.hid hT1
  clear hT1
  refine wpAnyZ_one (i := 14) (by kernel_rfl) ?_
  unfold wpOp
  go_simp
  left
  refine (cenc q1 (add ok (add ok PT2 PT3) PT4) iq1 T1 HT1.out _).mono ?_
  rintro e v11 ⟨rfl, b⟩
  replace hB := hB.trans (b.mono hB.size)
  replace hS := hS.below b
  replace Hr2 := Hr2.below b
  replace Hr3 := Hr3.below b
  replace Hr4 := Hr4.below b
  replace Hr5 := Hr5.below b
  replace Hr6 := Hr6.below b
  replace AG8 := AG8.below' b
  replace AG9 := AG9.below' b
  clear b
  refine ⟨hS, ?_⟩
  refine wpAnyZ_one (i := 18) (by kernel_rfl) ?_
  unfold wpOp
  go_simp
  left
  refine (rjoin_v r6 r4 (add ok PT2 PT3) PT4 r5 _ Hr6 Hr4 Hr5).mono ?_
  rintro e v12 ⟨r12, rfl, Hr12n, b⟩
  replace hB := hB.trans (b.mono hB.size)
  replace hS := hS.below b
  replace Hr2 := Hr2.below b
  replace Hr3 := Hr3.below b
  replace Hr4 := Hr4.below b
  replace Hr5 := Hr5.below b
  replace Hr6 := Hr6.below b
  replace AG8 := AG8.below' b
  replace AG9 := AG9.below' b
  clear b
  have Hr12 := Hr12n
  clear Hr12n
  refine ⟨hS, ?_⟩
  refine wpAnyZ_one (i := 19) (by kernel_rfl) ?_
  unfold wpOp
  go_simp
  left
  refine (rtext_v r12 (add ok (add ok PT2 PT3) PT4) T1 _ Hr12 HT1.out).mono ?_
  rintro e v13 ⟨rfl, b⟩
  replace hB := hB.trans (b.mono hB.size)
  replace hS := hS.below b
  replace Hr2 := Hr2.below b
  replace Hr3 := Hr3.below b
  replace Hr4 := Hr4.below b
  replace Hr5 := Hr5.below b
  replace Hr6 := Hr6.below b
  replace Hr12 := Hr12.below b
  replace AG8 := AG8.below' b
  replace AG9 := AG9.below' b
  clear b
  refine ⟨hS, ?_⟩
  refine wpAnyZ_takeL 20 rfl (by kernel_rfl) (by kernel_rfl) (by kernel_rfl) (by kernel_rfl) (by kernel_rfl) (fun _ _ _ h => h) (yieldsIf_eqlk rfl _ _ rfl T1 T1 rfl rfl true kT1 kT1 (decide_eq_true rfl)) hS ?_
  simp only [Act.put, List.setIfInBounds_toArray, List.set_cons_zero, List.set_cons_succ]
  refine wpAnyZ_takeL 21 rfl (by kernel_rfl) (by kernel_rfl) (by kernel_rfl) (by kernel_rfl) (by kernel_rfl) (fun _ _ _ h => h) (yieldsIf_pick rfl _ _ _ rfl true rfl _ rfl) hS ?_
  simp only [Act.put, List.setIfInBounds_toArray, List.set_cons_zero, List.set_cons_succ]
  refine wpAnyZ_takeL 22 rfl (by kernel_rfl) (by kernel_rfl) (by kernel_rfl) (by kernel_rfl) (by kernel_rfl) (fun _ _ _ h => h) (yieldsIf_move rfl _ rfl (.bool true) rfl) hS ?_
  simp only [Act.put, List.setIfInBounds_toArray, List.set_cons_zero, List.set_cons_succ]
  refine wpAnyZ_takeL 23 rfl (by kernel_rfl) (by kernel_rfl) (by kernel_rfl) (by kernel_rfl) (by kernel_rfl) (fun _ _ _ h => h) (show YieldsIf _ _ _ _ (PV p2) _ from yieldsIf_load rfl 38 _ rfl (B1) rfl 38 _ _ (.tail _ (.tail _ (.tail _ (.tail _ (.tail _ (.tail _ (.head _))))))) Tryd.underlying38 rfl (info_Pc _)) hS ?_
  simp only [Act.put, List.setIfInBounds_toArray, List.set_cons_zero, List.set_cons_succ]
  refine wpAnyZ_takeL 24 rfl (by kernel_rfl) (by kernel_rfl) (by kernel_rfl) (by kernel_rfl) (by kernel_rfl) (fun _ _ _ h => h) (show YieldsIf _ _ _ _ (PV p2) _ from yieldsIf_load rfl 38 _ rfl (B1) rfl 38 _ _ (.tail _ (.tail _ (.tail _ (.tail _ (.tail _ (.tail _ (.head _))))))) Tryd.underlying38 rfl (info_Pc _)) hS ?_
  simp only [Act.put, List.setIfInBounds_toArray, List.set_cons_zero, List.set_cons_succ]
  refine wpAnyZ_takeL 28 rfl (by kernel_rfl) (by kernel_rfl) (by kernel_rfl) (by kernel_rfl) (by kernel_rfl) (fun _ _ _ h => h) (show YieldsIf _ _ _ _ (RW r2) _ from yieldsIf_load rfl 42 _ rfl (B2) rfl 42 _ _ (.tail _ (.tail _ (.tail _ (.tail _ (.tail _ (.head _)))))) Tryd.underlying42 rfl (info_Rc _)) hS ?_
  simp only [Act.put, List.setIfInBounds_toArray, List.set_cons_zero, List.set_cons_succ]
  refine wpAnyZ_takeL 29 rfl (by kernel_rfl) (by kernel_rfl) (by kernel_rfl) (by kernel_rfl) (by kernel_rfl) (fun _ _ _ h => h) (show YieldsIf _ _ _ _ (RW r2) _ from yieldsIf_load rfl 42 _ rfl (B2) rfl 42 _ _ (.tail _ (.tail _ (.tail _ (.tail _ (.tail _ (.head _)))))) Tryd.underlying42 rfl (info_Rc _)) hS ?_
  simp only [Act.put, List.setIfInBounds_toArray, List.set_cons_zero, List.set_cons_succ]
  refine wpAnyZ_takeL 30 rfl (by kernel_rfl) (by kernel_rfl) (by kernel_rfl) (by kernel_rfl) (by kernel_rfl) (fun _ _ _ h => h) (yieldsIf_move rfl _ rfl r5 rfl) hS ?_
  simp only [Act.put, List.setIfInBounds_toArray, List.set_cons_zero, List.set_cons_succ]
  refine wpAnyZ_points 25 rfl (by kernel_rfl) rfl 2 _ rfl [p2, p2] (parts2 rfl rfl) rfl (by decide) (by decide) (fun W b => hS.below b) ?_
  intro G10 CG10 AG10 b mG10
  replace hB := hB.trans (b.mono hB.size)
  replace hS := hS.below b
  replace Hr2 := Hr2.below b
  replace Hr3 := Hr3.below b
  replace Hr4 := Hr4.below b
  replace Hr5 := Hr5.below b
  replace Hr6 := Hr6.below b
  replace Hr12 := Hr12.below b
  replace AG8 := AG8.below' b
  replace AG9 := AG9.below' b
  clear b mG10
  simp only [Act.put, List.setIfInBounds_toArray, List.set_cons_zero, List.set_cons_succ]
  obtain ⟨q2, hq2⟩ : ∃ q : P4, q = psum [p2, p2] := ⟨_, rfl⟩
  have iq2 : q2.Is (add ok PT2 PT2) := by rw [hq2]; exact psum2 ip2 ip2
  have Hq2 := Lib.hid hq2
  clear hq2
  refine wpAnyZ_one (i := 26) (by kernel_rfl) ?_
  unfold wpOp
  go_simp
  left
  refine (add_d2 p2 p2 q2 ip2.ok ip2.ok G10 _ AG10 (hS.rngAt _ _ (.tail _ (.tail _ (.tail _ (.tail _ (.tail _ (.tail _ (.tail _ (.tail _ (.tail _ (.tail _ (.tail _ (.tail _ (.head _)))))))))))))) Hq2.out).mono ?_
  rintro e v14 ⟨rfl, b⟩
  replace hB := hB.trans (b.mono hB.size)
  replace hS := hS.below b
  replace Hr2 := Hr2.below b
  replace Hr3 := Hr3.below b
  replace Hr4 := Hr4.below b
  replace Hr5 := Hr5.below b
  replace Hr6 := Hr6.below b
  replace Hr12 := Hr12.below b
  replace AG8 := AG8.below' b
  replace AG9 := AG9.below' b
  replace AG10 := AG10.below' b
  clear b
  refine ⟨hS, ?_⟩
  obtain ⟨T2, hT2⟩ : ∃ t : Nat, t = textN (add ok PT2 PT2) := ⟨_, rfl⟩
  have kT2 : T2 < p256 := by rw [hT2]; exact textN_lt _
  have HT2 := Lib.hid hT2
  clear hT2
  refine wpAnyZ_one (i := 27) (by kernel_rfl) ?_
  unfold wpOp
  go_simp
  left
  refine (cenc q2 (add ok PT2 PT2) iq2 T2 HT2.out _).mono ?_
  rintro e v15 ⟨rfl, b⟩
  replace hB := hB.trans (b.mono hB.size)
  replace hS := hS.below b
  replace Hr2 := Hr2.below b
  replace Hr3 := Hr3.below b
  replace Hr4 := Hr4.below b
  replace Hr5 := Hr5.below b
  replace Hr6 := Hr6.below b
  replace Hr12 := Hr12.below b
  replace AG8 := AG8.below' b
  replace AG9 := AG9.below' b
  replace AG10 := AG10.below' b
  clear b
  refine ⟨hS, ?_⟩
  refine wpAnyZ_one (i := 31) (by kernel_rfl) ?_
  unfold wpOp
  go_simp
  left
  refine (rjoin_v r2 r2 PT2 PT2 r5 _ Hr2 Hr2 Hr5).mono ?_
  rintro e v16 ⟨r16, rfl, Hr16n, b⟩
  replace hB := hB.trans (b.mono hB.size)
  replace hS := hS.below b
  replace Hr2 := Hr2.below b
  replace Hr3 := Hr3.below b
  replace Hr4 := Hr4.below b
  replace Hr5 := Hr5.below b
  replace Hr6 := Hr6.below b
  replace Hr12 := Hr12.below b
  replace AG8 := AG8.below' b
  replace AG9 := AG9.below' b
  replace AG10 := AG10.below' b
  clear b
  have Hr16 := Hr16n
  clear Hr16n
  refine ⟨hS, ?_⟩
  refine wpAnyZ_one (i := 32) (by kernel_rfl) ?_
  unfold wpOp
  go_simp
  left
  refine (rtext_v r16 (add ok PT2 PT2) T2 _ Hr16 HT2.out).mono ?_
  rintro e v17 ⟨rfl, b⟩
  replace hB := hB.trans (b.mono hB.size)
  replace hS := hS.below b
  replace Hr2 := Hr2.below b
  replace Hr3 := Hr3.below b
  replace Hr4 := Hr4.below b
  replace Hr5 := Hr5.below b
  replace Hr6 := Hr6.below b
  replace Hr12 := Hr12.below b
  replace Hr16 := Hr16.below b
  replace AG8 := AG8.below' b
  replace AG9 := AG9.below' b
  replace AG10 := AG10.below' b
  clear b
  refine ⟨hS, ?_⟩
  refine wpAnyZ_takeL 33 rfl (by kernel_rfl) (by kernel_rfl) (by kernel_rfl) (by kernel_rfl) (by kernel_rfl) (fun _ _ _ h => h) (yieldsIf_eqlk rfl _ _ rfl T2 T2 rfl rfl true kT2 kT2 (decide_eq_true rfl)) hS ?_
  simp only [Act.put, List.setIfInBounds_toArray, List.set_cons_zero, List.set_cons_succ]
  refine wpAnyZ_takeL 34 rfl (by kernel_rfl) (by kernel_rfl) (by kernel_rfl) (by kernel_rfl) (by kernel_rfl) (fun _ _ _ h => h) (yieldsIf_pick rfl _ _ _ rfl true rfl _ rfl) hS ?_
  simp only [Act.put, List.setIfInBounds_toArray, List.set_cons_zero, List.set_cons_succ]
  refine wpAnyZ_takeL 35 rfl (by kernel_rfl) (by kernel_rfl) (by kernel_rfl) (by kernel_rfl) (by kernel_rfl) (fun _ _ _ h => h) (yieldsIf_move rfl _ rfl (.bool true) rfl) hS ?_
  simp only [Act.put, List.setIfInBounds_toArray, List.set_cons_zero, List.set_cons_succ]
  refine wpAnyZ_takeL 36 rfl (by kernel_rfl) (by kernel_rfl) (by kernel_rfl) (by kernel_rfl) (by kernel_rfl) (fun _ _ _ h => h) (show YieldsIf _ _ _ _ (PV p2) _ from yieldsIf_load rfl 38 _ rfl (B1) rfl 38 _ _ (.tail _ (.tail _ (.tail _ (.tail _ (.tail _ (.tail _ (.head _))))))) Tryd.underlying38 rfl (info_Pc _)) hS ?_
  simp only [Act.put, List.setIfInBounds_toArray, List.set_cons_zero, List.set_cons_succ]
  refine wpAnyZ_takeL 39 rfl (by kernel_rfl) (by kernel_rfl) (by kernel_rfl) (by kernel_rfl) (by kernel_rfl) (fun _ _ _ h => h) (show YieldsIf _ _ _ _ (PV p2) _ from yieldsIf_load rfl 38 _ rfl (B1) rfl 38 _ _ (.tail _ (.tail _ (.tail _ (.tail _ (.tail _ (.tail _ (.head _))))))) Tryd.underlying38 rfl (info_Pc _)) hS ?_
  simp only [Act.put, List.setIfInBounds_toArray, List.set_cons_zero, List.set_cons_succ]
  refine wpAnyZ_points 37 rfl (by kernel_rfl) rfl 1 _ rfl [p2] (parts1 rfl) rfl (by decide) (by decide) (fun W b => hS.below b) ?_
  intro G11 CG11 AG11 b mG11
  replace hB := hB.trans (b.mono hB.size)
  replace hS := hS.below b
  replace Hr2 := Hr2.below b
  replace Hr3 := Hr3.below b
  replace Hr4 := Hr4.below b
  replace Hr5 := Hr5.below b
  replace Hr6 := Hr6.below b
  replace Hr12 := Hr12.below b
  replace Hr16 := Hr16.below b
  replace AG8 := AG8.below' b
  replace AG9 := AG9.below' b
  replace AG10 := AG10.below' b
  clear b mG11
  simp only [Act.put, List.setIfInBounds_toArray, List.set_cons_zero, List.set_cons_succ]
  obtain ⟨q3, hq3⟩ : ∃ q : P4, q = psum [p2] := ⟨_, rfl⟩
  have iq3 : q3.Is PT2 := by rw [hq3]; exact psum1 ip2
  have Hq3 := Lib.hid hq3
  clear hq3
  refine wpAnyZ_one (i := 38) (by kernel_rfl) ?_
  unfold wpOp
  go_simp
  left
  refine (add_d1 p2 q3 ip2.ok G11 _ AG11 (hS.rngAt _ _ (.tail _ (.tail _ (.tail _ (.tail _ (.tail _ (.tail _ (.tail _ (.tail _ (.tail _ (.tail _ (.tail _ (.tail _ (.head _)))))))))))))) Hq3.out).mono ?_
  rintro e v18 ⟨rfl, b⟩
  replace hB := hB.trans (b.mono hB.size)
  replace hS := hS.below b
  replace Hr2 := Hr2.below b
  replace Hr3 := Hr3.below b
  replace Hr4 := Hr4.below b
  replace Hr5 := Hr5.below b
  replace Hr6 := Hr6.below b
  replace Hr12 := Hr12.below b
  replace Hr16 := Hr16.below b
  replace AG8 := AG8.below' b
  replace AG9 := AG9.below' b
  replace AG10 := AG10.below' b
  replace AG11 := AG11.below' b
  clear b
  refine ⟨hS, ?_⟩
  refine wpAnyZ_one (i := 40) (by kernel_rfl) ?_
  unfold wpOp
  go_simp
  left
  refine (csame q3 p2 PT2 PT2 iq3 ip2 true (decide_eq_true rfl) _).mono ?_
  rintro e v19 ⟨rfl, b⟩
  replace hB := hB.trans (b.mono hB.size)
  replace hS := hS.below b
  replace Hr2 := Hr2.below b
  replace Hr3 := Hr3.below b
  replace Hr4 := Hr4.below b
  replace Hr5 := Hr5.below b
  replace Hr6 := Hr6.below b
  replace Hr12 := Hr12.below b
  replace Hr16 := Hr16.below b
  replace AG8 := AG8.below' b
  replace AG9 := AG9.below' b
  replace AG10 := AG10.below' b
  replace AG11 := AG11.below' b
  clear b
  refine ⟨hS, ?_⟩
  refine wpAnyZ_takeL 41 rfl (by kernel_rfl) (by kernel_rfl) (by kernel_rfl) (by kernel_rfl) (by kernel_rfl) (fun _ _ _ h => h) (yieldsIf_pick rfl _ _ _ rfl true rfl _ rfl) hS ?_
  simp only [Act.put, List.setIfInBounds_toArray, List.set_cons_zero, List.set_cons_succ]
  refine wpAnyZ_takeL 42 rfl (by kernel_rfl) (by kernel_rfl) (by kernel_rfl) (by kernel_rfl) (by kernel_rfl) (fun _ _ _ h => h) (yieldsIf_move rfl _ rfl (.bool true) rfl) hS ?_
  simp only [Act.put, List.setIfInBounds_toArray, List.set_cons_zero, List.set_cons_succ]
  refine wpAnyZ_one (i := 43) (by kernel_rfl) ?_
  unfold wpOp
  go_simp
  left
  refine (cadd_nil _ (hS.rngAt _ _ (.tail _ (.tail _ (.tail _ (.tail _ (.tail _ (.tail _ (.tail _ (.tail _ (.tail _ (.tail _ (.tail _ (.tail _ (.head _))))))))))))))).mono ?_
  rintro e v20 ⟨rfl, b⟩
  replace hB := hB.trans (b.mono hB.size)
  replace hS := hS.below b
  replace Hr2 := Hr2.below b
  replace Hr3 := Hr3.below b
  replace Hr4 := Hr4.below b
  replace Hr5 := Hr5.below b
  replace Hr6 := Hr6.below b
  replace Hr12 := Hr12.below b
  replace Hr16 := Hr16.below b
  replace AG8 := AG8.below' b
  replace AG9 := AG9.below' b
  replace AG10 := AG10.below' b
  replace AG11 := AG11.below' b
  clear b
  refine ⟨hS, ?_⟩
  refine wpAnyZ_one (i := 44) (by kernel_rfl) ?_
  unfold wpOp
  go_simp
  left
  refine (czero_v _).mono ?_
  rintro e v21 ⟨rfl, b⟩
  replace hB := hB.trans (b.mono hB.size)
  replace hS := hS.below b
  replace Hr2 := Hr2.below b
  replace Hr3 := Hr3.below b
  replace Hr4 := Hr4.below b
  replace Hr5 := Hr5.below b
  replace Hr6 := Hr6.below b
  replace Hr12 := Hr12.below b
  replace Hr16 := Hr16.below b
  replace AG8 := AG8.below' b
  replace AG9 := AG9.below' b
  replace AG10 := AG10.below' b
  replace AG11 := AG11.below' b
  clear b
  refine ⟨hS, ?_⟩
  refine wpAnyZ_one (i := 45) (by kernel_rfl) ?_
  unfold wpOp
  go_simp
  left
  refine (csame pzero pzero (zero dd) (zero dd) ipzero ipzero true (decide_eq_true rfl) _).mono ?_
  rintro e v22 ⟨rfl, b⟩
  replace hB := hB.trans (b.mono hB.size)
  replace hS := hS.below b
  replace Hr2 := Hr2.below b
  replace Hr3 := Hr3.below b
  replace Hr4 := Hr4.below b
  replace Hr5 := Hr5.below b
  replace Hr6 := Hr6.below b
  replace Hr12 := Hr12.below b
  replace Hr16 := Hr16.below b
  replace AG8 := AG8.below' b
  replace AG9 := AG9.below' b
  replace AG10 := AG10.below' b
  replace AG11 := AG11.below' b
  clear b
  refine ⟨hS, ?_⟩
  refine wpAnyZ_takeL 46 rfl (by kernel_rfl) (by kernel_rfl) (by kernel_rfl) (by kernel_rfl) (by kernel_rfl) (fun _ _ _ h => h) (yieldsIf_pick rfl _ _ _ rfl true rfl _ rfl) hS ?_
  simp only [Act.put, List.setIfInBounds_toArray, List.set_cons_zero, List.set_cons_succ]
  refine wpAnyZ_takeL 47 rfl (by kernel_rfl) (by kernel_rfl) (by kernel_rfl) (by kernel_rfl) (by kernel_rfl) (fun _ _ _ h => h) (yieldsIf_move rfl _ rfl (.bool true) rfl) hS ?_
  simp only [Act.put, List.setIfInBounds_toArray, List.set_cons_zero, List.set_cons_succ]
  refine wpAnyZ_takeL 48 rfl (by kernel_rfl) (by kernel_rfl) (by kernel_rfl) (by kernel_rfl) (by kernel_rfl) (fun _ _ _ h => h) (show YieldsIf _ _ _ _ (PV p2) _ from yieldsIf_load rfl 38 _ rfl (B1) rfl 38 _ _ (.tail _ (.tail _ (.tail _ (.tail _ (.tail _ (.tail _ (.head _))))))) Tryd.underlying38 rfl (info_Pc _)) hS ?_
  simp only [Act.put, List.setIfInBounds_toArray, List.set_cons_zero, List.set_cons_succ]
  refine wpAnyZ_takeL 49 rfl (by kernel_rfl) (by kernel_rfl) (by kernel_rfl) (by kernel_rfl) (by kernel_rfl) (fun _ _ _ h => h) (show YieldsIf _ _ _ _ (PV p2) _ from yieldsIf_load rfl 38 _ rfl (B1) rfl 38 _ _ (.tail _ (.tail _ (.tail _ (.tail _ (.tail _ (.tail _ (.head _))))))) Tryd.underlying38 rfl (info_Pc _)) hS ?_
  simp only [Act.put, List.setIfInBounds_toArray, List.set_cons_zero, List.set_cons_succ]
  obtain ⟨q4, hq4⟩ : ∃ q : P4, q = pneg p2 := ⟨_, rfl⟩
  have iq4 : q4.Is (neg PT2) := by rw [hq4]; exact pneg_is ip2
  have Hq4 := Lib.hid hq4
  clear hq4
  refine wpAnyZ_one (i := 50) (by kernel_rfl) ?_
  unfold wpOp
  go_simp
  left
  refine (neg_d p2 q4 ip2.ok Hq4.out _).mono ?_
  rintro e v23 ⟨rfl, b⟩
  replace hB := hB.trans (b.mono hB.size)
  replace hS := hS.below b
  replace Hr2 := Hr2.below b
  replace Hr3 := Hr3.below b
  replace Hr4 := Hr4.below b
  replace Hr5 := Hr5.below b
  replace Hr6 := Hr6.below b
  replace Hr12 := Hr12.below b
  replace Hr16 := Hr16.below b
  replace AG8 := AG8.below' b
  replace AG9 := AG9.below' b
  replace AG10 := AG10.below' b
  replace AG11 := AG11.below' b
  clear b
  refine ⟨hS, ?_⟩
  refine wpAnyZ_points 51 rfl (by kernel_rfl) rfl 2 _ rfl [p2, q4] (parts2 rfl rfl) rfl (by decide) (by decide) (fun W b => hS.below b) ?_
  intro G12 CG12 AG12 b mG12
  replace hB := hB.trans (b.mono hB.size)
  replace hS := hS.below b
  replace Hr2 := Hr2.below b
  replace Hr3 := Hr3.below b
  replace Hr4 := Hr4.below b
  replace Hr5 := Hr5.below b
  replace Hr6 := Hr6.below b
  replace Hr12 := Hr12.below b
  replace Hr16 := Hr16.below b
  replace AG8 := AG8.below' b
  replace AG9 := AG9.below' b
  replace AG10 := AG10.below' b
  replace AG11 := AG11.below' b
  clear b mG12
  simp only [Act.put, List.setIfInBounds_toArray, List.set_cons_zero, List.set_cons_succ]
  obtain ⟨q5, hq5⟩ : ∃ q : P4, q = psum [p2, q4] := ⟨_, rfl⟩
  have iq5 : q5.Is (add ok PT2 (neg PT2)) := by rw [hq5]; exact psum2 ip2 iq4
  have Hq5 := Lib.hid hq5
  clear hq5
  refine wpAnyZ_one (i := 52) (by kernel_rfl) ?_
  unfold wpOp
  go_simp
  left
  refine (add_d2 p2 q4 q5 ip2.ok iq4.ok G12 _ AG12 (hS.rngAt _ _ (.tail _ (.tail _ (.tail _ (.tail _ (.tail _ (.tail _ (.tail _ (.tail _ (.tail _ (.tail _ (.tail _ (.tail _ (.head _)))))))))))))) Hq5.out).mono ?_
  rintro e v24 ⟨rfl, b⟩
  replace hB := hB.trans (b.mono hB.size)
  replace hS := hS.below b
  replace Hr2 := Hr2.below b
  replace Hr3 := Hr3.below b
  replace Hr4 := Hr4.below b
  replace Hr5 := Hr5.below b
  replace Hr6 := Hr6.below b
  replace Hr12 := Hr12.below b
  replace Hr16 := Hr16.below b
  replace AG8 := AG8.below' b
  replace AG9 := AG9.below' b
  replace AG10 := AG10.below' b
  replace AG11 := AG11.below' b
  replace AG12 := AG12.below' b
  clear b
  refine ⟨hS, ?_⟩
  refine wpAnyZ_one (i := 53) (by kernel_rfl) ?_
  unfold wpOp
  go_simp
  left
  refine (czero_v _).mono ?_
  rintro e v25 ⟨rfl, b⟩
  replace hB := hB.trans (b.mono hB.size)
  replace hS := hS.below b
  replace Hr2 := Hr2.below b
  replace Hr3 := Hr3.below b
  replace Hr4 := Hr4.below b
  replace Hr5 := Hr5.below b
  replace Hr6 := Hr6.below b
  replace Hr12 := Hr12.below b
  replace Hr16 := Hr16.below b
  replace AG8 := AG8.below' b
  replace AG9 := AG9.below' b
  replace AG10 := AG10.below' b
  replace AG11 := AG11.below' b
  replace AG12 := AG12.below' b
  clear b
  refine ⟨hS, ?_⟩
  refine wpAnyZ_one (i := 54) (by kernel_rfl) ?_
  unfold wpOp
  go_simp
  left
  refine (csame q5 pzero (add ok PT2 (neg PT2)) (zero dd) iq5 ipzero true (decide_eq_true (by rw [Ed.add_neg])) _).mono ?_
  rintro e v26 ⟨rfl, b⟩
  replace hB := hB.trans (b.mono hB.size)
  replace hS := hS.below b
  replace Hr2 := Hr2.below b
  replace Hr3 := Hr3.below b
  replace Hr4 := Hr4.below b
  replace Hr5 := Hr5.below b
  replace Hr6 := Hr6.below b
  replace Hr12 := Hr12.below b
  replace Hr16 := Hr16.below b
  replace AG8 := AG8.below' b
  replace AG9 := AG9.below' b
  replace AG10 := AG10.below' b
  replace AG11 := AG11.below' b
  replace AG12 := AG12.below' b
  clear b
  refine ⟨hS, ?_⟩
  refine wpAnyZ_takeL 55 rfl (by kernel_rfl) (by kernel_rfl) (by kernel_rfl) (by kernel_rfl) (by kernel_rfl) (fun _ _ _ h => h) (yieldsIf_pick rfl _ _ _ rfl true rfl _ rfl) hS ?_
  simp only [Act.put, List.setIfInBounds_toArray, List.set_cons_zero, List.set_cons_succ]
  refine wpAnyZ_one (i := 56) (by kernel_rfl) ?_
  unfold wpOp
  go_simp
  left
  refine wpAnyZ_done (by kernel_rfl) ?_ _
  go_wp2
  exact bodyPost_ret (results_tmp rfl _ _ _) rfl ⟨rfl, hB⟩
end Go.Proofs.YtjaomgildhiddaaDoor
