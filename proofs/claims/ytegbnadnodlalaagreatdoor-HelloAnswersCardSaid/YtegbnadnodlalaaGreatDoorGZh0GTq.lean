/- sign's Verify (printed by gencurve.py). Awake (printed by gencurve.py). The tables, out of the rows' own condition. The package's three variables, out of the rows' own condition. -/
import Derived.Test.YtegbnadnodlalaaGreatDoorGZf
import Derived.Test.YtegbnadnodlalaaGreatDoorGPj
import Derived.Test.YtegbnadnodlalaaGreatDoorGZg
import Derived.Test.YtegbnadnodlalaaGreatDoorRows
import Derived.Test.YtegbnadnodlalaaGreatDoorGHi0GSa
import Derived.LaidMore
import Derived.Lib.LaidTab
import Derived.ProofKit
import Derived.OpenShut
import Derived.Stop.Joined
import Derived.Stop.LaidErr
import Derived.Test.YtegbnadnodlalaaGreatDoorGPn0GZd
namespace Go.Proofs.YtegbnadnodlalaaGreatDoor
open Go.RowKit
open Ed
open H5 (NI NI_length NI_inj Bytes BA SB SP sha sha_length sha_bytes sum512_l Tab Sq)
set_option maxHeartbeats 8000000 in
set_option maxRecDepth 100000 in
theorem verify_n (cu sq : Nat → Nat) (bv : Value) (l : List Nat) (bl : Bytes l) (ln : l.length < 1152921504606846976) (NU NF NS : Nat) (A : Pt dd) (hA : textN A = NU) (kNF : NF < p256) (kNS : NS < ell) (c : Bool) (hc : decide (textN (add ok (times ok NS bb) (neg (times ok (chalN cu sq NF NU l) A))) = NF) = c) (w : World) (T : Tab w cu) (SQ : Sq w sq) (hb : SB w bv l) (GX : Rng w 1 (Iv .u8 (keyOf bxN))) (GY : Rng w 2 (Iv .u8 (keyOf byN))) (GD : Rng w 3 (Iv .u8 (keyOf dN))) :
  Calls Tryz.prog 33 #[Key (keyOf NU), bv, .agg (Iv .u8 (Sg NF NS))] w fun e w' => e = .returned (.bool c) ∧ Below w.heap.size w w' := by
 have bGX := GX.blk
 have bGY := GY.blk
 have bGD := GD.blk
 have ipbase := pbase_is
 have bT := T.blk
 have bSQ := SQ.blk
 have kNU : NU < p256 := hA ▸ textN_lt A
 have kNSl := kNS
 replace kNS : NS < p256 := Nat.lt_trans kNS ell_p256
 obtain ⟨NK, hNK⟩ : ∃ t, t = chalN cu sq NF NU l := ⟨_, rfl⟩
 have kNK : NK < p256 := hNK ▸ redN_p _
 rw [← hNK] at hc
 have HA := Lib.hid hA
 clear hA
 have HC := Lib.hid hc
 clear hc
 have HNK := Lib.hid hNK
 clear hNK
 unfold Key
 go_enter Tryz.func33, Tryz.ntmps33
 go_upto_region 1 with fail
 generalize hW : World.alloc (World.alloc w _) _ = W
 have hB : Below w.heap.size w W := hW ▸ ((Below.refl w.heap.size w).alloc (Nat.le_refl _) _).alloc (by simp) _
 have K0 : Blk W (w.heap.size) 23 (Iv .u8 (keyOf NU)) := hW ▸ ((Blk.new' (by simp) _ _).alloc _)
 have K1 : Blk W (w.heap.size + 1) 48 (Iv .u8 (Sg NF NS)) := hW ▸ (Blk.new' (by simp) _ _)
 have hS : Facts [.blk (w.heap.size) 23 (Iv .u8 (keyOf NU)), .blk (w.heap.size + 1) 48 (Iv .u8 (Sg NF NS)), .bel w] W := Facts.cons (f := .blk (w.heap.size) 23 (Iv .u8 (keyOf NU))) K0 (Facts.cons (f := .blk (w.heap.size + 1) 48 (Iv .u8 (Sg NF NS))) K1 (Facts.cons (f := .bel w) hB Facts.nil))
 clear hW K0 K1
 refine wp_region_seq ?_
 refine wpSeq_yield (S := Facts [.blk (w.heap.size) 23 (Iv .u8 (keyOf NU)), .blk (w.heap.size + 1) 48 (Iv .u8 (Sg NF NS)), .bel w]) (show YieldsIf _ _ _ _ (.agg (Iv .u8 (Sg NF NS))) _ from yieldsIf_load rfl 48 _ rfl (w.heap.size + 1) rfl 48 _ _ (.tail _ (.head _)) Tryz.underlying48 rfl (info_Sg _ _)) hS ?_
 simp only [Act.put, List.setIfInBounds_toArray, List.set_cons_zero, List.set_cons_succ]
 refine wpSeq_wp rfl ?_
 go_simp
 refine (halves_n NF NS _).mono ?_
 rintro e v1 ⟨rfl, b⟩
 replace hB := hB.trans (b.mono hB.size)
 replace hS := hS.below b
 clear b
 show wpSeq _ _ _ _ _ _
 refine wpSeq_yield (S := Facts [.blk (w.heap.size) 23 (Iv .u8 (keyOf NU)), .blk (w.heap.size + 1) 48 (Iv .u8 (Sg NF NS)), .bel w]) (yieldsIf_move rfl _ rfl _ rfl) hS ?_
 simp only [Act.put, List.setIfInBounds_toArray, List.set_cons_zero, List.set_cons_succ]
 refine wpSeq_yield (S := Facts [.blk (w.heap.size) 23 (Iv .u8 (keyOf NU)), .blk (w.heap.size + 1) 48 (Iv .u8 (Sg NF NS)), .bel w]) (show YieldsIf _ _ _ _ (Key (keyOf NF)) _ from yieldsIf_extract rfl _ _ rfl _ rfl _ rfl) hS ?_
 simp only [Act.put, List.setIfInBounds_toArray, List.set_cons_zero, List.set_cons_succ]
 refine wpSeq_yield (S := Facts [.blk (w.heap.size) 23 (Iv .u8 (keyOf NU)), .blk (w.heap.size + 1) 48 (Iv .u8 (Sg NF NS)), .bel w]) (show YieldsIf _ _ _ _ (Key (keyOf NS)) _ from yieldsIf_extract rfl _ _ rfl _ rfl _ rfl) hS ?_
 simp only [Act.put, List.setIfInBounds_toArray, List.set_cons_zero, List.set_cons_succ]
 refine wpSeq_allocQ 23 (Iv .u8 (List.replicate 32 0)) rfl (fun W => by go_simp; rfl) ?_
 intro B1 C1 AB1 b mB1
 simp only [Act.put, List.setIfInBounds_toArray, List.set_cons_zero, List.set_cons_succ]
 have hb := b
 clear b
 refine wpSeq_allocQ 23 (Iv .u8 (List.replicate 32 0)) rfl (fun W => by go_simp; rfl) ?_
 intro B2 C2 AB2 b mB2
 simp only [Act.put, List.setIfInBounds_toArray, List.set_cons_zero, List.set_cons_succ]
 have dB1_B2 : B1 < B2 := Nat.lt_of_lt_of_le AB1.lt mB2
 replace AB1 := AB1.below' b
 replace mB2 := Nat.le_trans hb.size mB2
 replace hb := hb.trans (b.mono hb.size)
 clear b
 refine wpSeq_store_row rfl 23 _ _ rfl (B1) (Iv .u8 (keyOf NF)) rfl rfl _ _ AB1 (info_key _ (keyOf_length _)) (by simp only [Iv_size, keyOf_length, Sg_length, List.length_replicate]) (Iv_one _ _) ?_
 try simp only [Act.put, List.setIfInBounds_toArray, List.set_cons_zero, List.set_cons_succ]
 replace AB2 := AB2.rowFar (k := B1) (by omega) (Iv .u8 (keyOf NF))
 replace AB1 := AB1.row (Iv .u8 (keyOf NF))
 replace hb := below_setRow hb mB1 (Iv .u8 (keyOf NF))
 generalize hWn : World.setRow _ _ _ = Wn at *
 clear hWn
 refine wpSeq_store_row rfl 23 _ _ rfl (B2) (Iv .u8 (keyOf NS)) rfl rfl _ _ AB2 (info_key _ (keyOf_length _)) (by simp only [Iv_size, keyOf_length, Sg_length, List.length_replicate]) (Iv_one _ _) ?_
 try simp only [Act.put, List.setIfInBounds_toArray, List.set_cons_zero, List.set_cons_succ]
 replace AB1 := AB1.rowFar (k := B2) (by omega) (Iv .u8 (keyOf NS))
 replace AB2 := AB2.row (Iv .u8 (keyOf NS))
 replace hb := below_setRow hb mB2 (Iv .u8 (keyOf NS))
 generalize hWn : World.setRow _ _ _ = Wn at *
 clear hWn
 have eB1_0 := Nat.lt_of_lt_of_le (hS.blkAt (w.heap.size) 23 (Iv .u8 (keyOf NU)) (.head _)).lt mB1
 replace mB1 := Nat.le_trans hB.size mB1
 have eB2_0 := Nat.lt_of_lt_of_le (hS.blkAt (w.heap.size) 23 (Iv .u8 (keyOf NU)) (.head _)).lt mB2
 replace mB2 := Nat.le_trans hB.size mB2
 replace hB := hB.trans (hb.mono hB.size)
 replace hS := hS.below hb
 clear hb
 replace hS : Facts [.blk (B1) 23 (Iv .u8 (keyOf NF)), .blk (w.heap.size) 23 (Iv .u8 (keyOf NU)), .blk (w.heap.size + 1) 48 (Iv .u8 (Sg NF NS)), .bel w] _ := Facts.cons (f := .blk B1 23 (Iv .u8 (keyOf NF))) AB1 hS
 clear AB1
 replace hS : Facts [.blk (B2) 23 (Iv .u8 (keyOf NS)), .blk (B1) 23 (Iv .u8 (keyOf NF)), .blk (w.heap.size) 23 (Iv .u8 (keyOf NU)), .blk (w.heap.size + 1) 48 (Iv .u8 (Sg NF NS)), .bel w] _ := Facts.cons (f := .blk B2 23 (Iv .u8 (keyOf NS))) AB2 hS
 clear AB2
 refine wpSeq_nil ?_
 go_upto_region 2 with fail
 refine wp_region_seq ?_
 refine wpSeq_yield (S := Facts [.blk (B2) 23 (Iv .u8 (keyOf NS)), .blk (B1) 23 (Iv .u8 (keyOf NF)), .blk (w.heap.size) 23 (Iv .u8 (keyOf NU)), .blk (w.heap.size + 1) 48 (Iv .u8 (Sg NF NS)), .bel w]) (show YieldsIf _ _ _ _ (Key (keyOf NU)) _ from yieldsIf_load rfl 23 _ rfl (w.heap.size) rfl 23 _ _ (.tail _ (.tail _ (.head _))) Tryz.underlying23 rfl (info_key _ (keyOf_length _))) hS ?_
 simp only [Act.put, List.setIfInBounds_toArray, List.set_cons_zero, List.set_cons_succ]
 refine wpSeq_wp rfl ?_
 go_simp
 refine (cdec_some NU kNU A HA.out _).mono ?_
 rintro e v2 ⟨p2, rfl, ip2, b⟩
 replace hB := hB.trans (b.mono hB.size)
 replace hS := hS.below b
 clear b
 show wpSeq _ _ _ _ _ _
 refine wpSeq_yield (S := Facts [.blk (B2) 23 (Iv .u8 (keyOf NS)), .blk (B1) 23 (Iv .u8 (keyOf NF)), .blk (w.heap.size) 23 (Iv .u8 (keyOf NU)), .blk (w.heap.size + 1) 48 (Iv .u8 (Sg NF NS)), .bel w]) (yieldsIf_move rfl _ rfl _ rfl) hS ?_
 simp only [Act.put, List.setIfInBounds_toArray, List.set_cons_zero, List.set_cons_succ]
 refine wpSeq_yield (S := Facts [.blk (B2) 23 (Iv .u8 (keyOf NS)), .blk (B1) 23 (Iv .u8 (keyOf NF)), .blk (w.heap.size) 23 (Iv .u8 (keyOf NU)), .blk (w.heap.size + 1) 48 (Iv .u8 (Sg NF NS)), .bel w]) (show YieldsIf _ _ _ _ (PV p2) _ from yieldsIf_extract rfl _ _ rfl _ rfl _ rfl) hS ?_
 simp only [Act.put, List.setIfInBounds_toArray, List.set_cons_zero, List.set_cons_succ]
 refine wpSeq_yield (S := Facts [.blk (B2) 23 (Iv .u8 (keyOf NS)), .blk (B1) 23 (Iv .u8 (keyOf NF)), .blk (w.heap.size) 23 (Iv .u8 (keyOf NU)), .blk (w.heap.size + 1) 48 (Iv .u8 (Sg NF NS)), .bel w]) (show YieldsIf _ _ _ _ (.bool true) _ from yieldsIf_extract rfl _ _ rfl _ rfl _ rfl) hS ?_
 simp only [Act.put, List.setIfInBounds_toArray, List.set_cons_zero, List.set_cons_succ]
 refine wpSeq_allocQ 85 (Pc p40) rfl (fun W => by go_simp; rfl) ?_
 intro B3 C3 AB3 b mB3
 simp only [Act.put, List.setIfInBounds_toArray, List.set_cons_zero, List.set_cons_succ]
 have hb := b
 clear b
 refine wpSeq_store_row rfl 85 _ _ rfl (B3) (Pc p2) rfl rfl _ _ AB3 (info_Pc _) (Pc_same _ _) (Pc_one _) ?_
 try simp only [Act.put, List.setIfInBounds_toArray, List.set_cons_zero, List.set_cons_succ]
 replace AB3 := AB3.row (Pc p2)
 replace hb := below_setRow hb mB3 (Pc p2)
 generalize hWn : World.setRow _ _ _ = Wn at *
 clear hWn
 replace mB3 := Nat.le_trans hB.size mB3
 replace hB := hB.trans (hb.mono hB.size)
 replace hS := hS.below hb
 clear hb
 replace hS : Facts [.blk (B3) 85 (Pc p2), .blk (B2) 23 (Iv .u8 (keyOf NS)), .blk (B1) 23 (Iv .u8 (keyOf NF)), .blk (w.heap.size) 23 (Iv .u8 (keyOf NU)), .blk (w.heap.size + 1) 48 (Iv .u8 (Sg NF NS)), .bel w] _ := Facts.cons (f := .blk B3 85 (Pc p2)) AB3 hS
 clear AB3
 refine wpSeq_yield (S := Facts [.blk (B3) 85 (Pc p2), .blk (B2) 23 (Iv .u8 (keyOf NS)), .blk (B1) 23 (Iv .u8 (keyOf NF)), .blk (w.heap.size) 23 (Iv .u8 (keyOf NU)), .blk (w.heap.size + 1) 48 (Iv .u8 (Sg NF NS)), .bel w]) (yieldsIf_assign rfl _ rfl _ rfl) hS ?_
 simp only [Act.put, List.setIfInBounds_toArray, List.set_cons_zero, List.set_cons_succ]
 refine wpSeq_nil ?_
 go_upto_region 3 with fail
 refine wp_region_seq ?_
 refine wpSeq_yield (S := Facts [.blk (B3) 85 (Pc p2), .blk (B2) 23 (Iv .u8 (keyOf NS)), .blk (B1) 23 (Iv .u8 (keyOf NF)), .blk (w.heap.size) 23 (Iv .u8 (keyOf NU)), .blk (w.heap.size + 1) 48 (Iv .u8 (Sg NF NS)), .bel w]) (yieldsIf_move rfl _ rfl _ rfl) hS ?_
 simp only [Act.put, List.setIfInBounds_toArray, List.set_cons_zero, List.set_cons_succ]
 refine wpSeq_yield (S := Facts [.blk (B3) 85 (Pc p2), .blk (B2) 23 (Iv .u8 (keyOf NS)), .blk (B1) 23 (Iv .u8 (keyOf NF)), .blk (w.heap.size) 23 (Iv .u8 (keyOf NU)), .blk (w.heap.size + 1) 48 (Iv .u8 (Sg NF NS)), .bel w]) (yieldsIf_not rfl _ _ rfl true rfl) hS ?_
 simp only [Act.put, List.setIfInBounds_toArray, List.set_cons_zero, List.set_cons_succ]
 refine wpSeq_yield (S := Facts [.blk (B3) 85 (Pc p2), .blk (B2) 23 (Iv .u8 (keyOf NS)), .blk (B1) 23 (Iv .u8 (keyOf NF)), .blk (w.heap.size) 23 (Iv .u8 (keyOf NU)), .blk (w.heap.size + 1) 48 (Iv .u8 (Sg NF NS)), .bel w]) (yieldsIf_move rfl _ rfl _ rfl) hS ?_
 simp only [Act.put, List.setIfInBounds_toArray, List.set_cons_zero, List.set_cons_succ]
 refine wpSeq_yield (S := Facts [.blk (B3) 85 (Pc p2), .blk (B2) 23 (Iv .u8 (keyOf NS)), .blk (B1) 23 (Iv .u8 (keyOf NF)), .blk (w.heap.size) 23 (Iv .u8 (keyOf NU)), .blk (w.heap.size + 1) 48 (Iv .u8 (Sg NF NS)), .bel w]) (show YieldsIf _ _ _ _ (Key (keyOf NS)) _ from yieldsIf_load rfl 23 _ rfl (B2) rfl 23 _ _ (.tail _ (.head _)) Tryz.underlying23 rfl (info_key _ (keyOf_length _))) hS ?_
 simp only [Act.put, List.setIfInBounds_toArray, List.set_cons_zero, List.set_cons_succ]
 refine wpSeq_wp rfl ?_
 go_simp
 refine (check_n NS kNSl _).mono ?_
 rintro e v3 ⟨rfl, b⟩
 replace hB := hB.trans (b.mono hB.size)
 replace hS := hS.below b
 clear b
 show wpSeq _ _ _ _ _ _
 refine wpSeq_yield (S := Facts [.blk (B3) 85 (Pc p2), .blk (B2) 23 (Iv .u8 (keyOf NS)), .blk (B1) 23 (Iv .u8 (keyOf NF)), .blk (w.heap.size) 23 (Iv .u8 (keyOf NU)), .blk (w.heap.size + 1) 48 (Iv .u8 (Sg NF NS)), .bel w]) (yieldsIf_not rfl _ _ rfl true rfl) hS ?_
 simp only [Act.put, List.setIfInBounds_toArray, List.set_cons_zero, List.set_cons_succ]
 refine wpSeq_yield (S := Facts [.blk (B3) 85 (Pc p2), .blk (B2) 23 (Iv .u8 (keyOf NS)), .blk (B1) 23 (Iv .u8 (keyOf NF)), .blk (w.heap.size) 23 (Iv .u8 (keyOf NU)), .blk (w.heap.size + 1) 48 (Iv .u8 (Sg NF NS)), .bel w]) (yieldsIf_pick rfl _ _ _ rfl false rfl _ rfl) hS ?_
 simp only [Act.put, List.setIfInBounds_toArray, List.set_cons_zero, List.set_cons_succ]
 refine wpSeq_nil ?_
 go_upto_region 5 with fail
 replace hS := hS.drew
 replace hB := below_drew hB
 refine wp_region_Z (S := Facts [.blk (B3) 85 (Pc p2), .blk (B2) 23 (Iv .u8 (keyOf NS)), .blk (B1) 23 (Iv .u8 (keyOf NF)), .blk (w.heap.size) 23 (Iv .u8 (keyOf NU)), .blk (w.heap.size + 1) 48 (Iv .u8 (Sg NF NS)), .bel w]) 7 (by kernel_rfl) ?_
 refine wpAnyZ_takeL 0 rfl (by kernel_rfl) (by kernel_rfl) (by kernel_rfl) (by kernel_rfl) (by kernel_rfl) (fun _ _ _ h => h) (show YieldsIf _ _ _ _ (Key (keyOf NF)) _ from yieldsIf_load rfl 23 _ rfl (B1) rfl 23 _ _ (.tail _ (.tail _ (.head _))) Tryz.underlying23 rfl (info_key _ (keyOf_length _))) hS ?_
 simp only [Act.put, List.setIfInBounds_toArray, List.set_cons_zero, List.set_cons_succ]
 refine wpAnyZ_takeL 1 rfl (by kernel_rfl) (by kernel_rfl) (by kernel_rfl) (by kernel_rfl) (by kernel_rfl) (fun _ _ _ h => h) (show YieldsIf _ _ _ _ (Key (keyOf NU)) _ from yieldsIf_load rfl 23 _ rfl (w.heap.size) rfl 23 _ _ (.tail _ (.tail _ (.tail _ (.head _)))) Tryz.underlying23 rfl (info_key _ (keyOf_length _))) hS ?_
 simp only [Act.put, List.setIfInBounds_toArray, List.set_cons_zero, List.set_cons_succ]
 refine wpAnyZ_takeL 2 rfl (by kernel_rfl) (by kernel_rfl) (by kernel_rfl) (by kernel_rfl) (by kernel_rfl) (fun _ _ _ h => h) (yieldsIf_move rfl _ rfl _ rfl) hS ?_
 simp only [Act.put, List.setIfInBounds_toArray, List.set_cons_zero, List.set_cons_succ]
 refine wpAnyZ_takeL 4 rfl (by kernel_rfl) (by kernel_rfl) (by kernel_rfl) (by kernel_rfl) (by kernel_rfl) (fun _ _ _ h => h) (show YieldsIf _ _ _ _ (PV p2) _ from yieldsIf_load rfl 85 _ rfl (B3) rfl 85 _ _ (.head _) Tryz.underlying85 rfl (info_Pc _)) hS ?_
 simp only [Act.put, List.setIfInBounds_toArray, List.set_cons_zero, List.set_cons_succ]
 obtain ⟨q0, hq0⟩ : ∃ q : P4, q = pmul NK p2 256 := ⟨_, rfl⟩
 have iq0 : q0.Is (times ok NK A) := by rw [hq0]; exact pmul_is256 NK kNK ip2
 have Hq0 := Lib.hid hq0
 clear hq0
 refine wpAnyZ_jobsL [(⟨3, 32⟩, .is (Key (keyOf NK))), (⟨5, 34⟩, .is (PV q0)), (⟨6, 11⟩, .rel (fun v w' => ∃ g, v = .pointer (some ⟨g, 0, none⟩) ∧ Blk w' g 85 (Pc p40)))] [] 1 _ _ _ (by kernel_rfl) (fun _ _ _ _ _ h => h) ?_ (fun _ _ _ _ _ h => h) (fun _ _ h hb => h.below hb) hS ?_ ?_ ?_
 · exact fun _ _ h => by cases h
 ·
  intro j hj
  simp only [List.map_cons, List.map_nil, List.mem_cons, List.not_mem_nil, or_false] at hj
  rcases hj with rfl | rfl | rfl
  · exact fun _ _ _ h _ => h
  · exact fun _ _ _ h _ => h
  ·
   intro v w1 w2 h hb
   obtain ⟨g, e, H⟩ : ∃ g, v = .pointer (some ⟨g, 0, none⟩) ∧ Blk w1 g 85 (Pc p40) := h
   exact ⟨g, e, H.below' hb⟩
 ·
  intro j hj
  simp only [List.map_cons, List.map_nil, List.mem_cons, List.not_mem_nil, or_false] at hj
  rcases hj with rfl | rfl | rfl
  ·
   refine job_frame [] (by kernel_rfl) ?_
   show JobAt _ _ _ _ _ _ _
   simp only [putAll, List.foldr_nil]
   intro W K hS' hK
   unfold wpOp
   go_simp
   left
   refine (challenge_n cu sq bv l bl ln NF NU NK HNK.out _ (T.below (hS'.belAt w (.tail _ (.tail _ (.tail _ (.tail _ (.tail _ (.head _)))))))) (SQ.below (hS'.belAt w (.tail _ (.tail _ (.tail _ (.tail _ (.tail _ (.head _)))))))) (hb.below (hS'.belAt w (.tail _ (.tail _ (.tail _ (.tail _ (.tail _ (.head _))))))))).mono ?_
   rintro e v ⟨rfl, b⟩
   exact hK _ _ rfl b (fun g hg => ((block_agg _) g hg).elim)
  ·
   refine job_frame [⟨3, 32⟩] (by kernel_rfl) ?_
   show JobAt _ _ _ _ (Act.put _ (some 32) (Key (keyOf NK))) _ _
   simp only [Act.put, List.setIfInBounds_toArray, List.set_cons_zero, List.set_cons_succ]
   intro W K hS' hK
   unfold wpOp
   go_simp
   left
   refine (mul_d NK p2 q0 kNK ip2.ok Hq0.out _ (GD.below (hS'.belAt w (.tail _ (.tail _ (.tail _ (.tail _ (.tail _ (.head _))))))))).mono ?_
   rintro e v ⟨rfl, b⟩
   exact hK _ _ rfl b (fun g hg => ((block_agg _) g hg).elim)
  ·
   refine job_frame [] (by kernel_rfl) ?_
   show JobAt _ _ _ _ _ _ _
   exact job_alloc 85 (Pc p40) _ _ rfl rfl rfl (fun W => by go_simp; rfl)
 ·
  intro f W hS2 hB1 hR hF hA
  have e3 : f 3 = (Key (keyOf NK)) := hR ⟨3, 32⟩ (by simp)
  have e5 : f 5 = (PV q0) := hR ⟨5, 34⟩ (by simp)
  obtain ⟨g6r5, e6, A6⟩ : ∃ g, f 6 = .pointer (some ⟨g, 0, none⟩) ∧ Blk W g 85 (Pc p40) := hR ⟨6, 11⟩ (by simp)
  have n6 : _ ≤ g6r5 := (hF ⟨6, 11⟩ (by simp) g6r5 (by show blockOf (f 6) = _; rw [e6]; rfl)).1
  have m6 : w.heap.size ≤ g6r5 := Nat.le_trans hB.size n6
  clear hA hF hR
  simp only [setAll, putAll, List.map_cons, List.map_nil, List.foldr_cons, List.foldr_nil, Act.put, List.setIfInBounds_toArray, List.set_cons_zero, List.set_cons_succ, e3, e5, e6]
  clear e3 e5 e6
  have hBs := hB1
  have x6_0 := Nat.lt_of_lt_of_le (hS.blkAt (B3) 85 (Pc p2) (.head _)).lt n6
  replace hB1 := below_setRow hB1 n6 (Pc q0)
  refine wpAnyZ_store_row 7 rfl (by kernel_rfl) rfl _ _ _ rfl g6r5 (Pc q0) rfl rfl _ _ A6 (info_Pc _) (Pc_same _ _) (Pc_one _) (hS.below hB1) ?_
  try simp only [Act.put, List.setIfInBounds_toArray, List.set_cons_zero, List.set_cons_succ]
  replace A6 := A6.row (Pc q0)
  refine wpAnyZ_done (by kernel_rfl) ?_ _
  have hS3 := hS.below hB1
  replace hB := hB.trans (hB1.mono hB.size)
  clear hS hS2 hB1 hBs
  have hS : Facts [.blk (g6r5) 85 (Pc q0), .blk (B3) 85 (Pc p2), .blk (B2) 23 (Iv .u8 (keyOf NS)), .blk (B1) 23 (Iv .u8 (keyOf NF)), .blk (w.heap.size) 23 (Iv .u8 (keyOf NU)), .blk (w.heap.size + 1) 48 (Iv .u8 (Sg NF NS)), .bel w] _ := Facts.cons (f := .blk g6r5 85 (Pc q0)) A6 (hS3)
  clear hS3
  try clear n6
  clear A6
  generalize hWn : World.setRow _ _ _ = Wn at *
  clear hWn
  go_upto_region 6 with fail
  replace hS := hS.drew
  replace hB := below_drew hB
  refine wp_region_Z (S := Facts [.blk (g6r5) 85 (Pc q0), .blk (B3) 85 (Pc p2), .blk (B2) 23 (Iv .u8 (keyOf NS)), .blk (B1) 23 (Iv .u8 (keyOf NF)), .blk (w.heap.size) 23 (Iv .u8 (keyOf NU)), .blk (w.heap.size + 1) 48 (Iv .u8 (Sg NF NS)), .bel w]) 9 (by kernel_rfl) ?_
  refine wpAnyZ_takeL 0 rfl (by kernel_rfl) (by kernel_rfl) (by kernel_rfl) (by kernel_rfl) (by kernel_rfl) (fun _ _ _ h => h) (show YieldsIf _ _ _ _ (Key (keyOf NS)) _ from yieldsIf_load rfl 23 _ rfl (B2) rfl 23 _ _ (.tail _ (.tail _ (.head _))) Tryz.underlying23 rfl (info_key _ (keyOf_length _))) hS ?_
  simp only [Act.put, List.setIfInBounds_toArray, List.set_cons_zero, List.set_cons_succ]
  refine wpAnyZ_takeL 2 rfl (by kernel_rfl) (by kernel_rfl) (by kernel_rfl) (by kernel_rfl) (by kernel_rfl) (fun _ _ _ h => h) (show YieldsIf _ _ _ _ (PV q0) _ from yieldsIf_load rfl 85 _ rfl (g6r5) rfl 85 _ _ (.head _) Tryz.underlying85 rfl (info_Pc _)) hS ?_
  simp only [Act.put, List.setIfInBounds_toArray, List.set_cons_zero, List.set_cons_succ]
  refine wpAnyZ_takeL 7 rfl (by kernel_rfl) (by kernel_rfl) (by kernel_rfl) (by kernel_rfl) (by kernel_rfl) (fun _ _ _ h => h) (show YieldsIf _ _ _ _ (Key (keyOf NF)) _ from yieldsIf_load rfl 23 _ rfl (B1) rfl 23 _ _ (.tail _ (.tail _ (.tail _ (.head _)))) Tryz.underlying23 rfl (info_key _ (keyOf_length _))) hS ?_
  simp only [Act.put, List.setIfInBounds_toArray, List.set_cons_zero, List.set_cons_succ]
  obtain ⟨q1, hq1⟩ : ∃ q : P4, q = pmul NS pbase 256 := ⟨_, rfl⟩
  have iq1 : q1.Is (times ok NS bb) := by rw [hq1]; exact pmul_is256 NS kNS ipbase
  have Hq1 := Lib.hid hq1
  clear hq1
  refine wpAnyZ_one (i := 1) (by kernel_rfl) ?_
  unfold wpOp
  go_simp
  left
  refine (timesBase_n NS q1 kNS Hq1.out _ (GX.below (hS.belAt w (.tail _ (.tail _ (.tail _ (.tail _ (.tail _ (.tail _ (.head _))))))))) (GY.below (hS.belAt w (.tail _ (.tail _ (.tail _ (.tail _ (.tail _ (.tail _ (.head _))))))))) (GD.below (hS.belAt w (.tail _ (.tail _ (.tail _ (.tail _ (.tail _ (.tail _ (.head _)))))))))).mono ?_
  rintro e v4 ⟨rfl, b⟩
  replace hB := hB.trans (b.mono hB.size)
  replace hS := hS.below b
  clear b
  refine ⟨hS, ?_⟩
  obtain ⟨q2, hq2⟩ : ∃ q : P4, q = pneg q0 := ⟨_, rfl⟩
  have iq2 : q2.Is (neg (times ok NK A)) := by rw [hq2]; exact pneg_is iq0
  have Hq2 := Lib.hid hq2
  clear hq2
  refine wpAnyZ_one (i := 3) (by kernel_rfl) ?_
  unfold wpOp
  go_simp
  left
  refine (neg_d q0 q2 iq0.ok Hq2.out _).mono ?_
  rintro e v5 ⟨rfl, b⟩
  replace hB := hB.trans (b.mono hB.size)
  replace hS := hS.below b
  clear b
  refine ⟨hS, ?_⟩
  refine wpAnyZ_points 4 rfl (by kernel_rfl) rfl 2 _ rfl [q1, q2] (parts2 rfl rfl) rfl (by decide) (by decide) (fun W b => hS.below b) ?_
  intro G4 CG4 AG4 b mG4
  replace hB := hB.trans (b.mono hB.size)
  replace hS := hS.below b
  clear b mG4
  simp only [Act.put, List.setIfInBounds_toArray, List.set_cons_zero, List.set_cons_succ]
  obtain ⟨q3, hq3⟩ : ∃ q : P4, q = psum [q1, q2] := ⟨_, rfl⟩
  have iq3 : q3.Is (add ok (times ok NS bb) (neg (times ok NK A))) := by rw [hq3]; exact psum2 iq1 iq2
  have Hq3 := Lib.hid hq3
  clear hq3
  refine wpAnyZ_one (i := 5) (by kernel_rfl) ?_
  unfold wpOp
  go_simp
  left
  refine (add_d2 q1 q2 q3 iq1.ok iq2.ok G4 _ AG4 (GD.below (hS.belAt w (.tail _ (.tail _ (.tail _ (.tail _ (.tail _ (.tail _ (.head _))))))))) Hq3.out).mono ?_
  rintro e v6 ⟨rfl, b⟩
  replace hB := hB.trans (b.mono hB.size)
  replace hS := hS.below b
  replace AG4 := AG4.below' b
  clear b
  refine ⟨hS, ?_⟩
  obtain ⟨T0, hT0⟩ : ∃ t : Nat, t = textN (add ok (times ok NS bb) (neg (times ok NK A))) := ⟨_, rfl⟩
  have kT0 : T0 < p256 := by rw [hT0]; exact textN_lt _
  have HT0 := Lib.hid hT0
  clear hT0
  refine wpAnyZ_one (i := 6) (by kernel_rfl) ?_
  unfold wpOp
  go_simp
  left
  refine (cenc q3 (add ok (times ok NS bb) (neg (times ok NK A))) iq3 T0 HT0.out _).mono ?_
  rintro e v7 ⟨rfl, b⟩
  replace hB := hB.trans (b.mono hB.size)
  replace hS := hS.below b
  replace AG4 := AG4.below' b
  clear b
  refine ⟨hS, ?_⟩
  refine wpAnyZ_takeL 8 rfl (by kernel_rfl) (by kernel_rfl) (by kernel_rfl) (by kernel_rfl) (by kernel_rfl) (fun _ _ _ h => h) (yieldsIf_eqlk rfl _ _ rfl T0 NF rfl rfl c kT0 kNF (by rw [HT0.out]; exact HC.out)) hS ?_
  simp only [Act.put, List.setIfInBounds_toArray, List.set_cons_zero, List.set_cons_succ]
  refine wpAnyZ_one (i := 9) (by kernel_rfl) ?_
  unfold wpOp
  go_simp
  left
  refine wpAnyZ_done (by kernel_rfl) ?_ _
  go_wp2
  exact bodyPost_ret (results_tmp rfl _ _ _) rfl ⟨rfl, hB⟩
end Go.Proofs.YtegbnadnodlalaaGreatDoor
namespace Go.Proofs.YtegbnadnodlalaaGreatDoor
open Go.RowKit
open Ed
open H5 (NI NI_length NI_inj Bytes BA SB SP sha sha_length sha_bytes sum512_l Tab Sq)
theorem back_math (cu sq : Nat → Nat) (n : Nat) (l : List Nat) (s : Nat) (hs : s < ell) : textN (add ok (times ok s bb) (neg (times ok (chalN cu sq (firN cu sq n l) (pubN cu sq n) l) (times ok (numN cu sq n) bb)))) = firN cu sq n l ↔ s = secN cu sq n l :=
 sign_math s (onceN cu sq n l) (chalN cu sq (firN cu sq n l) (pubN cu sq n) l) (numN cu sq n) hs
theorem secN_lt (cu sq : Nat → Nat) (n : Nat) (l : List Nat) : secN cu sq n l < ell := Nat.mod_lt _ (by decide)
theorem firN_lt (cu sq : Nat → Nat) (n : Nat) (l : List Nat) : firN cu sq n l < p256 := textN_lt _
end Go.Proofs.YtegbnadnodlalaaGreatDoor
namespace Go.Proofs.YtegbnadnodlalaaGreatDoor.H5
open Go.RowKit Go.ChangeShapes Go.WideShapes Go.ChangeAt Go.WideMaps Go.WideElems
/-- The numbers of a table as a row lists it. -/
def intsOf : DataW Unit → List Int
 | .agg ds => ds.map fun | .lit (.int _ z) => z | _ => 0
 | _ => []
def sqZ : List Int := intsOf Rows.laid_skiff_sha2_squareRoots
def cuZ : List Int := intsOf Rows.laid_skiff_sha2_cubeRoots
def sqT (i : Nat) : Nat := (sqZ.getD i 0).toNat
def cuT (i : Nat) : Nat := (cuZ.getD i 0).toNat
theorem sqZ_length : sqZ.length = 8 := by kernel_rfl
theorem cuZ_length : cuZ.length = 80 := by kernel_rfl
theorem sqZ_data : (Rows.laid_skiff_sha2_squareRoots : DataW Unit) = Lib.tabData .u64 sqZ := rfl
theorem cuZ_data : (Rows.laid_skiff_sha2_cubeRoots : DataW Unit) = Lib.tabData .u64 cuZ := rfl
theorem sqZ_all : (sqZ.all fun z => decide (0 ≤ z ∧ z < 18446744073709551616)) = true := by kernel_rfl
theorem cuZ_all : (cuZ.all fun z => decide (0 ≤ z ∧ z < 18446744073709551616)) = true := by kernel_rfl
theorem getD_all {l : List Int} (h : (l.all fun z => decide (0 ≤ z ∧ z < 18446744073709551616)) = true) (i : Nat) : 0 ≤ l.getD i 0 ∧ l.getD i 0 < 18446744073709551616 := by
 by_cases hi : i < l.length
 ·
  have := List.all_eq_true.1 h _ (List.getElem_mem hi)
  simp [hi] at this ⊢
  exact this
 ·
  rw [List.getD_eq_getElem?_getD, List.getElem?_eq_none (by omega)]
  decide
theorem sqT_int (i : Nat) : ((sqT i : Nat) : Int) = sqZ.getD i 0 := by
 have := getD_all sqZ_all i
 unfold sqT
 omega
theorem cuT_int (i : Nat) : ((cuT i : Nat) : Int) = cuZ.getD i 0 := by
 have := getD_all cuZ_all i
 unfold cuT
 omega
theorem gSq : Tryz.prog.globalNamed "skiff/sha2.squareRoots" = some 0 := by kernel_rfl
theorem gCu : Tryz.prog.globalNamed "skiff/sha2.cubeRoots" = some 4 := by kernel_rfl
theorem tSq : (Tryz.prog.globals[0]?).map (·.type) = some 115 := by kernel_rfl
theorem tCu : (Tryz.prog.globals[4]?).map (·.type) = some 145 := by kernel_rfl
theorem tab_of_laid {W : World} {rest : List (String × DataW Unit)} (h : laidMet Tryz.prog (("skiff/sha2.squareRoots", Rows.laid_skiff_sha2_squareRoots) :: ("skiff/sha2.cubeRoots", Rows.laid_skiff_sha2_cubeRoots) :: rest) W) : Tab W cuT ∧ Sq W sqT := by
 have h2 := laidMet.tail h
 rw [sqZ_data] at h
 rw [cuZ_data] at h2
 have s := Lib.tabIs_of_head gSq tSq Tryz.underlying115 Tryz.underlying26 (by kernel_rfl) (by kernel_rfl) h
 have c := Lib.tabIs_of_head gCu tCu Tryz.underlying145 Tryz.underlying26 (by kernel_rfl) (by kernel_rfl) h2
 have sc : ∀ i, i < 8 → W.cell? ⟨0, i, none⟩ = some (.int .u64 ((sqT i : Nat) : Int)) := fun i hi => by
  rw [sqT_int]
  exact s.cell gSq i (by rw [sqZ_length]; exact hi)
 have cc : ∀ i, i < 80 → W.cell? ⟨4, i, none⟩ = some (.int .u64 ((cuT i : Nat) : Int)) := fun i hi => by
  rw [cuT_int]
  exact c.cell gCu i (by rw [cuZ_length]; exact hi)
 exact ⟨⟨cc, fun i => by have := getD_all cuZ_all i; have := cuT_int i; omega, World.block_lt_of_cell? _ _ (cc 0 (by decide))⟩, ⟨sc, fun i => by have := getD_all sqZ_all i; have := sqT_int i; omega, World.block_lt_of_cell? _ _ (sc 0 (by decide))⟩⟩
end Go.Proofs.YtegbnadnodlalaaGreatDoor.H5
namespace Go.Proofs.YtegbnadnodlalaaGreatDoor
open Go.RowKit Go.ChangeShapes Go.WideShapes Go.ChangeAt Go.WideMaps Go.WideElems
theorem bx_data : (Rows.laid_skiff_curve_baseX : DataW Unit) = Lib.tabData .u8 (keyOf bxN) := by
 show DataW.agg _ = DataW.agg _
 congr 1
theorem by_data : (Rows.laid_skiff_curve_baseY : DataW Unit) = Lib.tabData .u8 (keyOf byN) := by
 show DataW.agg _ = DataW.agg _
 congr 1
theorem d_data : (Rows.laid_skiff_curve_dBytes : DataW Unit) = Lib.tabData .u8 (keyOf dN) := by
 show DataW.agg _ = DataW.agg _
 congr 1
theorem gBx : Tryz.prog.globalNamed "skiff/curve.baseX" = some 1 := by kernel_rfl
theorem gBy : Tryz.prog.globalNamed "skiff/curve.baseY" = some 2 := by kernel_rfl
theorem gDb : Tryz.prog.globalNamed "skiff/curve.dBytes" = some 3 := by kernel_rfl
theorem tBx : (Tryz.prog.globals[1]?).map (·.type) = some 23 := by kernel_rfl
theorem tBy : (Tryz.prog.globals[2]?).map (·.type) = some 23 := by kernel_rfl
theorem tDb : (Tryz.prog.globals[3]?).map (·.type) = some 23 := by kernel_rfl
theorem rng_of {W : World} {name : String} {N g : Nat} (s : Lib.TabIs Tryz.prog W name .u8 (keyOf N)) (hg : Tryz.prog.globalNamed name = some g) : Rng W g (Iv .u8 (keyOf N)) := by
 have sc : ∀ i, i < 32 → W.cell? ⟨g, i, none⟩ = some (.int .u8 ((keyOf N).getD i 0)) := fun i hi => s.cell hg i (by rw [keyOf_length]; exact hi)
 refine ⟨World.block_lt_of_cell? _ _ (sc 0 (by decide)), fun j v hv => ?_⟩
 have hj : j < 32 := by
  have := (List.getElem?_eq_some_iff.1 hv).1
  rw [Array.length_toList, Iv_size, keyOf_length] at this
  exact this
 rw [Nat.zero_add, sc j hj, ← hv, Array.getElem?_toList, Iv_get _ _ _ (by rw [keyOf_length]; exact hj)]
theorem xy_of_laid {W : World} {rest : List (String × DataW Unit)} (h : laidMet Tryz.prog (("skiff/curve.baseX", Rows.laid_skiff_curve_baseX) :: ("skiff/curve.baseY", Rows.laid_skiff_curve_baseY) :: rest) W) :
  Rng W 1 (Iv .u8 (keyOf bxN)) ∧ Rng W 2 (Iv .u8 (keyOf byN)) := by
 have h2 := laidMet.tail h
 rw [bx_data] at h
 rw [by_data] at h2
 exact ⟨rng_of (Lib.tabIs_of_head gBx tBx Tryz.underlying23 Tryz.underlying5 (by kernel_rfl) (by kernel_rfl) h) gBx,
  rng_of (Lib.tabIs_of_head gBy tBy Tryz.underlying23 Tryz.underlying5 (by kernel_rfl) (by kernel_rfl) h2) gBy⟩
theorem d_of_laid {W : World} {rest : List (String × DataW Unit)} (h : laidMet Tryz.prog (("skiff/curve.dBytes", Rows.laid_skiff_curve_dBytes) :: rest) W) : Rng W 3 (Iv .u8 (keyOf dN)) := by
 rw [d_data] at h
 exact rng_of (Lib.tabIs_of_head gDb tDb Tryz.underlying23 Tryz.underlying5 (by kernel_rfl) (by kernel_rfl) h) gDb
end Go.Proofs.YtegbnadnodlalaaGreatDoor
