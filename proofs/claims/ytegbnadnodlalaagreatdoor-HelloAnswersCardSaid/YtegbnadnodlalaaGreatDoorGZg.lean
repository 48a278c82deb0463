/- sign's Sign (printed by gencurve.py). -/
import Derived.Test.YtegbnadnodlalaaGreatDoorGZf
namespace Go.Proofs.YtegbnadnodlalaaGreatDoor
open Go.RowKit
open Ed
open H5 (NI NI_length NI_inj Bytes BA SB SP sha sha_length sha_bytes sum512_l Tab Sq)
theorem copy_z64 (n : Nat) : ((Iv .u8 (List.replicate 64 0)).toList.take 0 ++ (kcs n ++ (Iv .u8 (List.replicate 64 0)).toList.drop (0 + (kcs n).length))).toArray = Iv .u8 (Sg n 0) := by
 rw [Sg_zero]
 exact copy_lo n 0 0
set_option maxHeartbeats 8000000 in
set_option maxRecDepth 100000 in
theorem sign_n (cu sq : Nat → Nat) (bv : Value) (l : List Nat) (bl : Bytes l) (ln : l.length < 1152921504606846976) (NA NF NS : Nat) (hNF : NF = firN cu sq NA l) (hNS : NS = secN cu sq NA l) (w : World) (T : Tab w cu) (SQ : Sq w sq) (hb : SB w bv l) (GX : Rng w 1 (Iv .u8 (keyOf bxN))) (GY : Rng w 2 (Iv .u8 (keyOf byN))) (GD : Rng w 3 (Iv .u8 (keyOf dN))) :
  Calls Tryz.prog 31 #[Key (keyOf NA), bv] w fun e w' => e = .returned (.agg (Iv .u8 (Sg NF NS))) ∧ Below w.heap.size w w' := by
 have bGX := GX.blk
 have bGY := GY.blk
 have bGD := GD.blk
 have ipbase := pbase_is
 have bT := T.blk
 have bSQ := SQ.blk
 obtain ⟨NC, hNC⟩ : ∃ t, t = numN cu sq NA := ⟨_, rfl⟩
 have kNC : NC < p256 := hNC ▸ numN_lt _ _ _
 obtain ⟨NP, hNP⟩ : ∃ t, t = preN cu sq NA := ⟨_, rfl⟩
 have kNP : NP < p256 := hNP ▸ preN_lt _ _ _
 obtain ⟨NR, hNR⟩ : ∃ t, t = onceN cu sq NA l := ⟨_, rfl⟩
 have kNR : NR < p256 := hNR ▸ redN_p _
 obtain ⟨NU, hNU⟩ : ∃ t, t = pubN cu sq NA := ⟨_, rfl⟩
 have kNU : NU < p256 := hNU ▸ textN_lt _
 have kNF : NF < p256 := hNF ▸ textN_lt _
 obtain ⟨NK, hNK⟩ : ∃ t, t = chalN cu sq NF NU l := ⟨_, rfl⟩
 have kNK : NK < p256 := hNK ▸ redN_p _
 unfold secN at hNS
 rw [← hNF, ← hNU, ← hNC, ← hNR, ← hNK] at hNS
 unfold firN at hNF
 rw [← hNR] at hNF
 unfold pubN at hNU
 rw [← hNC] at hNU
 unfold onceN at hNR
 rw [← hNP] at hNR
 have HNF := Lib.hid hNF
 clear hNF
 have HNS := Lib.hid hNS
 clear hNS
 have HNU := Lib.hid hNU
 clear hNU
 have HNR := Lib.hid hNR
 clear hNR
 have HNK := Lib.hid hNK
 clear hNK
 have HNC := Lib.hid hNC
 clear hNC
 have HNP := Lib.hid hNP
 clear hNP
 unfold Key
 go_enter Tryz.func31, Tryz.ntmps31
 go_upto_region 1 with fail
 generalize hW : World.alloc (World.alloc w _) _ = W
 have hB : Below w.heap.size w W := hW ▸ ((Below.refl w.heap.size w).alloc (Nat.le_refl _) _).alloc (by simp) _
 have K0 : Blk W (w.heap.size) 23 (Iv .u8 (keyOf NA)) := hW ▸ ((Blk.new' (by simp) _ _).alloc _)
 have K1 : Blk W (w.heap.size + 1) 48 (Iv .u8 (List.replicate 64 0)) := hW ▸ (Blk.new' (by simp) _ _)
 have hS : Facts [.blk (w.heap.size) 23 (Iv .u8 (keyOf NA)), .bel w] W := Facts.cons (f := .blk (w.heap.size) 23 (Iv .u8 (keyOf NA))) K0 (Facts.cons (f := .bel w) hB Facts.nil)
 clear hW K0
 refine wp_region_seq ?_
 refine wpSeq_yield (S := Facts [.blk (w.heap.size) 23 (Iv .u8 (keyOf NA)), .bel w]) (show YieldsIf _ _ _ _ (Key (keyOf NA)) _ from yieldsIf_load rfl 23 _ rfl (w.heap.size) rfl 23 _ _ (.head _) Tryz.underlying23 rfl (info_key _ (keyOf_length _))) hS ?_
 simp only [Act.put, List.setIfInBounds_toArray, List.set_cons_zero, List.set_cons_succ]
 refine wpSeq_wp rfl ?_
 go_simp
 refine (parts_n cu sq NA NC NP HNC.out HNP.out _ (T.below (hS.belAt w (.tail _ (.head _)))) (SQ.below (hS.belAt w (.tail _ (.head _))))).mono ?_
 rintro e v1 ⟨rfl, b⟩
 replace hB := hB.trans (b.mono hB.size)
 replace hS := hS.below b
 replace K1 := K1.below' b
 clear b
 show wpSeq _ _ _ _ _ _
 refine wpSeq_yield (S := Facts [.blk (w.heap.size) 23 (Iv .u8 (keyOf NA)), .bel w]) (yieldsIf_move rfl _ rfl _ rfl) hS ?_
 simp only [Act.put, List.setIfInBounds_toArray, List.set_cons_zero, List.set_cons_succ]
 refine wpSeq_yield (S := Facts [.blk (w.heap.size) 23 (Iv .u8 (keyOf NA)), .bel w]) (show YieldsIf _ _ _ _ (Key (keyOf NC)) _ from yieldsIf_extract rfl _ _ rfl _ rfl _ rfl) hS ?_
 simp only [Act.put, List.setIfInBounds_toArray, List.set_cons_zero, List.set_cons_succ]
 refine wpSeq_yield (S := Facts [.blk (w.heap.size) 23 (Iv .u8 (keyOf NA)), .bel w]) (show YieldsIf _ _ _ _ (Key (keyOf NP)) _ from yieldsIf_extract rfl _ _ rfl _ rfl _ rfl) hS ?_
 simp only [Act.put, List.setIfInBounds_toArray, List.set_cons_zero, List.set_cons_succ]
 refine wpSeq_allocQ 23 (Iv .u8 (List.replicate 32 0)) rfl (fun W => by go_simp; rfl) ?_
 intro B1 C1 AB1 b mB1
 simp only [Act.put, List.setIfInBounds_toArray, List.set_cons_zero, List.set_cons_succ]
 have hb := b
 clear b
 refine wpSeq_allocQ 23 (Iv .u8 (List.replicate 32 0)) rfl (fun W => by go_simp; rfl) ?_
 intro B2 C2 AB2 b mB2
 simp only [Act.put, List.setIfInBounds_toArray, List.set_cons_zero, List.set_cons_succ]
 have dB1_B2 : B1 < B2 := Nat.lt_of_lt_of_le AB1.lt mB2
 replace AB1 := AB1.below' b
 replace mB2 := Nat.le_trans hb.size mB2
 replace hb := hb.trans (b.mono hb.size)
 clear b
 refine wpSeq_store_row rfl 23 _ _ rfl (B1) (Iv .u8 (keyOf NC)) rfl rfl _ _ AB1 (info_key _ (keyOf_length _)) (by simp only [Iv_size, keyOf_length, Sg_length, List.length_replicate]) (Iv_one _ _) ?_
 try simp only [Act.put, List.setIfInBounds_toArray, List.set_cons_zero, List.set_cons_succ]
 replace AB2 := AB2.rowFar (k := B1) (by omega) (Iv .u8 (keyOf NC))
 replace AB1 := AB1.row (Iv .u8 (keyOf NC))
 replace hb := below_setRow hb mB1 (Iv .u8 (keyOf NC))
 generalize hWn : World.setRow _ _ _ = Wn at *
 clear hWn
 refine wpSeq_store_row rfl 23 _ _ rfl (B2) (Iv .u8 (keyOf NP)) rfl rfl _ _ AB2 (info_key _ (keyOf_length _)) (by simp only [Iv_size, keyOf_length, Sg_length, List.length_replicate]) (Iv_one _ _) ?_
 try simp only [Act.put, List.setIfInBounds_toArray, List.set_cons_zero, List.set_cons_succ]
 replace AB1 := AB1.rowFar (k := B2) (by omega) (Iv .u8 (keyOf NP))
 replace AB2 := AB2.row (Iv .u8 (keyOf NP))
 replace hb := below_setRow hb mB2 (Iv .u8 (keyOf NP))
 generalize hWn : World.setRow _ _ _ = Wn at *
 clear hWn
 have eB1_0 := Nat.lt_of_lt_of_le (hS.blkAt (w.heap.size) 23 (Iv .u8 (keyOf NA)) (.head _)).lt mB1
 have uB1_K1 := Nat.lt_of_lt_of_le K1.lt mB1
 replace mB1 := Nat.le_trans hB.size mB1
 have eB2_0 := Nat.lt_of_lt_of_le (hS.blkAt (w.heap.size) 23 (Iv .u8 (keyOf NA)) (.head _)).lt mB2
 have uB2_K1 := Nat.lt_of_lt_of_le K1.lt mB2
 replace mB2 := Nat.le_trans hB.size mB2
 replace hB := hB.trans (hb.mono hB.size)
 replace hS := hS.below hb
 replace K1 := K1.below' hb
 clear hb
 replace hS : Facts [.blk (B1) 23 (Iv .u8 (keyOf NC)), .blk (w.heap.size) 23 (Iv .u8 (keyOf NA)), .bel w] _ := Facts.cons (f := .blk B1 23 (Iv .u8 (keyOf NC))) AB1 hS
 clear AB1
 replace hS : Facts [.blk (B2) 23 (Iv .u8 (keyOf NP)), .blk (B1) 23 (Iv .u8 (keyOf NC)), .blk (w.heap.size) 23 (Iv .u8 (keyOf NA)), .bel w] _ := Facts.cons (f := .blk B2 23 (Iv .u8 (keyOf NP))) AB2 hS
 clear AB2
 refine wpSeq_nil ?_
 go_upto_region 2 with fail
 refine wp_region_seq ?_
 refine wpSeq_yield (S := Facts [.blk (B2) 23 (Iv .u8 (keyOf NP)), .blk (B1) 23 (Iv .u8 (keyOf NC)), .blk (w.heap.size) 23 (Iv .u8 (keyOf NA)), .bel w]) (v := (.slice (some ⟨B2, 0, none⟩) 32 32)) (Or.inl ⟨by rfl, ?_⟩) hS ?_
 ·
  intro w' hw'
  go_simp
 simp only [Act.put, List.setIfInBounds_toArray, List.set_cons_zero, List.set_cons_succ]
 refine wpSeq_yield (S := Facts [.blk (B2) 23 (Iv .u8 (keyOf NP)), .blk (B1) 23 (Iv .u8 (keyOf NC)), .blk (w.heap.size) 23 (Iv .u8 (keyOf NA)), .bel w]) (yieldsIf_move rfl _ rfl _ rfl) hS ?_
 simp only [Act.put, List.setIfInBounds_toArray, List.set_cons_zero, List.set_cons_succ]
 refine wpSeq_list2 rfl _ _ rfl (.slice (some ⟨B2, 0, none⟩) 32 32) bv (kb NP) l rfl rfl (sb_key (hS.blkAt (B2) 23 (Iv .u8 (keyOf NP)) (.head _))) (hb.below (hS.belAt w (.tail _ (.tail _ (.tail _ (.head _)))))) ?_
 intro V3 CV3 AV3 b
 replace hB := hB.trans (b.mono hB.size)
 replace hS := hS.below b
 replace K1 := K1.below' b
 clear b
 simp only [Act.put, List.setIfInBounds_toArray, List.set_cons_zero, List.set_cons_succ]
 refine wpSeq_wp rfl ?_
 go_simp
 refine (reduced_n cu sq V3 [kb NP, l] NR (by rw [flat2]; exact HNR.out) (bytes2 NP bl) (by simp) (len2 NP ln) _ (T.below (hS.belAt w (.tail _ (.tail _ (.tail _ (.head _)))))) (SQ.below (hS.belAt w (.tail _ (.tail _ (.tail _ (.head _)))))) AV3).mono ?_
 rintro e v2 ⟨rfl, b⟩
 replace hB := hB.trans (b.mono hB.size)
 replace hS := hS.below b
 replace K1 := K1.below' b
 clear b
 show wpSeq _ _ _ _ _ _
 refine wpSeq_allocQ 23 (Iv .u8 (List.replicate 32 0)) rfl (fun W => by go_simp; rfl) ?_
 intro B4 C4 AB4 b mB4
 simp only [Act.put, List.setIfInBounds_toArray, List.set_cons_zero, List.set_cons_succ]
 have hb := b
 clear b
 refine wpSeq_store_row rfl 23 _ _ rfl (B4) (Iv .u8 (keyOf NR)) rfl rfl _ _ AB4 (info_key _ (keyOf_length _)) (by simp only [Iv_size, keyOf_length, Sg_length, List.length_replicate]) (Iv_one _ _) ?_
 try simp only [Act.put, List.setIfInBounds_toArray, List.set_cons_zero, List.set_cons_succ]
 replace AB4 := AB4.row (Iv .u8 (keyOf NR))
 replace hb := below_setRow hb mB4 (Iv .u8 (keyOf NR))
 generalize hWn : World.setRow _ _ _ = Wn at *
 clear hWn
 have eB4_0 := Nat.lt_of_lt_of_le (hS.blkAt (B2) 23 (Iv .u8 (keyOf NP)) (.head _)).lt mB4
 have eB4_1 := Nat.lt_of_lt_of_le (hS.blkAt (B1) 23 (Iv .u8 (keyOf NC)) (.tail _ (.head _))).lt mB4
 have eB4_2 := Nat.lt_of_lt_of_le (hS.blkAt (w.heap.size) 23 (Iv .u8 (keyOf NA)) (.tail _ (.tail _ (.head _)))).lt mB4
 have uB4_K1 := Nat.lt_of_lt_of_le K1.lt mB4
 replace mB4 := Nat.le_trans hB.size mB4
 replace hB := hB.trans (hb.mono hB.size)
 replace hS := hS.below hb
 replace K1 := K1.below' hb
 clear hb
 replace hS : Facts [.blk (B4) 23 (Iv .u8 (keyOf NR)), .blk (B2) 23 (Iv .u8 (keyOf NP)), .blk (B1) 23 (Iv .u8 (keyOf NC)), .blk (w.heap.size) 23 (Iv .u8 (keyOf NA)), .bel w] _ := Facts.cons (f := .blk B4 23 (Iv .u8 (keyOf NR))) AB4 hS
 clear AB4
 refine wpSeq_nil ?_
 go_upto_region 3 with fail
 refine wp_region_seq ?_
 refine wpSeq_yield (S := Facts [.blk (B4) 23 (Iv .u8 (keyOf NR)), .blk (B2) 23 (Iv .u8 (keyOf NP)), .blk (B1) 23 (Iv .u8 (keyOf NC)), .blk (w.heap.size) 23 (Iv .u8 (keyOf NA)), .bel w]) (show YieldsIf _ _ _ _ (Key (keyOf NR)) _ from yieldsIf_load rfl 23 _ rfl (B4) rfl 23 _ _ (.head _) Tryz.underlying23 rfl (info_key _ (keyOf_length _))) hS ?_
 simp only [Act.put, List.setIfInBounds_toArray, List.set_cons_zero, List.set_cons_succ]
 obtain ⟨q0, hq0⟩ : ∃ q : P4, q = pmul NR pbase 256 := ⟨_, rfl⟩
 have iq0 : q0.Is (times ok NR bb) := by rw [hq0]; exact pmul_is256 NR kNR ipbase
 have Hq0 := Lib.hid hq0
 clear hq0
 refine wpSeq_wp rfl ?_
 go_simp
 refine (timesBase_n NR q0 kNR Hq0.out _ (GX.below (hS.belAt w (.tail _ (.tail _ (.tail _ (.tail _ (.head _))))))) (GY.below (hS.belAt w (.tail _ (.tail _ (.tail _ (.tail _ (.head _))))))) (GD.below (hS.belAt w (.tail _ (.tail _ (.tail _ (.tail _ (.head _)))))))).mono ?_
 rintro e v3 ⟨rfl, b⟩
 replace hB := hB.trans (b.mono hB.size)
 replace hS := hS.below b
 replace K1 := K1.below' b
 clear b
 show wpSeq _ _ _ _ _ _
 refine wpSeq_wp rfl ?_
 go_simp
 refine (cenc q0 (times ok NR bb) iq0 NF HNF.out _).mono ?_
 rintro e v4 ⟨rfl, b⟩
 replace hB := hB.trans (b.mono hB.size)
 replace hS := hS.below b
 replace K1 := K1.below' b
 clear b
 show wpSeq _ _ _ _ _ _
 refine wpSeq_allocQ 23 (Iv .u8 (List.replicate 32 0)) rfl (fun W => by go_simp; rfl) ?_
 intro B5 C5 AB5 b mB5
 simp only [Act.put, List.setIfInBounds_toArray, List.set_cons_zero, List.set_cons_succ]
 have hb := b
 clear b
 refine wpSeq_store_row rfl 23 _ _ rfl (B5) (Iv .u8 (keyOf NF)) rfl rfl _ _ AB5 (info_key _ (keyOf_length _)) (by simp only [Iv_size, keyOf_length, Sg_length, List.length_replicate]) (Iv_one _ _) ?_
 try simp only [Act.put, List.setIfInBounds_toArray, List.set_cons_zero, List.set_cons_succ]
 replace AB5 := AB5.row (Iv .u8 (keyOf NF))
 replace hb := below_setRow hb mB5 (Iv .u8 (keyOf NF))
 generalize hWn : World.setRow _ _ _ = Wn at *
 clear hWn
 have eB5_0 := Nat.lt_of_lt_of_le (hS.blkAt (B4) 23 (Iv .u8 (keyOf NR)) (.head _)).lt mB5
 have eB5_1 := Nat.lt_of_lt_of_le (hS.blkAt (B2) 23 (Iv .u8 (keyOf NP)) (.tail _ (.head _))).lt mB5
 have eB5_2 := Nat.lt_of_lt_of_le (hS.blkAt (B1) 23 (Iv .u8 (keyOf NC)) (.tail _ (.tail _ (.head _)))).lt mB5
 have eB5_3 := Nat.lt_of_lt_of_le (hS.blkAt (w.heap.size) 23 (Iv .u8 (keyOf NA)) (.tail _ (.tail _ (.tail _ (.head _))))).lt mB5
 have uB5_K1 := Nat.lt_of_lt_of_le K1.lt mB5
 replace mB5 := Nat.le_trans hB.size mB5
 replace hB := hB.trans (hb.mono hB.size)
 replace hS := hS.below hb
 replace K1 := K1.below' hb
 clear hb
 replace hS : Facts [.blk (B5) 23 (Iv .u8 (keyOf NF)), .blk (B4) 23 (Iv .u8 (keyOf NR)), .blk (B2) 23 (Iv .u8 (keyOf NP)), .blk (B1) 23 (Iv .u8 (keyOf NC)), .blk (w.heap.size) 23 (Iv .u8 (keyOf NA)), .bel w] _ := Facts.cons (f := .blk B5 23 (Iv .u8 (keyOf NF))) AB5 hS
 clear AB5
 refine wpSeq_nil ?_
 go_upto_region 4 with fail
 refine wp_region_seq ?_
 refine wpSeq_yield (S := Facts [.blk (B5) 23 (Iv .u8 (keyOf NF)), .blk (B4) 23 (Iv .u8 (keyOf NR)), .blk (B2) 23 (Iv .u8 (keyOf NP)), .blk (B1) 23 (Iv .u8 (keyOf NC)), .blk (w.heap.size) 23 (Iv .u8 (keyOf NA)), .bel w]) (show YieldsIf _ _ _ _ (Key (keyOf NC)) _ from yieldsIf_load rfl 23 _ rfl (B1) rfl 23 _ _ (.tail _ (.tail _ (.tail _ (.head _)))) Tryz.underlying23 rfl (info_key _ (keyOf_length _))) hS ?_
 simp only [Act.put, List.setIfInBounds_toArray, List.set_cons_zero, List.set_cons_succ]
 obtain ⟨q1, hq1⟩ : ∃ q : P4, q = pmul NC pbase 256 := ⟨_, rfl⟩
 have iq1 : q1.Is (times ok NC bb) := by rw [hq1]; exact pmul_is256 NC kNC ipbase
 have Hq1 := Lib.hid hq1
 clear hq1
 refine wpSeq_wp rfl ?_
 go_simp
 refine (timesBase_n NC q1 kNC Hq1.out _ (GX.below (hS.belAt w (.tail _ (.tail _ (.tail _ (.tail _ (.tail _ (.head _)))))))) (GY.below (hS.belAt w (.tail _ (.tail _ (.tail _ (.tail _ (.tail _ (.head _)))))))) (GD.below (hS.belAt w (.tail _ (.tail _ (.tail _ (.tail _ (.tail _ (.head _))))))))).mono ?_
 rintro e v5 ⟨rfl, b⟩
 replace hB := hB.trans (b.mono hB.size)
 replace hS := hS.below b
 replace K1 := K1.below' b
 clear b
 show wpSeq _ _ _ _ _ _
 refine wpSeq_wp rfl ?_
 go_simp
 refine (cenc q1 (times ok NC bb) iq1 NU HNU.out _).mono ?_
 rintro e v6 ⟨rfl, b⟩
 replace hB := hB.trans (b.mono hB.size)
 replace hS := hS.below b
 replace K1 := K1.below' b
 clear b
 show wpSeq _ _ _ _ _ _
 refine wpSeq_allocQ 23 (Iv .u8 (List.replicate 32 0)) rfl (fun W => by go_simp; rfl) ?_
 intro B6 C6 AB6 b mB6
 simp only [Act.put, List.setIfInBounds_toArray, List.set_cons_zero, List.set_cons_succ]
 have hb := b
 clear b
 refine wpSeq_store_row rfl 23 _ _ rfl (B6) (Iv .u8 (keyOf NU)) rfl rfl _ _ AB6 (info_key _ (keyOf_length _)) (by simp only [Iv_size, keyOf_length, Sg_length, List.length_replicate]) (Iv_one _ _) ?_
 try simp only [Act.put, List.setIfInBounds_toArray, List.set_cons_zero, List.set_cons_succ]
 replace AB6 := AB6.row (Iv .u8 (keyOf NU))
 replace hb := below_setRow hb mB6 (Iv .u8 (keyOf NU))
 generalize hWn : World.setRow _ _ _ = Wn at *
 clear hWn
 have eB6_0 := Nat.lt_of_lt_of_le (hS.blkAt (B5) 23 (Iv .u8 (keyOf NF)) (.head _)).lt mB6
 have eB6_1 := Nat.lt_of_lt_of_le (hS.blkAt (B4) 23 (Iv .u8 (keyOf NR)) (.tail _ (.head _))).lt mB6
 have eB6_2 := Nat.lt_of_lt_of_le (hS.blkAt (B2) 23 (Iv .u8 (keyOf NP)) (.tail _ (.tail _ (.head _)))).lt mB6
 have eB6_3 := Nat.lt_of_lt_of_le (hS.blkAt (B1) 23 (Iv .u8 (keyOf NC)) (.tail _ (.tail _ (.tail _ (.head _))))).lt mB6
 have eB6_4 := Nat.lt_of_lt_of_le (hS.blkAt (w.heap.size) 23 (Iv .u8 (keyOf NA)) (.tail _ (.tail _ (.tail _ (.tail _ (.head _)))))).lt mB6
 have uB6_K1 := Nat.lt_of_lt_of_le K1.lt mB6
 replace mB6 := Nat.le_trans hB.size mB6
 replace hB := hB.trans (hb.mono hB.size)
 replace hS := hS.below hb
 replace K1 := K1.below' hb
 clear hb
 replace hS : Facts [.blk (B6) 23 (Iv .u8 (keyOf NU)), .blk (B5) 23 (Iv .u8 (keyOf NF)), .blk (B4) 23 (Iv .u8 (keyOf NR)), .blk (B2) 23 (Iv .u8 (keyOf NP)), .blk (B1) 23 (Iv .u8 (keyOf NC)), .blk (w.heap.size) 23 (Iv .u8 (keyOf NA)), .bel w] _ := Facts.cons (f := .blk B6 23 (Iv .u8 (keyOf NU))) AB6 hS
 clear AB6
 refine wpSeq_nil ?_
 go_upto_region 5 with fail
 replace hS := hS.drew
 replace hB := below_drew hB
 replace K1 := K1.drew
 refine wp_region_Z (S := Facts [.blk (B6) 23 (Iv .u8 (keyOf NU)), .blk (B5) 23 (Iv .u8 (keyOf NF)), .blk (B4) 23 (Iv .u8 (keyOf NR)), .blk (B2) 23 (Iv .u8 (keyOf NP)), .blk (B1) 23 (Iv .u8 (keyOf NC)), .blk (w.heap.size) 23 (Iv .u8 (keyOf NA)), .bel w]) 8 (by kernel_rfl) ?_
 refine wpAnyZ_takeL 0 rfl (by kernel_rfl) (by kernel_rfl) (by kernel_rfl) (by kernel_rfl) (by kernel_rfl) (fun _ _ _ h => h) (show YieldsIf _ _ _ _ (Key (keyOf NF)) _ from yieldsIf_load rfl 23 _ rfl (B5) rfl 23 _ _ (.tail _ (.head _)) Tryz.underlying23 rfl (info_key _ (keyOf_length _))) hS ?_
 simp only [Act.put, List.setIfInBounds_toArray, List.set_cons_zero, List.set_cons_succ]
 refine wpAnyZ_takeL 1 rfl (by kernel_rfl) (by kernel_rfl) (by kernel_rfl) (by kernel_rfl) (by kernel_rfl) (fun _ _ _ h => h) (show YieldsIf _ _ _ _ (Key (keyOf NU)) _ from yieldsIf_load rfl 23 _ rfl (B6) rfl 23 _ _ (.head _) Tryz.underlying23 rfl (info_key _ (keyOf_length _))) hS ?_
 simp only [Act.put, List.setIfInBounds_toArray, List.set_cons_zero, List.set_cons_succ]
 refine wpAnyZ_takeL 2 rfl (by kernel_rfl) (by kernel_rfl) (by kernel_rfl) (by kernel_rfl) (by kernel_rfl) (fun _ _ _ h => h) (yieldsIf_move rfl _ rfl _ rfl) hS ?_
 simp only [Act.put, List.setIfInBounds_toArray, List.set_cons_zero, List.set_cons_succ]
 refine wpAnyZ_takeL 4 rfl (by kernel_rfl) (by kernel_rfl) (by kernel_rfl) (by kernel_rfl) (by kernel_rfl) (fun _ _ _ h => h) (show YieldsIf _ _ _ _ (Key (keyOf NC)) _ from yieldsIf_load rfl 23 _ rfl (B1) rfl 23 _ _ (.tail _ (.tail _ (.tail _ (.tail _ (.head _))))) Tryz.underlying23 rfl (info_key _ (keyOf_length _))) hS ?_
 simp only [Act.put, List.setIfInBounds_toArray, List.set_cons_zero, List.set_cons_succ]
 refine wpAnyZ_takeL 5 rfl (by kernel_rfl) (by kernel_rfl) (by kernel_rfl) (by kernel_rfl) (by kernel_rfl) (fun _ _ _ h => h) (show YieldsIf _ _ _ _ (Key (keyOf NR)) _ from yieldsIf_load rfl 23 _ rfl (B4) rfl 23 _ _ (.tail _ (.tail _ (.head _))) Tryz.underlying23 rfl (info_key _ (keyOf_length _))) hS ?_
 simp only [Act.put, List.setIfInBounds_toArray, List.set_cons_zero, List.set_cons_succ]
 refine wpAnyZ_jobsL [(⟨3, 30⟩, .is (Key (keyOf NK))), (⟨6, 33⟩, .is (Key (keyOf NS))), (⟨7, 10⟩, .rel (fun v w' => ∃ g, v = .pointer (some ⟨g, 0, none⟩) ∧ Blk w' g 23 (Iv .u8 (List.replicate 32 0))))] [] 1 _ _ _ (by kernel_rfl) (fun _ _ _ _ _ h => h) ?_ (fun _ _ _ _ _ h => h) (fun _ _ h hb => h.below hb) hS ?_ ?_ ?_
 · exact fun _ _ h => by cases h
 ·
  intro j hj
  simp only [List.map_cons, List.map_nil, List.mem_cons, List.not_mem_nil, or_false] at hj
  rcases hj with rfl | rfl | rfl
  · exact fun _ _ _ h _ => h
  · exact fun _ _ _ h _ => h
  ·
   intro v w1 w2 h hb
   obtain ⟨g, e, H⟩ : ∃ g, v = .pointer (some ⟨g, 0, none⟩) ∧ Blk w1 g 23 (Iv .u8 (List.replicate 32 0)) := h
   exact ⟨g, e, H.below' hb⟩
 ·
  intro j hj
  simp only [List.map_cons, List.map_nil, List.mem_cons, List.not_mem_nil, or_false] at hj
  rcases hj with rfl | rfl | rfl
  ·
   refine job_frame [] (by kernel_rfl) ?_
   show JobAt _ _ _ _ _ _ _
   simp only [putAll, List.foldr_nil]
   intro W K hS' hK
   unfold wpOp
   go_simp
   left
   refine (challenge_n cu sq bv l bl ln NF NU NK HNK.out _ (T.below (hS'.belAt w (.tail _ (.tail _ (.tail _ (.tail _ (.tail _ (.tail _ (.head _))))))))) (SQ.below (hS'.belAt w (.tail _ (.tail _ (.tail _ (.tail _ (.tail _ (.tail _ (.head _))))))))) (hb.below (hS'.belAt w (.tail _ (.tail _ (.tail _ (.tail _ (.tail _ (.tail _ (.head _)))))))))).mono ?_
   rintro e v ⟨rfl, b⟩
   exact hK _ _ rfl b (fun g hg => ((block_agg _) g hg).elim)
  ·
   refine job_frame [⟨3, 30⟩] (by kernel_rfl) ?_
   show JobAt _ _ _ _ (Act.put _ (some 30) (Key (keyOf NK))) _ _
   simp only [Act.put, List.setIfInBounds_toArray, List.set_cons_zero, List.set_cons_succ]
   intro W K hS' hK
   unfold wpOp
   go_simp
   left
   refine (muladd_n NK NC NR NS kNK kNC kNR HNS.out _).mono ?_
   rintro e v ⟨rfl, b⟩
   exact hK _ _ rfl b (fun g hg => ((block_agg _) g hg).elim)
  ·
   refine job_frame [] (by kernel_rfl) ?_
   show JobAt _ _ _ _ _ _ _
   exact job_alloc 23 (Iv .u8 (List.replicate 32 0)) _ _ rfl rfl rfl (fun W => by go_simp; rfl)
 ·
  intro f W hS2 hB1 hR hF hA
  have e3 : f 3 = (Key (keyOf NK)) := hR ⟨3, 30⟩ (by simp)
  have e6 : f 6 = (Key (keyOf NS)) := hR ⟨6, 33⟩ (by simp)
  obtain ⟨g7r5, e7, A7⟩ : ∃ g, f 7 = .pointer (some ⟨g, 0, none⟩) ∧ Blk W g 23 (Iv .u8 (List.replicate 32 0)) := hR ⟨7, 10⟩ (by simp)
  have n7 : _ ≤ g7r5 := (hF ⟨7, 10⟩ (by simp) g7r5 (by show blockOf (f 7) = _; rw [e7]; rfl)).1
  have m7 : w.heap.size ≤ g7r5 := Nat.le_trans hB.size n7
  have u7 := Nat.lt_of_lt_of_le K1.lt n7
  clear hA hF hR
  simp only [setAll, putAll, List.map_cons, List.map_nil, List.foldr_cons, List.foldr_nil, Act.put, List.setIfInBounds_toArray, List.set_cons_zero, List.set_cons_succ, e3, e6, e7]
  clear e3 e6 e7
  have hBs := hB1
  have x7_0 := Nat.lt_of_lt_of_le (hS.blkAt (B6) 23 (Iv .u8 (keyOf NU)) (.head _)).lt n7
  have x7_1 := Nat.lt_of_lt_of_le (hS.blkAt (B5) 23 (Iv .u8 (keyOf NF)) (.tail _ (.head _))).lt n7
  have x7_2 := Nat.lt_of_lt_of_le (hS.blkAt (B4) 23 (Iv .u8 (keyOf NR)) (.tail _ (.tail _ (.head _)))).lt n7
  have x7_3 := Nat.lt_of_lt_of_le (hS.blkAt (B2) 23 (Iv .u8 (keyOf NP)) (.tail _ (.tail _ (.tail _ (.head _))))).lt n7
  have x7_4 := Nat.lt_of_lt_of_le (hS.blkAt (B1) 23 (Iv .u8 (keyOf NC)) (.tail _ (.tail _ (.tail _ (.tail _ (.head _)))))).lt n7
  have x7_5 := Nat.lt_of_lt_of_le (hS.blkAt (w.heap.size) 23 (Iv .u8 (keyOf NA)) (.tail _ (.tail _ (.tail _ (.tail _ (.tail _ (.head _))))))).lt n7
  replace hB1 := below_setRow hB1 n7 (Iv .u8 (keyOf NS))
  refine wpAnyZ_store_row 8 rfl (by kernel_rfl) rfl _ _ _ rfl g7r5 (Iv .u8 (keyOf NS)) rfl rfl _ _ A7 (info_key _ (keyOf_length _)) (by simp only [Iv_size, keyOf_length, Sg_length, List.length_replicate]) (Iv_one _ _) (hS.below hB1) ?_
  try simp only [Act.put, List.setIfInBounds_toArray, List.set_cons_zero, List.set_cons_succ]
  replace A7 := A7.row (Iv .u8 (keyOf NS))
  refine wpAnyZ_done (by kernel_rfl) ?_ _
  replace K1 := K1.below' hB1
  have hS3 := hS.below hB1
  replace hB := hB.trans (hB1.mono hB.size)
  clear hS hS2 hB1 hBs
  have hS : Facts [.blk (g7r5) 23 (Iv .u8 (keyOf NS)), .blk (B6) 23 (Iv .u8 (keyOf NU)), .blk (B5) 23 (Iv .u8 (keyOf NF)), .blk (B4) 23 (Iv .u8 (keyOf NR)), .blk (B2) 23 (Iv .u8 (keyOf NP)), .blk (B1) 23 (Iv .u8 (keyOf NC)), .blk (w.heap.size) 23 (Iv .u8 (keyOf NA)), .bel w] _ := Facts.cons (f := .blk g7r5 23 (Iv .u8 (keyOf NS))) A7 (hS3)
  clear hS3
  try clear n7
  clear A7
  generalize hWn : World.setRow _ _ _ = Wn at *
  clear hWn
  go_upto_region 7 with fail
  change Code.wp _ _ _ _ (World.alloc Wn (.cells (Iv .u8 (List.replicate 64 0)) 48))
  have mGZ := hB.size
  have uGZ_K1 := K1.lt
  have hb := (Below.refl Wn.heap.size Wn).alloc (Nat.le_refl _) (.cells (Iv .u8 (List.replicate 64 0)) 48)
  have A := Blk.new Wn 48 (Iv .u8 (List.replicate 64 0))
  replace hB := hB.trans (hb.mono hB.size)
  replace hS := hS.below hb
  replace K1 := K1.below' hb
  clear hb
  generalize hX : World.alloc Wn _ = X at *
  clear hX
  generalize Wn.heap.size = GZ at *
  replace hS : Facts [.blk (GZ) 48 (Iv .u8 (List.replicate 64 0)), .blk (g7r5) 23 (Iv .u8 (keyOf NS)), .blk (B6) 23 (Iv .u8 (keyOf NU)), .blk (B5) 23 (Iv .u8 (keyOf NF)), .blk (B4) 23 (Iv .u8 (keyOf NR)), .blk (B2) 23 (Iv .u8 (keyOf NP)), .blk (B1) 23 (Iv .u8 (keyOf NC)), .blk (w.heap.size) 23 (Iv .u8 (keyOf NA)), .bel w] _ := Facts.cons (f := .blk GZ 48 (Iv .u8 (List.replicate 64 0))) A hS
  clear A
  replace hS := hS.drew
  replace hB := below_drew hB
  replace K1 := K1.drew
  refine wp_region_Z (S := Facts [.blk (GZ) 48 (Iv .u8 (List.replicate 64 0)), .blk (g7r5) 23 (Iv .u8 (keyOf NS)), .blk (B6) 23 (Iv .u8 (keyOf NU)), .blk (B5) 23 (Iv .u8 (keyOf NF)), .blk (B4) 23 (Iv .u8 (keyOf NR)), .blk (B2) 23 (Iv .u8 (keyOf NP)), .blk (B1) 23 (Iv .u8 (keyOf NC)), .blk (w.heap.size) 23 (Iv .u8 (keyOf NA)), .bel w]) 2 (by kernel_rfl) ?_
  refine wpAnyZ_takeL 0 (v := (.slice (some ⟨GZ, 0, none⟩) 32 64)) rfl (by kernel_rfl) (by kernel_rfl) (by kernel_rfl) (by kernel_rfl) (by kernel_rfl) (fun _ _ _ h => h) (Or.inl ⟨by rfl, ?_⟩) hS ?_
  ·
   intro w' hw'
   go_simp
  simp only [Act.put, List.setIfInBounds_toArray, List.set_cons_zero, List.set_cons_succ]
  refine wpAnyZ_takeL 1 (v := (.slice (some ⟨B5, 0, none⟩) 32 32)) rfl (by kernel_rfl) (by kernel_rfl) (by kernel_rfl) (by kernel_rfl) (by kernel_rfl) (fun _ _ _ h => h) (Or.inl ⟨by rfl, ?_⟩) hS ?_
  ·
   intro w' hw'
   go_simp
  simp only [Act.put, List.setIfInBounds_toArray, List.set_cons_zero, List.set_cons_succ]
  refine wpAnyZ_copy_end 2 rfl (by kernel_rfl) rfl _ _ _ _ rfl 5 Tryz.underlying29 (by kernel_rfl) (GZ) 0 _ _ ⟨B5, 0, none⟩ _ _ rfl rfl _ _ (hS.blkAt (GZ) 48 (Iv .u8 (List.replicate 64 0)) (.head _)) (kcs NF) (by rw [kcs_length]; rfl) (kcs_key (hS.blkAt (B5) 23 (Iv .u8 (keyOf NF)) (.tail _ (.tail _ (.tail _ (.head _)))))) (by rw [kcs_length]; show _ ≤ (Iv .u8 _).size; rw [Iv_size]; first | (rw [Sg_length]; decide) | decide) (kcs_one NF) (Iv .u8 (Sg NF 0)) (copy_z64 NF) (by kernel_rfl) (by kernel_rfl) ?_
  try simp only [Act.put, List.setIfInBounds_toArray, List.set_cons_zero, List.set_cons_succ]
  replace hB := below_setRow hB (g := GZ) (by omega) (Iv .u8 (Sg NF 0))
  replace hS : Facts [.blk (GZ) 48 (Iv .u8 (Sg NF 0)), .blk (g7r5) 23 (Iv .u8 (keyOf NS)), .blk (B6) 23 (Iv .u8 (keyOf NU)), .blk (B5) 23 (Iv .u8 (keyOf NF)), .blk (B4) 23 (Iv .u8 (keyOf NR)), .blk (B2) 23 (Iv .u8 (keyOf NP)), .blk (B1) 23 (Iv .u8 (keyOf NC)), .blk (w.heap.size) 23 (Iv .u8 (keyOf NA)), .bel w] _ := Facts.cons (f := .blk (GZ) 48 (Iv .u8 (Sg NF 0))) ((hS.blkAt (GZ) 48 (Iv .u8 (List.replicate 64 0)) (.head _)).row _) (Facts.cons (f := .blk (g7r5) 23 (Iv .u8 (keyOf NS))) ((hS.blkAt (g7r5) 23 (Iv .u8 (keyOf NS)) (.tail _ (.head _))).rowFar (k := GZ) (blk_ne (hS.blkAt _ _ _ (.tail _ (.head _))) (hS.blkAt _ _ _ (.head _)) (by decide)) _) (Facts.cons (f := .blk (B6) 23 (Iv .u8 (keyOf NU))) ((hS.blkAt (B6) 23 (Iv .u8 (keyOf NU)) (.tail _ (.tail _ (.head _)))).rowFar (k := GZ) (blk_ne (hS.blkAt _ _ _ (.tail _ (.tail _ (.head _)))) (hS.blkAt _ _ _ (.head _)) (by decide)) _) (Facts.cons (f := .blk (B5) 23 (Iv .u8 (keyOf NF))) ((hS.blkAt (B5) 23 (Iv .u8 (keyOf NF)) (.tail _ (.tail _ (.tail _ (.head _))))).rowFar (k := GZ) (blk_ne (hS.blkAt _ _ _ (.tail _ (.tail _ (.tail _ (.head _))))) (hS.blkAt _ _ _ (.head _)) (by decide)) _) (Facts.cons (f := .blk (B4) 23 (Iv .u8 (keyOf NR))) ((hS.blkAt (B4) 23 (Iv .u8 (keyOf NR)) (.tail _ (.tail _ (.tail _ (.tail _ (.head _)))))).rowFar (k := GZ) (blk_ne (hS.blkAt _ _ _ (.tail _ (.tail _ (.tail _ (.tail _ (.head _)))))) (hS.blkAt _ _ _ (.head _)) (by decide)) _) (Facts.cons (f := .blk (B2) 23 (Iv .u8 (keyOf NP))) ((hS.blkAt (B2) 23 (Iv .u8 (keyOf NP)) (.tail _ (.tail _ (.tail _ (.tail _ (.tail _ (.head _))))))).rowFar (k := GZ) (blk_ne (hS.blkAt _ _ _ (.tail _ (.tail _ (.tail _ (.tail _ (.tail _ (.head _))))))) (hS.blkAt _ _ _ (.head _)) (by decide)) _) (Facts.cons (f := .blk (B1) 23 (Iv .u8 (keyOf NC))) ((hS.blkAt (B1) 23 (Iv .u8 (keyOf NC)) (.tail _ (.tail _ (.tail _ (.tail _ (.tail _ (.tail _ (.head _)))))))).rowFar (k := GZ) (blk_ne (hS.blkAt _ _ _ (.tail _ (.tail _ (.tail _ (.tail _ (.tail _ (.tail _ (.head _)))))))) (hS.blkAt _ _ _ (.head _)) (by decide)) _) (Facts.cons (f := .blk (w.heap.size) 23 (Iv .u8 (keyOf NA))) ((hS.blkAt (w.heap.size) 23 (Iv .u8 (keyOf NA)) (.tail _ (.tail _ (.tail _ (.tail _ (.tail _ (.tail _ (.tail _ (.head _))))))))).rowFar (k := GZ) (blk_ne (hS.blkAt _ _ _ (.tail _ (.tail _ (.tail _ (.tail _ (.tail _ (.tail _ (.tail _ (.head _))))))))) (hS.blkAt _ _ _ (.head _)) (by decide)) _) (Facts.cons (f := .bel w) (by first | exact hB | exact below_setRow hB (by omega) _) (Facts.nil)))))))))
  replace K1 := K1.rowFar (k := GZ) (by omega) (Iv .u8 (Sg NF 0))
  generalize hWn : World.setRow _ _ _ = Wn at *
  clear hWn
  go_upto_region 8 with fail
  replace hS := hS.drew
  replace hB := below_drew hB
  replace K1 := K1.drew
  refine wp_region_Z (S := Facts [.blk (GZ) 48 (Iv .u8 (Sg NF 0)), .blk (g7r5) 23 (Iv .u8 (keyOf NS)), .blk (B6) 23 (Iv .u8 (keyOf NU)), .blk (B5) 23 (Iv .u8 (keyOf NF)), .blk (B4) 23 (Iv .u8 (keyOf NR)), .blk (B2) 23 (Iv .u8 (keyOf NP)), .blk (B1) 23 (Iv .u8 (keyOf NC)), .blk (w.heap.size) 23 (Iv .u8 (keyOf NA)), .bel w]) 2 (by kernel_rfl) ?_
  refine wpAnyZ_takeL 0 (v := (.slice (some ⟨GZ, 32, none⟩) 32 32)) rfl (by kernel_rfl) (by kernel_rfl) (by kernel_rfl) (by kernel_rfl) (by kernel_rfl) (fun _ _ _ h => h) (Or.inl ⟨by rfl, ?_⟩) hS ?_
  ·
   intro w' hw'
   go_simp
  simp only [Act.put, List.setIfInBounds_toArray, List.set_cons_zero, List.set_cons_succ]
  refine wpAnyZ_takeL 1 (v := (.slice (some ⟨g7r5, 0, none⟩) 32 32)) rfl (by kernel_rfl) (by kernel_rfl) (by kernel_rfl) (by kernel_rfl) (by kernel_rfl) (fun _ _ _ h => h) (Or.inl ⟨by rfl, ?_⟩) hS ?_
  ·
   intro w' hw'
   go_simp
  simp only [Act.put, List.setIfInBounds_toArray, List.set_cons_zero, List.set_cons_succ]
  refine wpAnyZ_copy_end 2 rfl (by kernel_rfl) rfl _ _ _ _ rfl 5 Tryz.underlying29 (by kernel_rfl) (GZ) 32 _ _ ⟨g7r5, 0, none⟩ _ _ rfl rfl _ _ (hS.blkAt (GZ) 48 (Iv .u8 (Sg NF 0)) (.head _)) (kcs NS) (by rw [kcs_length]; rfl) (kcs_key (hS.blkAt (g7r5) 23 (Iv .u8 (keyOf NS)) (.tail _ (.head _)))) (by rw [kcs_length]; show _ ≤ (Iv .u8 _).size; rw [Iv_size]; first | (rw [Sg_length]; decide) | decide) (kcs_one NS) (Iv .u8 (Sg NF NS)) (copy_hi NS NF 0) (by kernel_rfl) (by kernel_rfl) ?_
  try simp only [Act.put, List.setIfInBounds_toArray, List.set_cons_zero, List.set_cons_succ]
  replace hB := below_setRow hB (g := GZ) (by omega) (Iv .u8 (Sg NF NS))
  replace hS : Facts [.blk (GZ) 48 (Iv .u8 (Sg NF NS)), .blk (g7r5) 23 (Iv .u8 (keyOf NS)), .blk (B6) 23 (Iv .u8 (keyOf NU)), .blk (B5) 23 (Iv .u8 (keyOf NF)), .blk (B4) 23 (Iv .u8 (keyOf NR)), .blk (B2) 23 (Iv .u8 (keyOf NP)), .blk (B1) 23 (Iv .u8 (keyOf NC)), .blk (w.heap.size) 23 (Iv .u8 (keyOf NA)), .bel w] _ := Facts.cons (f := .blk (GZ) 48 (Iv .u8 (Sg NF NS))) ((hS.blkAt (GZ) 48 (Iv .u8 (Sg NF 0)) (.head _)).row _) (Facts.cons (f := .blk (g7r5) 23 (Iv .u8 (keyOf NS))) ((hS.blkAt (g7r5) 23 (Iv .u8 (keyOf NS)) (.tail _ (.head _))).rowFar (k := GZ) (blk_ne (hS.blkAt _ _ _ (.tail _ (.head _))) (hS.blkAt _ _ _ (.head _)) (by decide)) _) (Facts.cons (f := .blk (B6) 23 (Iv .u8 (keyOf NU))) ((hS.blkAt (B6) 23 (Iv .u8 (keyOf NU)) (.tail _ (.tail _ (.head _)))).rowFar (k := GZ) (blk_ne (hS.blkAt _ _ _ (.tail _ (.tail _ (.head _)))) (hS.blkAt _ _ _ (.head _)) (by decide)) _) (Facts.cons (f := .blk (B5) 23 (Iv .u8 (keyOf NF))) ((hS.blkAt (B5) 23 (Iv .u8 (keyOf NF)) (.tail _ (.tail _ (.tail _ (.head _))))).rowFar (k := GZ) (blk_ne (hS.blkAt _ _ _ (.tail _ (.tail _ (.tail _ (.head _))))) (hS.blkAt _ _ _ (.head _)) (by decide)) _) (Facts.cons (f := .blk (B4) 23 (Iv .u8 (keyOf NR))) ((hS.blkAt (B4) 23 (Iv .u8 (keyOf NR)) (.tail _ (.tail _ (.tail _ (.tail _ (.head _)))))).rowFar (k := GZ) (blk_ne (hS.blkAt _ _ _ (.tail _ (.tail _ (.tail _ (.tail _ (.head _)))))) (hS.blkAt _ _ _ (.head _)) (by decide)) _) (Facts.cons (f := .blk (B2) 23 (Iv .u8 (keyOf NP))) ((hS.blkAt (B2) 23 (Iv .u8 (keyOf NP)) (.tail _ (.tail _ (.tail _ (.tail _ (.tail _ (.head _))))))).rowFar (k := GZ) (blk_ne (hS.blkAt _ _ _ (.tail _ (.tail _ (.tail _ (.tail _ (.tail _ (.head _))))))) (hS.blkAt _ _ _ (.head _)) (by decide)) _) (Facts.cons (f := .blk (B1) 23 (Iv .u8 (keyOf NC))) ((hS.blkAt (B1) 23 (Iv .u8 (keyOf NC)) (.tail _ (.tail _ (.tail _ (.tail _ (.tail _ (.tail _ (.head _)))))))).rowFar (k := GZ) (blk_ne (hS.blkAt _ _ _ (.tail _ (.tail _ (.tail _ (.tail _ (.tail _ (.tail _ (.head _)))))))) (hS.blkAt _ _ _ (.head _)) (by decide)) _) (Facts.cons (f := .blk (w.heap.size) 23 (Iv .u8 (keyOf NA))) ((hS.blkAt (w.heap.size) 23 (Iv .u8 (keyOf NA)) (.tail _ (.tail _ (.tail _ (.tail _ (.tail _ (.tail _ (.tail _ (.head _))))))))).rowFar (k := GZ) (blk_ne (hS.blkAt _ _ _ (.tail _ (.tail _ (.tail _ (.tail _ (.tail _ (.tail _ (.tail _ (.head _))))))))) (hS.blkAt _ _ _ (.head _)) (by decide)) _) (Facts.cons (f := .bel w) (by first | exact hB | exact below_setRow hB (by omega) _) (Facts.nil)))))))))
  replace K1 := K1.rowFar (k := GZ) (by omega) (Iv .u8 (Sg NF NS))
  generalize hWn : World.setRow _ _ _ = Wn at *
  clear hWn
  go_upto_region 9 with fail
  refine wp_region_seq ?_
  refine wpSeq_yield (S := Facts [.blk (GZ) 48 (Iv .u8 (Sg NF NS)), .blk (g7r5) 23 (Iv .u8 (keyOf NS)), .blk (B6) 23 (Iv .u8 (keyOf NU)), .blk (B5) 23 (Iv .u8 (keyOf NF)), .blk (B4) 23 (Iv .u8 (keyOf NR)), .blk (B2) 23 (Iv .u8 (keyOf NP)), .blk (B1) 23 (Iv .u8 (keyOf NC)), .blk (w.heap.size) 23 (Iv .u8 (keyOf NA)), .bel w]) (show YieldsIf _ _ _ _ (.agg (Iv .u8 (Sg NF NS))) _ from yieldsIf_load rfl 48 _ rfl (GZ) rfl 48 _ _ (.head _) Tryz.underlying48 rfl (info_Sg _ _)) hS ?_
  simp only [Act.put, List.setIfInBounds_toArray, List.set_cons_zero, List.set_cons_succ]
  refine wpSeq_store_row rfl 48 _ _ rfl (w.heap.size + 1) (Iv .u8 (Sg NF NS)) rfl rfl _ _ K1 (info_Sg _ _) (by simp only [Iv_size, keyOf_length, Sg_length, List.length_replicate]) (Iv_one _ _) ?_
  try simp only [Act.put, List.setIfInBounds_toArray, List.set_cons_zero, List.set_cons_succ]
  replace hB := below_setRow hB (g := w.heap.size + 1) (by omega) (Iv .u8 (Sg NF NS))
  replace hS : Facts [.blk (GZ) 48 (Iv .u8 (Sg NF NS)), .blk (g7r5) 23 (Iv .u8 (keyOf NS)), .blk (B6) 23 (Iv .u8 (keyOf NU)), .blk (B5) 23 (Iv .u8 (keyOf NF)), .blk (B4) 23 (Iv .u8 (keyOf NR)), .blk (B2) 23 (Iv .u8 (keyOf NP)), .blk (B1) 23 (Iv .u8 (keyOf NC)), .blk (w.heap.size) 23 (Iv .u8 (keyOf NA)), .bel w] _ := Facts.cons (f := .blk (GZ) 48 (Iv .u8 (Sg NF NS))) ((hS.blkAt (GZ) 48 (Iv .u8 (Sg NF NS)) (.head _)).rowFar (k := w.heap.size + 1) (by omega) (Iv .u8 (Sg NF NS))) (Facts.cons (f := .blk (g7r5) 23 (Iv .u8 (keyOf NS))) ((hS.blkAt (g7r5) 23 (Iv .u8 (keyOf NS)) (.tail _ (.head _))).rowFar (k := w.heap.size + 1) (blk_ne (hS.blkAt (g7r5) 23 (Iv .u8 (keyOf NS)) (.tail _ (.head _))) K1 (by decide)) (Iv .u8 (Sg NF NS))) (Facts.cons (f := .blk (B6) 23 (Iv .u8 (keyOf NU))) ((hS.blkAt (B6) 23 (Iv .u8 (keyOf NU)) (.tail _ (.tail _ (.head _)))).rowFar (k := w.heap.size + 1) (blk_ne (hS.blkAt (B6) 23 (Iv .u8 (keyOf NU)) (.tail _ (.tail _ (.head _)))) K1 (by decide)) (Iv .u8 (Sg NF NS))) (Facts.cons (f := .blk (B5) 23 (Iv .u8 (keyOf NF))) ((hS.blkAt (B5) 23 (Iv .u8 (keyOf NF)) (.tail _ (.tail _ (.tail _ (.head _))))).rowFar (k := w.heap.size + 1) (blk_ne (hS.blkAt (B5) 23 (Iv .u8 (keyOf NF)) (.tail _ (.tail _ (.tail _ (.head _))))) K1 (by decide)) (Iv .u8 (Sg NF NS))) (Facts.cons (f := .blk (B4) 23 (Iv .u8 (keyOf NR))) ((hS.blkAt (B4) 23 (Iv .u8 (keyOf NR)) (.tail _ (.tail _ (.tail _ (.tail _ (.head _)))))).rowFar (k := w.heap.size + 1) (blk_ne (hS.blkAt (B4) 23 (Iv .u8 (keyOf NR)) (.tail _ (.tail _ (.tail _ (.tail _ (.head _)))))) K1 (by decide)) (Iv .u8 (Sg NF NS))) (Facts.cons (f := .blk (B2) 23 (Iv .u8 (keyOf NP))) ((hS.blkAt (B2) 23 (Iv .u8 (keyOf NP)) (.tail _ (.tail _ (.tail _ (.tail _ (.tail _ (.head _))))))).rowFar (k := w.heap.size + 1) (blk_ne (hS.blkAt (B2) 23 (Iv .u8 (keyOf NP)) (.tail _ (.tail _ (.tail _ (.tail _ (.tail _ (.head _))))))) K1 (by decide)) (Iv .u8 (Sg NF NS))) (Facts.cons (f := .blk (B1) 23 (Iv .u8 (keyOf NC))) ((hS.blkAt (B1) 23 (Iv .u8 (keyOf NC)) (.tail _ (.tail _ (.tail _ (.tail _ (.tail _ (.tail _ (.head _)))))))).rowFar (k := w.heap.size + 1) (blk_ne (hS.blkAt (B1) 23 (Iv .u8 (keyOf NC)) (.tail _ (.tail _ (.tail _ (.tail _ (.tail _ (.tail _ (.head _)))))))) K1 (by decide)) (Iv .u8 (Sg NF NS))) (Facts.cons (f := .blk (w.heap.size) 23 (Iv .u8 (keyOf NA))) ((hS.blkAt (w.heap.size) 23 (Iv .u8 (keyOf NA)) (.tail _ (.tail _ (.tail _ (.tail _ (.tail _ (.tail _ (.tail _ (.head _))))))))).rowFar (k := w.heap.size + 1) (blk_ne (hS.blkAt (w.heap.size) 23 (Iv .u8 (keyOf NA)) (.tail _ (.tail _ (.tail _ (.tail _ (.tail _ (.tail _ (.tail _ (.head _))))))))) K1 (by decide)) (Iv .u8 (Sg NF NS))) (Facts.cons (f := .bel w) (by first | exact hB | exact below_setRow hB (by omega) _) (Facts.nil)))))))))
  replace K1 := K1.row (Iv .u8 (Sg NF NS))
  generalize hWn : World.setRow _ _ _ = Wn at *
  clear hWn
  refine wpSeq_nil ?_
  go_wp2
  exact bodyPost_ret (results_cell_row rfl _ _ _ 48 _ (0, 0) _ rfl K1 Tryz.underlying48 rfl (info_Sg _ _)) rfl ⟨rfl, hB⟩
end Go.Proofs.YtegbnadnodlalaaGreatDoor
