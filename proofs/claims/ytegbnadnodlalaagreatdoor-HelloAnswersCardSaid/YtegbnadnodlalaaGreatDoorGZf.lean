/- sign's challenge, Public (printed by gencurve.py). -/
import Derived.Test.YtegbnadnodlalaaGreatDoorGZe
namespace Go.Proofs.YtegbnadnodlalaaGreatDoor
open Go.RowKit
open Ed
open H5 (NI NI_length NI_inj Bytes BA SB SP sha sha_length sha_bytes sum512_l Tab Sq)
def onceN (cu sq : Nat → Nat) (n : Nat) (l : List Nat) : Nat := redN (sha cu sq (kb (preN cu sq n) ++ l))
def pubN (cu sq : Nat → Nat) (n : Nat) : Nat := textN (times ok (numN cu sq n) bb)
def firN (cu sq : Nat → Nat) (n : Nat) (l : List Nat) : Nat := textN (times ok (onceN cu sq n l) bb)
def chalN (cu sq : Nat → Nat) (f p : Nat) (l : List Nat) : Nat := redN (sha cu sq (kb f ++ (kb p ++ l)))
def secN (cu sq : Nat → Nat) (n : Nat) (l : List Nat) : Nat := (chalN cu sq (firN cu sq n l) (pubN cu sq n) l * numN cu sq n + onceN cu sq n l) % ell
theorem flat3 (a b : Nat) (l : List Nat) : [kb a, kb b, l].flatten = kb a ++ (kb b ++ l) := by simp
theorem flat2 (a : Nat) (l : List Nat) : [kb a, l].flatten = kb a ++ l := by simp
theorem bytes3 (a b : Nat) {l : List Nat} (bl : Bytes l) : ∀ x ∈ [kb a, kb b, l], Bytes x := fun x h => by
 rcases List.mem_cons.1 h with rfl | h
 · exact kb_bytes a
 rcases List.mem_cons.1 h with rfl | h
 · exact kb_bytes b
 · rw [List.mem_singleton.1 h]; exact bl
theorem bytes2 (a : Nat) {l : List Nat} (bl : Bytes l) : ∀ x ∈ [kb a, l], Bytes x := fun x h => by
 rcases List.mem_cons.1 h with rfl | h
 · exact kb_bytes a
 · rw [List.mem_singleton.1 h]; exact bl
theorem len3 (a b : Nat) {l : List Nat} (ln : l.length < 1152921504606846976) : [kb a, kb b, l].flatten.length < 2305843009213693952 := by
 rw [flat3, List.length_append, List.length_append, kb_length, kb_length]; omega
theorem len2 (a : Nat) {l : List Nat} (ln : l.length < 1152921504606846976) : [kb a, l].flatten.length < 2305843009213693952 := by
 rw [flat2, List.length_append, kb_length]; omega
set_option maxHeartbeats 8000000 in
set_option maxRecDepth 100000 in
theorem challenge_n (cu sq : Nat → Nat) (bv : Value) (l : List Nat) (bl : Bytes l) (ln : l.length < 1152921504606846976) (n1 n2 N : Nat) (hN : N = chalN cu sq n1 n2 l) (w : World) (T : Tab w cu) (SQ : Sq w sq) (hb : SB w bv l) :
  Calls Tryz.prog 49 #[Key (keyOf n1), Key (keyOf n2), bv] w fun e w' => e = .returned (Key (keyOf N)) ∧ Below w.heap.size w w' := by
 have bT := T.blk
 have bSQ := SQ.blk
 unfold chalN at hN
 have HN := Lib.hid hN
 clear hN
 unfold Key
 go_enter Tryz.func49, Tryz.ntmps49
 go_upto_region 1 with fail
 generalize hW : World.alloc (World.alloc (World.alloc w _) _) _ = W
 have hB : Below w.heap.size w W := hW ▸ (((Below.refl w.heap.size w).alloc (Nat.le_refl _) _).alloc (by simp) _).alloc (by simp; omega) _
 have K0 : Blk W (w.heap.size) 23 (Iv .u8 (keyOf n1)) := hW ▸ (((Blk.new' (by simp) _ _).alloc _).alloc _)
 have K1 : Blk W (w.heap.size + 1) 23 (Iv .u8 (keyOf n2)) := hW ▸ ((Blk.new' (by simp) _ _).alloc _)
 have K2 : Blk W (w.heap.size + 1 + 1) 23 (Iv .u8 (List.replicate 32 0)) := hW ▸ (Blk.new' (by simp) _ _)
 have hS : Facts [.blk (w.heap.size) 23 (Iv .u8 (keyOf n1)), .blk (w.heap.size + 1) 23 (Iv .u8 (keyOf n2)), .bel w] W := Facts.cons (f := .blk (w.heap.size) 23 (Iv .u8 (keyOf n1))) K0 (Facts.cons (f := .blk (w.heap.size + 1) 23 (Iv .u8 (keyOf n2))) K1 (Facts.cons (f := .bel w) hB Facts.nil))
 clear hW K0 K1
 replace hS := hS.drew
 replace hB := below_drew hB
 replace K2 := K2.drew
 refine wp_region_Z (S := Facts [.blk (w.heap.size) 23 (Iv .u8 (keyOf n1)), .blk (w.heap.size + 1) 23 (Iv .u8 (keyOf n2)), .bel w]) 5 (by kernel_rfl) ?_
 refine wpAnyZ_takeL 0 (v := (.slice (some ⟨w.heap.size, 0, none⟩) 32 32)) rfl (by kernel_rfl) (by kernel_rfl) (by kernel_rfl) (by kernel_rfl) (by kernel_rfl) (fun _ _ _ h => h) (Or.inl ⟨by rfl, ?_⟩) hS ?_
 ·
  intro w' hw'
  go_simp
 simp only [Act.put, List.setIfInBounds_toArray, List.set_cons_zero, List.set_cons_succ]
 refine wpAnyZ_takeL 1 (v := (.slice (some ⟨w.heap.size + 1, 0, none⟩) 32 32)) rfl (by kernel_rfl) (by kernel_rfl) (by kernel_rfl) (by kernel_rfl) (by kernel_rfl) (fun _ _ _ h => h) (Or.inl ⟨by rfl, ?_⟩) hS ?_
 ·
  intro w' hw'
  go_simp
 simp only [Act.put, List.setIfInBounds_toArray, List.set_cons_zero, List.set_cons_succ]
 refine wpAnyZ_takeL 2 rfl (by kernel_rfl) (by kernel_rfl) (by kernel_rfl) (by kernel_rfl) (by kernel_rfl) (fun _ _ _ h => h) (yieldsIf_move rfl _ rfl _ rfl) hS ?_
 simp only [Act.put, List.setIfInBounds_toArray, List.set_cons_zero, List.set_cons_succ]
 refine wpAnyZ_list3 3 rfl (by kernel_rfl) rfl _ _ _ rfl (.slice (some ⟨w.heap.size, 0, none⟩) 32 32) (.slice (some ⟨w.heap.size + 1, 0, none⟩) 32 32) bv (kb n1) (kb n2) l rfl rfl rfl (sb_key (hS.blkAt (w.heap.size) 23 (Iv .u8 (keyOf n1)) (.head _))) (sb_key (hS.blkAt (w.heap.size + 1) 23 (Iv .u8 (keyOf n2)) (.tail _ (.head _)))) (hb.below (hS.belAt w (.tail _ (.tail _ (.head _))))) (fun W b => hS.below b) ?_
 intro V1 CV1 AV1 b
 replace hB := hB.trans (b.mono hB.size)
 replace hS := hS.below b
 replace K2 := K2.below' b
 clear b
 simp only [Act.put, List.setIfInBounds_toArray, List.set_cons_zero, List.set_cons_succ]
 refine wpAnyZ_one (i := 4) (by kernel_rfl) ?_
 unfold wpOp
 go_simp
 left
 refine (reduced_n cu sq V1 [kb n1, kb n2, l] N (by rw [flat3]; exact HN.out) (bytes3 n1 n2 bl) (by simp) (len3 n1 n2 ln) _ (T.below (hS.belAt w (.tail _ (.tail _ (.head _))))) (SQ.below (hS.belAt w (.tail _ (.tail _ (.head _))))) AV1).mono ?_
 rintro e v1 ⟨rfl, b⟩
 replace hB := hB.trans (b.mono hB.size)
 replace hS := hS.below b
 replace K2 := K2.below' b
 clear b
 refine ⟨hS, ?_⟩
 refine wpAnyZ_store_end 5 rfl (by kernel_rfl) rfl _ _ _ rfl (w.heap.size + 1 + 1) (Iv .u8 (keyOf N)) rfl rfl _ _ K2 (info_key _ (keyOf_length _)) (by simp only [Iv_size, keyOf_length, Sg_length, List.length_replicate]) (Iv_one _ _) (by kernel_rfl) ?_
 try simp only [Act.put, List.setIfInBounds_toArray, List.set_cons_zero, List.set_cons_succ]
 replace hB := below_setRow hB (g := w.heap.size + 1 + 1) (by omega) (Iv .u8 (keyOf N))
 replace hS : Facts [.blk (w.heap.size) 23 (Iv .u8 (keyOf n1)), .blk (w.heap.size + 1) 23 (Iv .u8 (keyOf n2)), .bel w] _ := Facts.cons (f := .blk (w.heap.size) 23 (Iv .u8 (keyOf n1))) ((hS.blkAt (w.heap.size) 23 (Iv .u8 (keyOf n1)) (.head _)).rowFar (k := w.heap.size + 1 + 1) (by omega) (Iv .u8 (keyOf N))) (Facts.cons (f := .blk (w.heap.size + 1) 23 (Iv .u8 (keyOf n2))) ((hS.blkAt (w.heap.size + 1) 23 (Iv .u8 (keyOf n2)) (.tail _ (.head _))).rowFar (k := w.heap.size + 1 + 1) (by omega) (Iv .u8 (keyOf N))) (Facts.cons (f := .bel w) (by first | exact hB | exact below_setRow hB (by omega) _) (Facts.nil)))
 replace K2 := K2.row (Iv .u8 (keyOf N))
 generalize hWn : World.setRow _ _ _ = Wn at *
 clear hWn
 refine wpAnyZ_done (by kernel_rfl) ?_ _
 go_wp2
 exact bodyPost_ret (results_cell_row rfl _ _ _ 23 _ (0, 0) _ rfl K2 Tryz.underlying23 rfl (info_key _ (keyOf_length _))) rfl ⟨rfl, hB⟩
set_option maxHeartbeats 8000000 in
set_option maxRecDepth 100000 in
theorem public_n (cu sq : Nat → Nat) (NA NU : Nat) (hNU : NU = pubN cu sq NA) (w : World) (T : Tab w cu) (SQ : Sq w sq) (GX : Rng w 1 (Iv .u8 (keyOf bxN))) (GY : Rng w 2 (Iv .u8 (keyOf byN))) (GD : Rng w 3 (Iv .u8 (keyOf dN))) :
  Calls Tryz.prog 15 #[Key (keyOf NA)] w fun e w' => e = .returned (Key (keyOf NU)) ∧ Below w.heap.size w w' := by
 have bGX := GX.blk
 have bGY := GY.blk
 have bGD := GD.blk
 have ipbase := pbase_is
 have bT := T.blk
 have bSQ := SQ.blk
 obtain ⟨NC, hNC⟩ : ∃ t, t = numN cu sq NA := ⟨_, rfl⟩
 have kNC : NC < p256 := hNC ▸ numN_lt _ _ _
 obtain ⟨NP, hNP⟩ : ∃ t, t = preN cu sq NA := ⟨_, rfl⟩
 have kNP : NP < p256 := hNP ▸ preN_lt _ _ _
 unfold pubN at hNU
 rw [← hNC] at hNU
 have HNU := Lib.hid hNU
 clear hNU
 have HNC := Lib.hid hNC
 clear hNC
 have HNP := Lib.hid hNP
 clear hNP
 unfold Key
 go_enter Tryz.func15, Tryz.ntmps15
 go_upto_region 1 with fail
 generalize hW : World.alloc (World.alloc w _) _ = W
 have hB : Below w.heap.size w W := hW ▸ ((Below.refl w.heap.size w).alloc (Nat.le_refl _) _).alloc (by simp) _
 have K0 : Blk W (w.heap.size) 23 (Iv .u8 (keyOf NA)) := hW ▸ ((Blk.new' (by simp) _ _).alloc _)
 have K1 : Blk W (w.heap.size + 1) 23 (Iv .u8 (List.replicate 32 0)) := hW ▸ (Blk.new' (by simp) _ _)
 have hS : Facts [.blk (w.heap.size) 23 (Iv .u8 (keyOf NA)), .bel w] W := Facts.cons (f := .blk (w.heap.size) 23 (Iv .u8 (keyOf NA))) K0 (Facts.cons (f := .bel w) hB Facts.nil)
 clear hW K0
 refine wp_region_seq ?_
 refine wpSeq_yield (S := Facts [.blk (w.heap.size) 23 (Iv .u8 (keyOf NA)), .bel w]) (show YieldsIf _ _ _ _ (Key (keyOf NA)) _ from yieldsIf_load rfl 23 _ rfl (w.heap.size) rfl 23 _ _ (.head _) Tryz.underlying23 rfl (info_key _ (keyOf_length _))) hS ?_
 simp only [Act.put, List.setIfInBounds_toArray, List.set_cons_zero, List.set_cons_succ]
 refine wpSeq_wp rfl ?_
 go_simp
 refine (parts_n cu sq NA NC NP HNC.out HNP.out _ (T.below (hS.belAt w (.tail _ (.head _)))) (SQ.below (hS.belAt w (.tail _ (.head _))))).mono ?_
 rintro e v1 ⟨rfl, b⟩
 replace hB := hB.trans (b.mono hB.size)
 replace hS := hS.below b
 replace K1 := K1.below' b
 clear b
 show wpSeq _ _ _ _ _ _
 refine wpSeq_yield (S := Facts [.blk (w.heap.size) 23 (Iv .u8 (keyOf NA)), .bel w]) (yieldsIf_move rfl _ rfl _ rfl) hS ?_
 simp only [Act.put, List.setIfInBounds_toArray, List.set_cons_zero, List.set_cons_succ]
 refine wpSeq_yield (S := Facts [.blk (w.heap.size) 23 (Iv .u8 (keyOf NA)), .bel w]) (show YieldsIf _ _ _ _ (Key (keyOf NC)) _ from yieldsIf_extract rfl _ _ rfl _ rfl _ rfl) hS ?_
 simp only [Act.put, List.setIfInBounds_toArray, List.set_cons_zero, List.set_cons_succ]
 refine wpSeq_yield (S := Facts [.blk (w.heap.size) 23 (Iv .u8 (keyOf NA)), .bel w]) (show YieldsIf _ _ _ _ (Key (keyOf NP)) _ from yieldsIf_extract rfl _ _ rfl _ rfl _ rfl) hS ?_
 simp only [Act.put, List.setIfInBounds_toArray, List.set_cons_zero, List.set_cons_succ]
 refine wpSeq_allocQ 23 (Iv .u8 (List.replicate 32 0)) rfl (fun W => by go_simp; rfl) ?_
 intro B1 C1 AB1 b mB1
 simp only [Act.put, List.setIfInBounds_toArray, List.set_cons_zero, List.set_cons_succ]
 have hb := b
 clear b
 refine wpSeq_allocQ 23 (Iv .u8 (List.replicate 32 0)) rfl (fun W => by go_simp; rfl) ?_
 intro B2 C2 AB2 b mB2
 simp only [Act.put, List.setIfInBounds_toArray, List.set_cons_zero, List.set_cons_succ]
 have dB1_B2 : B1 < B2 := Nat.lt_of_lt_of_le AB1.lt mB2
 replace AB1 := AB1.below' b
 replace mB2 := Nat.le_trans hb.size mB2
 replace hb := hb.trans (b.mono hb.size)
 clear b
 refine wpSeq_store_row rfl 23 _ _ rfl (B1) (Iv .u8 (keyOf NC)) rfl rfl _ _ AB1 (info_key _ (keyOf_length _)) (by simp only [Iv_size, keyOf_length, Sg_length, List.length_replicate]) (Iv_one _ _) ?_
 try simp only [Act.put, List.setIfInBounds_toArray, List.set_cons_zero, List.set_cons_succ]
 replace AB2 := AB2.rowFar (k := B1) (by omega) (Iv .u8 (keyOf NC))
 replace AB1 := AB1.row (Iv .u8 (keyOf NC))
 replace hb := below_setRow hb mB1 (Iv .u8 (keyOf NC))
 generalize hWn : World.setRow _ _ _ = Wn at *
 clear hWn
 refine wpSeq_store_row rfl 23 _ _ rfl (B2) (Iv .u8 (keyOf NP)) rfl rfl _ _ AB2 (info_key _ (keyOf_length _)) (by simp only [Iv_size, keyOf_length, Sg_length, List.length_replicate]) (Iv_one _ _) ?_
 try simp only [Act.put, List.setIfInBounds_toArray, List.set_cons_zero, List.set_cons_succ]
 replace AB1 := AB1.rowFar (k := B2) (by omega) (Iv .u8 (keyOf NP))
 replace AB2 := AB2.row (Iv .u8 (keyOf NP))
 replace hb := below_setRow hb mB2 (Iv .u8 (keyOf NP))
 generalize hWn : World.setRow _ _ _ = Wn at *
 clear hWn
 have eB1_0 := Nat.lt_of_lt_of_le (hS.blkAt (w.heap.size) 23 (Iv .u8 (keyOf NA)) (.head _)).lt mB1
 have uB1_K1 := Nat.lt_of_lt_of_le K1.lt mB1
 replace mB1 := Nat.le_trans hB.size mB1
 have eB2_0 := Nat.lt_of_lt_of_le (hS.blkAt (w.heap.size) 23 (Iv .u8 (keyOf NA)) (.head _)).lt mB2
 have uB2_K1 := Nat.lt_of_lt_of_le K1.lt mB2
 replace mB2 := Nat.le_trans hB.size mB2
 replace hB := hB.trans (hb.mono hB.size)
 replace hS := hS.below hb
 replace K1 := K1.below' hb
 clear hb
 replace hS : Facts [.blk (B1) 23 (Iv .u8 (keyOf NC)), .blk (w.heap.size) 23 (Iv .u8 (keyOf NA)), .bel w] _ := Facts.cons (f := .blk B1 23 (Iv .u8 (keyOf NC))) AB1 hS
 clear AB1
 replace hS : Facts [.blk (B2) 23 (Iv .u8 (keyOf NP)), .blk (B1) 23 (Iv .u8 (keyOf NC)), .blk (w.heap.size) 23 (Iv .u8 (keyOf NA)), .bel w] _ := Facts.cons (f := .blk B2 23 (Iv .u8 (keyOf NP))) AB2 hS
 clear AB2
 refine wpSeq_nil ?_
 go_upto_region 2 with fail
 refine wp_region_seq ?_
 refine wpSeq_yield (S := Facts [.blk (B2) 23 (Iv .u8 (keyOf NP)), .blk (B1) 23 (Iv .u8 (keyOf NC)), .blk (w.heap.size) 23 (Iv .u8 (keyOf NA)), .bel w]) (show YieldsIf _ _ _ _ (Key (keyOf NC)) _ from yieldsIf_load rfl 23 _ rfl (B1) rfl 23 _ _ (.tail _ (.head _)) Tryz.underlying23 rfl (info_key _ (keyOf_length _))) hS ?_
 simp only [Act.put, List.setIfInBounds_toArray, List.set_cons_zero, List.set_cons_succ]
 obtain ⟨q0, hq0⟩ : ∃ q : P4, q = pmul NC pbase 256 := ⟨_, rfl⟩
 have iq0 : q0.Is (times ok NC bb) := by rw [hq0]; exact pmul_is256 NC kNC ipbase
 have Hq0 := Lib.hid hq0
 clear hq0
 refine wpSeq_wp rfl ?_
 go_simp
 refine (timesBase_n NC q0 kNC Hq0.out _ (GX.below (hS.belAt w (.tail _ (.tail _ (.tail _ (.head _)))))) (GY.below (hS.belAt w (.tail _ (.tail _ (.tail _ (.head _)))))) (GD.below (hS.belAt w (.tail _ (.tail _ (.tail _ (.head _))))))).mono ?_
 rintro e v2 ⟨rfl, b⟩
 replace hB := hB.trans (b.mono hB.size)
 replace hS := hS.below b
 replace K1 := K1.below' b
 clear b
 show wpSeq _ _ _ _ _ _
 refine wpSeq_wp rfl ?_
 go_simp
 refine (cenc q0 (times ok NC bb) iq0 NU HNU.out _).mono ?_
 rintro e v3 ⟨rfl, b⟩
 replace hB := hB.trans (b.mono hB.size)
 replace hS := hS.below b
 replace K1 := K1.below' b
 clear b
 show wpSeq _ _ _ _ _ _
 refine wpSeq_store_row rfl 23 _ _ rfl (w.heap.size + 1) (Iv .u8 (keyOf NU)) rfl rfl _ _ K1 (info_key _ (keyOf_length _)) (by simp only [Iv_size, keyOf_length, Sg_length, List.length_replicate]) (Iv_one _ _) ?_
 try simp only [Act.put, List.setIfInBounds_toArray, List.set_cons_zero, List.set_cons_succ]
 replace hB := below_setRow hB (g := w.heap.size + 1) (by omega) (Iv .u8 (keyOf NU))
 replace hS : Facts [.blk (B2) 23 (Iv .u8 (keyOf NP)), .blk (B1) 23 (Iv .u8 (keyOf NC)), .blk (w.heap.size) 23 (Iv .u8 (keyOf NA)), .bel w] _ := Facts.cons (f := .blk (B2) 23 (Iv .u8 (keyOf NP))) ((hS.blkAt (B2) 23 (Iv .u8 (keyOf NP)) (.head _)).rowFar (k := w.heap.size + 1) (by omega) (Iv .u8 (keyOf NU))) (Facts.cons (f := .blk (B1) 23 (Iv .u8 (keyOf NC))) ((hS.blkAt (B1) 23 (Iv .u8 (keyOf NC)) (.tail _ (.head _))).rowFar (k := w.heap.size + 1) (by omega) (Iv .u8 (keyOf NU))) (Facts.cons (f := .blk (w.heap.size) 23 (Iv .u8 (keyOf NA))) ((hS.blkAt (w.heap.size) 23 (Iv .u8 (keyOf NA)) (.tail _ (.tail _ (.head _)))).rowFar (k := w.heap.size + 1) (by omega) (Iv .u8 (keyOf NU))) (Facts.cons (f := .bel w) (by first | exact hB | exact below_setRow hB (by omega) _) (Facts.nil))))
 replace K1 := K1.row (Iv .u8 (keyOf NU))
 generalize hWn : World.setRow _ _ _ = Wn at *
 clear hWn
 refine wpSeq_nil ?_
 go_wp2
 exact bodyPost_ret (results_cell_row rfl _ _ _ 23 _ (0, 0) _ rfl K1 Tryz.underlying23 rfl (info_key _ (keyOf_length _))) rfl ⟨rfl, hB⟩
end Go.Proofs.YtegbnadnodlalaaGreatDoor
