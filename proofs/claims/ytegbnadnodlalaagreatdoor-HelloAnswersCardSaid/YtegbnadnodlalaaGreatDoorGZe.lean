/- sign's halves, timesBase, reduced, parts (printed by gencurve.py). -/
import Derived.Test.YtegbnadnodlalaaGreatDoorGPn0GZd
namespace Go.Proofs.YtegbnadnodlalaaGreatDoor
open Go.RowKit
open Ed
open H5 (NI NI_length NI_inj Bytes BA SB SP sha sha_length sha_bytes sum512_l Tab Sq)
set_option maxHeartbeats 8000000 in
set_option maxRecDepth 100000 in
theorem halves_n (a b : Nat) (w : World)  :
  Calls Tryz.prog 50 #[(.agg (Iv .u8 (Sg a b)))] w fun e w' => e = .returned (.tuple #[Key (keyOf a), Key (keyOf b)]) ∧ Below w.heap.size w w' := by
 unfold Key
 go_enter Tryz.func50, Tryz.ntmps50
 go_upto_region 1 with fail
 generalize hW : World.alloc (World.alloc (World.alloc w _) _) _ = W
 have hB : Below w.heap.size w W := hW ▸ (((Below.refl w.heap.size w).alloc (Nat.le_refl _) _).alloc (by simp) _).alloc (by simp; omega) _
 have K0 : Blk W (w.heap.size) 48 (Iv .u8 (Sg a b)) := hW ▸ (((Blk.new' (by simp) _ _).alloc _).alloc _)
 have K1 : Blk W (w.heap.size + 1) 23 (Iv .u8 (List.replicate 32 0)) := hW ▸ ((Blk.new' (by simp) _ _).alloc _)
 have K2 : Blk W (w.heap.size + 1 + 1) 23 (Iv .u8 (List.replicate 32 0)) := hW ▸ (Blk.new' (by simp) _ _)
 have hS : Facts [.blk (w.heap.size) 48 (Iv .u8 (Sg a b)), .blk (w.heap.size + 1) 23 (Iv .u8 (List.replicate 32 0)), .blk (w.heap.size + 1 + 1) 23 (Iv .u8 (List.replicate 32 0)), .bel w] W := Facts.cons (f := .blk (w.heap.size) 48 (Iv .u8 (Sg a b))) K0 (Facts.cons (f := .blk (w.heap.size + 1) 23 (Iv .u8 (List.replicate 32 0))) K1 (Facts.cons (f := .blk (w.heap.size + 1 + 1) 23 (Iv .u8 (List.replicate 32 0))) K2 (Facts.cons (f := .bel w) hB Facts.nil)))
 clear hW K0 K1 K2
 replace hS := hS.drew
 replace hB := below_drew hB
 refine wp_region_Z (S := Facts [.blk (w.heap.size) 48 (Iv .u8 (Sg a b)), .blk (w.heap.size + 1) 23 (Iv .u8 (List.replicate 32 0)), .blk (w.heap.size + 1 + 1) 23 (Iv .u8 (List.replicate 32 0)), .bel w]) 2 (by kernel_rfl) ?_
 refine wpAnyZ_takeL 0 (v := (.slice (some ⟨w.heap.size + 1, 0, none⟩) 32 32)) rfl (by kernel_rfl) (by kernel_rfl) (by kernel_rfl) (by kernel_rfl) (by kernel_rfl) (fun _ _ _ h => h) (Or.inl ⟨by rfl, ?_⟩) hS ?_
 ·
  intro w' hw'
  go_simp
 simp only [Act.put, List.setIfInBounds_toArray, List.set_cons_zero, List.set_cons_succ]
 refine wpAnyZ_takeL 1 (v := (.slice (some ⟨w.heap.size, 0, none⟩) 32 64)) rfl (by kernel_rfl) (by kernel_rfl) (by kernel_rfl) (by kernel_rfl) (by kernel_rfl) (fun _ _ _ h => h) (Or.inl ⟨by rfl, ?_⟩) hS ?_
 ·
  intro w' hw'
  go_simp
 simp only [Act.put, List.setIfInBounds_toArray, List.set_cons_zero, List.set_cons_succ]
 refine wpAnyZ_copy_end 2 rfl (by kernel_rfl) rfl _ _ _ _ rfl 5 Tryz.underlying29 (by kernel_rfl) (w.heap.size + 1) 0 _ _ ⟨w.heap.size, 0, none⟩ _ _ rfl rfl _ _ (hS.blkAt (w.heap.size + 1) 23 (Iv .u8 (List.replicate 32 0)) (.tail _ (.head _))) (kcs a) (by rw [kcs_length]; rfl) (kcs_lo (hS.blkAt (w.heap.size) 48 (Iv .u8 (Sg a b)) (.head _))) (by rw [kcs_length]; show _ ≤ (Iv .u8 _).size; rw [Iv_size]; first | (rw [Sg_length]; decide) | decide) (kcs_one a) (Iv .u8 (keyOf a)) (copy_key a) (by kernel_rfl) (by kernel_rfl) ?_
 try simp only [Act.put, List.setIfInBounds_toArray, List.set_cons_zero, List.set_cons_succ]
 replace hB := below_setRow hB (g := w.heap.size + 1) (by omega) (Iv .u8 (keyOf a))
 replace hS : Facts [.blk (w.heap.size) 48 (Iv .u8 (Sg a b)), .blk (w.heap.size + 1) 23 (Iv .u8 (keyOf a)), .blk (w.heap.size + 1 + 1) 23 (Iv .u8 (List.replicate 32 0)), .bel w] _ := Facts.cons (f := .blk (w.heap.size) 48 (Iv .u8 (Sg a b))) ((hS.blkAt (w.heap.size) 48 (Iv .u8 (Sg a b)) (.head _)).rowFar (k := w.heap.size + 1) (blk_ne (hS.blkAt _ _ _ (.head _)) (hS.blkAt _ _ _ (.tail _ (.head _))) (by decide)) _) (Facts.cons (f := .blk (w.heap.size + 1) 23 (Iv .u8 (keyOf a))) ((hS.blkAt (w.heap.size + 1) 23 (Iv .u8 (List.replicate 32 0)) (.tail _ (.head _))).row _) (Facts.cons (f := .blk (w.heap.size + 1 + 1) 23 (Iv .u8 (List.replicate 32 0))) ((hS.blkAt (w.heap.size + 1 + 1) 23 (Iv .u8 (List.replicate 32 0)) (.tail _ (.tail _ (.head _)))).rowFar (k := w.heap.size + 1) (by first | omega | exact blk_ne (hS.blkAt _ _ _ (.tail _ (.tail _ (.head _)))) (hS.blkAt _ _ _ (.tail _ (.head _))) (by decide)) _) (Facts.cons (f := .bel w) (by first | exact hB | exact below_setRow hB (by omega) _) (Facts.nil))))
 generalize hWn : World.setRow _ _ _ = Wn at *
 clear hWn
 go_upto_region 2 with fail
 replace hS := hS.drew
 replace hB := below_drew hB
 refine wp_region_Z (S := Facts [.blk (w.heap.size) 48 (Iv .u8 (Sg a b)), .blk (w.heap.size + 1) 23 (Iv .u8 (keyOf a)), .blk (w.heap.size + 1 + 1) 23 (Iv .u8 (List.replicate 32 0)), .bel w]) 2 (by kernel_rfl) ?_
 refine wpAnyZ_takeL 0 (v := (.slice (some ⟨w.heap.size + 1 + 1, 0, none⟩) 32 32)) rfl (by kernel_rfl) (by kernel_rfl) (by kernel_rfl) (by kernel_rfl) (by kernel_rfl) (fun _ _ _ h => h) (Or.inl ⟨by rfl, ?_⟩) hS ?_
 ·
  intro w' hw'
  go_simp
 simp only [Act.put, List.setIfInBounds_toArray, List.set_cons_zero, List.set_cons_succ]
 refine wpAnyZ_takeL 1 (v := (.slice (some ⟨w.heap.size, 32, none⟩) 32 32)) rfl (by kernel_rfl) (by kernel_rfl) (by kernel_rfl) (by kernel_rfl) (by kernel_rfl) (fun _ _ _ h => h) (Or.inl ⟨by rfl, ?_⟩) hS ?_
 ·
  intro w' hw'
  go_simp
 simp only [Act.put, List.setIfInBounds_toArray, List.set_cons_zero, List.set_cons_succ]
 refine wpAnyZ_copy_end 2 rfl (by kernel_rfl) rfl _ _ _ _ rfl 5 Tryz.underlying29 (by kernel_rfl) (w.heap.size + 1 + 1) 0 _ _ ⟨w.heap.size, 32, none⟩ _ _ rfl rfl _ _ (hS.blkAt (w.heap.size + 1 + 1) 23 (Iv .u8 (List.replicate 32 0)) (.tail _ (.tail _ (.head _)))) (kcs b) (by rw [kcs_length]; rfl) (kcs_hi (hS.blkAt (w.heap.size) 48 (Iv .u8 (Sg a b)) (.head _))) (by rw [kcs_length]; show _ ≤ (Iv .u8 _).size; rw [Iv_size]; first | (rw [Sg_length]; decide) | decide) (kcs_one b) (Iv .u8 (keyOf b)) (copy_key b) (by kernel_rfl) (by kernel_rfl) ?_
 try simp only [Act.put, List.setIfInBounds_toArray, List.set_cons_zero, List.set_cons_succ]
 replace hB := below_setRow hB (g := w.heap.size + 1 + 1) (by omega) (Iv .u8 (keyOf b))
 replace hS : Facts [.blk (w.heap.size) 48 (Iv .u8 (Sg a b)), .blk (w.heap.size + 1) 23 (Iv .u8 (keyOf a)), .blk (w.heap.size + 1 + 1) 23 (Iv .u8 (keyOf b)), .bel w] _ := Facts.cons (f := .blk (w.heap.size) 48 (Iv .u8 (Sg a b))) ((hS.blkAt (w.heap.size) 48 (Iv .u8 (Sg a b)) (.head _)).rowFar (k := w.heap.size + 1 + 1) (blk_ne (hS.blkAt _ _ _ (.head _)) (hS.blkAt _ _ _ (.tail _ (.tail _ (.head _)))) (by decide)) _) (Facts.cons (f := .blk (w.heap.size + 1) 23 (Iv .u8 (keyOf a))) ((hS.blkAt (w.heap.size + 1) 23 (Iv .u8 (keyOf a)) (.tail _ (.head _))).rowFar (k := w.heap.size + 1 + 1) (by first | omega | exact blk_ne (hS.blkAt _ _ _ (.tail _ (.head _))) (hS.blkAt _ _ _ (.tail _ (.tail _ (.head _)))) (by decide)) _) (Facts.cons (f := .blk (w.heap.size + 1 + 1) 23 (Iv .u8 (keyOf b))) ((hS.blkAt (w.heap.size + 1 + 1) 23 (Iv .u8 (List.replicate 32 0)) (.tail _ (.tail _ (.head _)))).row _) (Facts.cons (f := .bel w) (by first | exact hB | exact below_setRow hB (by omega) _) (Facts.nil))))
 generalize hWn : World.setRow _ _ _ = Wn at *
 clear hWn
 go_upto_region 3 with fail
 refine wp_region_seq ?_
 refine wpSeq_yield (S := Facts [.blk (w.heap.size) 48 (Iv .u8 (Sg a b)), .blk (w.heap.size + 1) 23 (Iv .u8 (keyOf a)), .blk (w.heap.size + 1 + 1) 23 (Iv .u8 (keyOf b)), .bel w]) (show YieldsIf _ _ _ _ (Key (keyOf a)) _ from yieldsIf_load rfl 23 _ rfl (w.heap.size + 1) rfl 23 _ _ (.tail _ (.head _)) Tryz.underlying23 rfl (info_key _ (keyOf_length _))) hS ?_
 simp only [Act.put, List.setIfInBounds_toArray, List.set_cons_zero, List.set_cons_succ]
 refine wpSeq_yield (S := Facts [.blk (w.heap.size) 48 (Iv .u8 (Sg a b)), .blk (w.heap.size + 1) 23 (Iv .u8 (keyOf a)), .blk (w.heap.size + 1 + 1) 23 (Iv .u8 (keyOf b)), .bel w]) (show YieldsIf _ _ _ _ (Key (keyOf b)) _ from yieldsIf_load rfl 23 _ rfl (w.heap.size + 1 + 1) rfl 23 _ _ (.tail _ (.tail _ (.head _))) Tryz.underlying23 rfl (info_key _ (keyOf_length _))) hS ?_
 simp only [Act.put, List.setIfInBounds_toArray, List.set_cons_zero, List.set_cons_succ]
 refine wpSeq_store_row rfl 23 _ _ rfl (w.heap.size + 1) (Iv .u8 (keyOf a)) rfl rfl _ _ (hS.blkAt (w.heap.size + 1) 23 (Iv .u8 (keyOf a)) (.tail _ (.head _))) (info_key _ (keyOf_length _)) rfl (Iv_one _ _) ?_
 try simp only [Act.put, List.setIfInBounds_toArray, List.set_cons_zero, List.set_cons_succ]
 replace hB := below_setRow hB (g := w.heap.size + 1) (by omega) (Iv .u8 (keyOf a))
 replace hS : Facts [.blk (w.heap.size) 48 (Iv .u8 (Sg a b)), .blk (w.heap.size + 1) 23 (Iv .u8 (keyOf a)), .blk (w.heap.size + 1 + 1) 23 (Iv .u8 (keyOf b)), .bel w] _ := Facts.cons (f := .blk (w.heap.size) 48 (Iv .u8 (Sg a b))) ((hS.blkAt (w.heap.size) 48 (Iv .u8 (Sg a b)) (.head _)).rowFar (k := w.heap.size + 1) (blk_ne (hS.blkAt _ _ _ (.head _)) (hS.blkAt _ _ _ (.tail _ (.head _))) (by decide)) _) (Facts.cons (f := .blk (w.heap.size + 1) 23 (Iv .u8 (keyOf a))) ((hS.blkAt (w.heap.size + 1) 23 (Iv .u8 (keyOf a)) (.tail _ (.head _))).row _) (Facts.cons (f := .blk (w.heap.size + 1 + 1) 23 (Iv .u8 (keyOf b))) ((hS.blkAt (w.heap.size + 1 + 1) 23 (Iv .u8 (keyOf b)) (.tail _ (.tail _ (.head _)))).rowFar (k := w.heap.size + 1) (by first | omega | exact blk_ne (hS.blkAt _ _ _ (.tail _ (.tail _ (.head _)))) (hS.blkAt _ _ _ (.tail _ (.head _))) (by decide)) _) (Facts.cons (f := .bel w) (by first | exact hB | exact below_setRow hB (by omega) _) (Facts.nil))))
 generalize hWn : World.setRow _ _ _ = Wn at *
 clear hWn
 refine wpSeq_store_row rfl 23 _ _ rfl (w.heap.size + 1 + 1) (Iv .u8 (keyOf b)) rfl rfl _ _ (hS.blkAt (w.heap.size + 1 + 1) 23 (Iv .u8 (keyOf b)) (.tail _ (.tail _ (.head _)))) (info_key _ (keyOf_length _)) rfl (Iv_one _ _) ?_
 try simp only [Act.put, List.setIfInBounds_toArray, List.set_cons_zero, List.set_cons_succ]
 replace hB := below_setRow hB (g := w.heap.size + 1 + 1) (by omega) (Iv .u8 (keyOf b))
 replace hS : Facts [.blk (w.heap.size) 48 (Iv .u8 (Sg a b)), .blk (w.heap.size + 1) 23 (Iv .u8 (keyOf a)), .blk (w.heap.size + 1 + 1) 23 (Iv .u8 (keyOf b)), .bel w] _ := Facts.cons (f := .blk (w.heap.size) 48 (Iv .u8 (Sg a b))) ((hS.blkAt (w.heap.size) 48 (Iv .u8 (Sg a b)) (.head _)).rowFar (k := w.heap.size + 1 + 1) (blk_ne (hS.blkAt _ _ _ (.head _)) (hS.blkAt _ _ _ (.tail _ (.tail _ (.head _)))) (by decide)) _) (Facts.cons (f := .blk (w.heap.size + 1) 23 (Iv .u8 (keyOf a))) ((hS.blkAt (w.heap.size + 1) 23 (Iv .u8 (keyOf a)) (.tail _ (.head _))).rowFar (k := w.heap.size + 1 + 1) (by first | omega | exact blk_ne (hS.blkAt _ _ _ (.tail _ (.head _))) (hS.blkAt _ _ _ (.tail _ (.tail _ (.head _)))) (by decide)) _) (Facts.cons (f := .blk (w.heap.size + 1 + 1) 23 (Iv .u8 (keyOf b))) ((hS.blkAt (w.heap.size + 1 + 1) 23 (Iv .u8 (keyOf b)) (.tail _ (.tail _ (.head _)))).row _) (Facts.cons (f := .bel w) (by first | exact hB | exact below_setRow hB (by omega) _) (Facts.nil))))
 generalize hWn : World.setRow _ _ _ = Wn at *
 clear hWn
 refine wpSeq_nil ?_
 go_wp2
 exact bodyPost_ret (results_two rfl _ _ _ _ _ _ _ _ _ rfl rfl (hS.blkAt (w.heap.size + 1) 23 (Iv .u8 (keyOf a)) (.tail _ (.head _))) (hS.blkAt (w.heap.size + 1 + 1) 23 (Iv .u8 (keyOf b)) (.tail _ (.tail _ (.head _)))) Tryz.underlying23 rfl (info_key _ (keyOf_length _)) (info_key _ (keyOf_length _))) rfl ⟨rfl, hB⟩
set_option maxHeartbeats 8000000 in
set_option maxRecDepth 100000 in
theorem timesBase_n (NN : Nat) (q : P4) (kNN : NN < p256) (hq : q = pmul NN pbase 256) (w : World) (GX : Rng w 1 (Iv .u8 (keyOf bxN))) (GY : Rng w 2 (Iv .u8 (keyOf byN))) (GD : Rng w 3 (Iv .u8 (keyOf dN))) :
  Calls Tryz.prog 35 #[Key (keyOf NN)] w fun e w' => e = .returned (PV q) ∧ Below w.heap.size w w' := by
 have bGX := GX.blk
 have bGY := GY.blk
 have bGD := GD.blk
 have ipbase := pbase_is
 have HQ := Lib.hid hq
 clear hq
 unfold Key
 go_enter Tryz.func35, Tryz.ntmps35
 go_upto_region 1 with fail
 generalize hW : World.alloc (World.alloc w _) _ = W
 have hB : Below w.heap.size w W := hW ▸ ((Below.refl w.heap.size w).alloc (Nat.le_refl _) _).alloc (by simp) _
 have K0 : Blk W (w.heap.size) 23 (Iv .u8 (keyOf NN)) := hW ▸ ((Blk.new' (by simp) _ _).alloc _)
 have K1 : Blk W (w.heap.size + 1) 85 (Pc p40) := hW ▸ (Blk.new' (by simp) _ _)
 have hS : Facts [.blk (w.heap.size) 23 (Iv .u8 (keyOf NN)), .bel w] W := Facts.cons (f := .blk (w.heap.size) 23 (Iv .u8 (keyOf NN))) K0 (Facts.cons (f := .bel w) hB Facts.nil)
 clear hW K0
 replace hS := hS.drew
 replace hB := below_drew hB
 replace K1 := K1.drew
 refine wp_region_Z (S := Facts [.blk (w.heap.size) 23 (Iv .u8 (keyOf NN)), .bel w]) 3 (by kernel_rfl) ?_
 refine wpAnyZ_takeL 0 rfl (by kernel_rfl) (by kernel_rfl) (by kernel_rfl) (by kernel_rfl) (by kernel_rfl) (fun _ _ _ h => h) (show YieldsIf _ _ _ _ (Key (keyOf NN)) _ from yieldsIf_load rfl 23 _ rfl (w.heap.size) rfl 23 _ _ (.head _) Tryz.underlying23 rfl (info_key _ (keyOf_length _))) hS ?_
 simp only [Act.put, List.setIfInBounds_toArray, List.set_cons_zero, List.set_cons_succ]
 refine wpAnyZ_one (i := 1) (by kernel_rfl) ?_
 unfold wpOp
 go_simp
 left
 refine (cbase_v _ (GX.below (hS.belAt w (.tail _ (.head _)))) (GY.below (hS.belAt w (.tail _ (.head _))))).mono ?_
 rintro e v1 ⟨rfl, b⟩
 replace hB := hB.trans (b.mono hB.size)
 replace hS := hS.below b
 replace K1 := K1.below' b
 clear b
 refine ⟨hS, ?_⟩
 refine wpAnyZ_one (i := 2) (by kernel_rfl) ?_
 unfold wpOp
 go_simp
 left
 refine (mul_d NN pbase q kNN ipbase.ok HQ.out _ (GD.below (hS.belAt w (.tail _ (.head _))))).mono ?_
 rintro e v2 ⟨rfl, b⟩
 replace hB := hB.trans (b.mono hB.size)
 replace hS := hS.below b
 replace K1 := K1.below' b
 clear b
 refine ⟨hS, ?_⟩
 refine wpAnyZ_store_end 3 rfl (by kernel_rfl) rfl _ _ _ rfl (w.heap.size + 1) (Pc q) rfl rfl _ _ K1 (info_Pc _) (Pc_same _ _) (Pc_one _) (by kernel_rfl) ?_
 try simp only [Act.put, List.setIfInBounds_toArray, List.set_cons_zero, List.set_cons_succ]
 replace hB := below_setRow hB (g := w.heap.size + 1) (by omega) (Pc q)
 replace hS : Facts [.blk (w.heap.size) 23 (Iv .u8 (keyOf NN)), .bel w] _ := Facts.cons (f := .blk (w.heap.size) 23 (Iv .u8 (keyOf NN))) ((hS.blkAt (w.heap.size) 23 (Iv .u8 (keyOf NN)) (.head _)).rowFar (k := w.heap.size + 1) (blk_ne (hS.blkAt (w.heap.size) 23 (Iv .u8 (keyOf NN)) (.head _)) K1 (by decide)) (Pc q)) (Facts.cons (f := .bel w) (by first | exact hB | exact below_setRow hB (by omega) _) (Facts.nil))
 replace K1 := K1.row (Pc q)
 generalize hWn : World.setRow _ _ _ = Wn at *
 clear hWn
 refine wpAnyZ_done (by kernel_rfl) ?_ _
 go_wp2
 exact bodyPost_ret (results_cell_row rfl _ _ _ 85 _ (0, 0) _ rfl K1 Tryz.underlying85 rfl (info_Pc _)) rfl ⟨rfl, hB⟩
theorem sum512_sg (cu sq : Nat → Nat) (w : World) (v : Value) (ls : List (List Nat)) (a b : Nat) (h : Sg a b = NI (sha cu sq ls.flatten)) (T : Tab w cu) (SQ : Sq w sq) (hp : SP w v ls) (hb : ∀ l ∈ ls, Bytes l) (hn : ls.length < 1000) (hl : ls.flatten.length < 2305843009213693952) :
  Calls Tryz.prog 56 #[v] w fun e w' => e = .returned (.agg (Iv .u8 (Sg a b))) ∧ Below w.heap.size w w' := h ▸ sum512_l cu sq w v ls T SQ hp hb (by omega) hl
theorem reduce_sg (g : Nat) (t : TypeId) (l : List Nat) (a b N : Nat) (hl : l.length = 64) (hb : Bytes l) (hs : Sg a b = NI l) (hN : N = redN l) (w : World) (h : Blk w g t (Iv .u8 (Sg a b))) :
  Calls Tryz.prog 68 #[.slice (some ⟨g, 0, none⟩) 64 64] w fun e w' => e = .returned (Key (keyOf N)) ∧ Below w.heap.size w w' := hN ▸ reduce_l g t l hl hb w (hs ▸ h)
set_option maxHeartbeats 8000000 in
set_option maxRecDepth 100000 in
theorem reduced_n (cu sq : Nat → Nat) (v : Value) (ls : List (List Nat)) (N : Nat) (hN : N = redN (sha cu sq ls.flatten)) (hb : ∀ l ∈ ls, Bytes l) (hn : ls.length < 1000) (hl : ls.flatten.length < 2305843009213693952) (w : World) (T : Tab w cu) (SQ : Sq w sq) (hp : SP w v ls) :
  Calls Tryz.prog 47 #[v] w fun e w' => e = .returned (Key (keyOf N)) ∧ Below w.heap.size w w' := by
 have bT := T.blk
 have bSQ := SQ.blk
 have hL := two_keys (sha cu sq ls.flatten) (sha_bytes _ _ _) (sha_length _ _ _)
 have kla := lo_lt (sha_bytes cu sq ls.flatten)
 have klb := hi_lt (sha_bytes cu sq ls.flatten)
 obtain ⟨la, hla⟩ : ∃ a, a = lo (sha cu sq ls.flatten) := ⟨_, rfl⟩
 obtain ⟨lb, hlb⟩ : ∃ a, a = hi (sha cu sq ls.flatten) := ⟨_, rfl⟩
 rw [← hla, ← hlb] at hL
 rw [← hla] at kla
 rw [← hlb] at klb
 have HL := Lib.hid hL.symm
 clear hL
 clear hla hlb
 have HN := Lib.hid hN
 clear hN
 unfold Key
 go_enter Tryz.func47, Tryz.ntmps47
 go_upto_region 1 with fail
 generalize hW : World.alloc w _ = W
 have hB : Below w.heap.size w W := hW ▸ (Below.refl w.heap.size w).alloc (Nat.le_refl _) _
 have K0 : Blk W (w.heap.size) 23 (Iv .u8 (List.replicate 32 0)) := hW ▸ (Blk.new' (by simp) _ _)
 have hS : Facts [.bel w] W := Facts.cons (f := .bel w) hB Facts.nil
 clear hW
 refine wp_region_seq ?_
 refine wpSeq_yield (S := Facts [.bel w]) (yieldsIf_move rfl _ rfl _ rfl) hS ?_
 simp only [Act.put, List.setIfInBounds_toArray, List.set_cons_zero, List.set_cons_succ]
 refine wpSeq_wp rfl ?_
 go_simp
 refine (sum512_sg cu sq _ v ls la lb HL.out (T.below (hS.belAt w (.head _))) (SQ.below (hS.belAt w (.head _))) (hp.below (hS.belAt w (.head _))) hb hn hl).mono ?_
 rintro e v1 ⟨rfl, b⟩
 replace hB := hB.trans (b.mono hB.size)
 replace hS := hS.below b
 replace K0 := K0.below' b
 clear b
 show wpSeq _ _ _ _ _ _
 refine wpSeq_allocQ 48 (Iv .u8 (List.replicate 64 0)) rfl (fun W => by go_simp; rfl) ?_
 intro B1 C1 AB1 b mB1
 simp only [Act.put, List.setIfInBounds_toArray, List.set_cons_zero, List.set_cons_succ]
 have hb := b
 clear b
 refine wpSeq_store_row rfl 48 _ _ rfl (B1) (Iv .u8 (Sg la lb)) rfl rfl _ _ AB1 (info_Sg _ _) (by simp only [Iv_size, keyOf_length, Sg_length, List.length_replicate]) (Iv_one _ _) ?_
 try simp only [Act.put, List.setIfInBounds_toArray, List.set_cons_zero, List.set_cons_succ]
 replace AB1 := AB1.row (Iv .u8 (Sg la lb))
 replace hb := below_setRow hb mB1 (Iv .u8 (Sg la lb))
 generalize hWn : World.setRow _ _ _ = Wn at *
 clear hWn
 have uB1_K0 := Nat.lt_of_lt_of_le K0.lt mB1
 replace mB1 := Nat.le_trans hB.size mB1
 replace hB := hB.trans (hb.mono hB.size)
 replace hS := hS.below hb
 replace K0 := K0.below' hb
 clear hb
 replace hS : Facts [.blk (B1) 48 (Iv .u8 (Sg la lb)), .bel w] _ := Facts.cons (f := .blk B1 48 (Iv .u8 (Sg la lb))) AB1 hS
 clear AB1
 refine wpSeq_nil ?_
 go_upto_region 2 with fail
 refine wp_region_seq ?_
 refine wpSeq_yield (S := Facts [.blk (B1) 48 (Iv .u8 (Sg la lb)), .bel w]) (v := (.slice (some ⟨B1, 0, none⟩) 64 64)) (Or.inl ⟨by rfl, ?_⟩) hS ?_
 ·
  intro w' hw'
  go_simp
 simp only [Act.put, List.setIfInBounds_toArray, List.set_cons_zero, List.set_cons_succ]
 refine wpSeq_wp rfl ?_
 go_simp
 refine (reduce_sg (B1) _ (sha cu sq ls.flatten) la lb N (sha_length _ _ _) (sha_bytes _ _ _) HL.out HN.out _ (hS.blkAt (B1) 48 (Iv .u8 (Sg la lb)) (.head _))).mono ?_
 rintro e v2 ⟨rfl, b⟩
 replace hB := hB.trans (b.mono hB.size)
 replace hS := hS.below b
 replace K0 := K0.below' b
 clear b
 show wpSeq _ _ _ _ _ _
 refine wpSeq_store_row rfl 23 _ _ rfl (w.heap.size) (Iv .u8 (keyOf N)) rfl rfl _ _ K0 (info_key _ (keyOf_length _)) (by simp only [Iv_size, keyOf_length, Sg_length, List.length_replicate]) (Iv_one _ _) ?_
 try simp only [Act.put, List.setIfInBounds_toArray, List.set_cons_zero, List.set_cons_succ]
 replace hB := below_setRow hB (g := w.heap.size) (by omega) (Iv .u8 (keyOf N))
 replace hS : Facts [.blk (B1) 48 (Iv .u8 (Sg la lb)), .bel w] _ := Facts.cons (f := .blk (B1) 48 (Iv .u8 (Sg la lb))) ((hS.blkAt (B1) 48 (Iv .u8 (Sg la lb)) (.head _)).rowFar (k := w.heap.size) (blk_ne (hS.blkAt (B1) 48 (Iv .u8 (Sg la lb)) (.head _)) K0 (by decide)) (Iv .u8 (keyOf N))) (Facts.cons (f := .bel w) (by first | exact hB | exact below_setRow hB (by omega) _) (Facts.nil))
 replace K0 := K0.row (Iv .u8 (keyOf N))
 generalize hWn : World.setRow _ _ _ = Wn at *
 clear hWn
 refine wpSeq_nil ?_
 go_wp2
 exact bodyPost_ret (results_cell_row rfl _ _ _ 23 _ (0, 0) _ rfl K0 Tryz.underlying23 rfl (info_key _ (keyOf_length _))) rfl ⟨rfl, hB⟩
/-- A secret's number, its prefix; as bytes' functions. -/
def numN (cu sq : Nat → Nat) (n : Nat) : Nat := clN (lo (sha cu sq (kb n)))
def preN (cu sq : Nat → Nat) (n : Nat) : Nat := hi (sha cu sq (kb n))
theorem numN_lt (cu sq : Nat → Nat) (n : Nat) : numN cu sq n < p256 := clN_lt _
theorem preN_lt (cu sq : Nat → Nat) (n : Nat) : preN cu sq n < p256 := hi_lt (sha_bytes _ _ _)
theorem one_bytes (n : Nat) : ∀ l ∈ [kb n], Bytes l := fun l h => by rw [List.mem_singleton.1 h]; exact kb_bytes n
theorem one_flat (n : Nat) : [kb n].flatten = kb n := by simp
theorem one_len (n : Nat) : [kb n].flatten.length < 2305843009213693952 := by rw [one_flat, kb_length]; decide
theorem clamp_w (a c : Nat) (h : c = clN a) (w : World) : Calls Tryz.prog 57 #[Key (keyOf a)] w fun e w' => e = .returned (Key (keyOf c)) ∧ Below w.heap.size w w' := h ▸ clamp_n a w
set_option maxHeartbeats 8000000 in
set_option maxRecDepth 100000 in
theorem parts_n (cu sq : Nat → Nat) (NA NC NP : Nat) (hC : NC = numN cu sq NA) (hP : NP = preN cu sq NA) (w : World) (T : Tab w cu) (SQ : Sq w sq) :
  Calls Tryz.prog 34 #[Key (keyOf NA)] w fun e w' => e = .returned (.tuple #[Key (keyOf NC), Key (keyOf NP)]) ∧ Below w.heap.size w w' := by
 have bT := T.blk
 have bSQ := SQ.blk
 have hL := two_keys (sha cu sq (kb NA)) (sha_bytes _ _ _) (sha_length _ _ _)
 have kla := lo_lt (sha_bytes cu sq (kb NA))
 have klb := hi_lt (sha_bytes cu sq (kb NA))
 obtain ⟨la, hla⟩ : ∃ a, a = lo (sha cu sq (kb NA)) := ⟨_, rfl⟩
 obtain ⟨lb, hlb⟩ : ∃ a, a = hi (sha cu sq (kb NA)) := ⟨_, rfl⟩
 rw [← hla, ← hlb] at hL
 rw [← hla] at kla
 rw [← hlb] at klb
 have HL := Lib.hid hL.symm
 clear hL
 unfold numN at hC
 unfold preN at hP
 rw [← hla] at hC
 rw [← hlb] at hP
 subst hP
 rw [← one_flat NA] at HL
 clear hla hlb
 have HC := Lib.hid hC
 clear hC
 unfold Key
 go_enter Tryz.func34, Tryz.ntmps34
 go_upto_region 1 with fail
 generalize hW : World.alloc (World.alloc (World.alloc w _) _) _ = W
 have hB : Below w.heap.size w W := hW ▸ (((Below.refl w.heap.size w).alloc (Nat.le_refl _) _).alloc (by simp) _).alloc (by simp; omega) _
 have K0 : Blk W (w.heap.size) 23 (Iv .u8 (keyOf NA)) := hW ▸ (((Blk.new' (by simp) _ _).alloc _).alloc _)
 have K1 : Blk W (w.heap.size + 1) 23 (Iv .u8 (List.replicate 32 0)) := hW ▸ ((Blk.new' (by simp) _ _).alloc _)
 have K2 : Blk W (w.heap.size + 1 + 1) 23 (Iv .u8 (List.replicate 32 0)) := hW ▸ (Blk.new' (by simp) _ _)
 have hS : Facts [.blk (w.heap.size) 23 (Iv .u8 (keyOf NA)), .blk (w.heap.size + 1 + 1) 23 (Iv .u8 (List.replicate 32 0)), .bel w] W := Facts.cons (f := .blk (w.heap.size) 23 (Iv .u8 (keyOf NA))) K0 (Facts.cons (f := .blk (w.heap.size + 1 + 1) 23 (Iv .u8 (List.replicate 32 0))) K2 (Facts.cons (f := .bel w) hB Facts.nil))
 clear hW K0 K2
 refine wp_region_seq ?_
 refine wpSeq_yield (S := Facts [.blk (w.heap.size) 23 (Iv .u8 (keyOf NA)), .blk (w.heap.size + 1 + 1) 23 (Iv .u8 (List.replicate 32 0)), .bel w]) (v := (.slice (some ⟨w.heap.size, 0, none⟩) 32 32)) (Or.inl ⟨by rfl, ?_⟩) hS ?_
 ·
  intro w' hw'
  go_simp
 simp only [Act.put, List.setIfInBounds_toArray, List.set_cons_zero, List.set_cons_succ]
 refine wpSeq_list1 rfl _ rfl (.slice (some ⟨w.heap.size, 0, none⟩) 32 32) (kb NA) rfl (sb_key (hS.blkAt (w.heap.size) 23 (Iv .u8 (keyOf NA)) (.head _))) ?_
 intro V1 CV1 AV1 b
 replace hB := hB.trans (b.mono hB.size)
 replace hS := hS.below b
 replace K1 := K1.below' b
 clear b
 simp only [Act.put, List.setIfInBounds_toArray, List.set_cons_zero, List.set_cons_succ]
 refine wpSeq_wp rfl ?_
 go_simp
 refine (sum512_sg cu sq _ V1 [kb NA] la NP HL.out (T.below (hS.belAt w (.tail _ (.tail _ (.head _))))) (SQ.below (hS.belAt w (.tail _ (.tail _ (.head _))))) AV1 (one_bytes NA) (by simp) (one_len NA)).mono ?_
 rintro e v1 ⟨rfl, b⟩
 replace hB := hB.trans (b.mono hB.size)
 replace hS := hS.below b
 replace K1 := K1.below' b
 clear b
 show wpSeq _ _ _ _ _ _
 refine wpSeq_wp rfl ?_
 go_simp
 refine (halves_n la NP _).mono ?_
 rintro e v2 ⟨rfl, b⟩
 replace hB := hB.trans (b.mono hB.size)
 replace hS := hS.below b
 replace K1 := K1.below' b
 clear b
 show wpSeq _ _ _ _ _ _
 refine wpSeq_yield (S := Facts [.blk (w.heap.size) 23 (Iv .u8 (keyOf NA)), .blk (w.heap.size + 1 + 1) 23 (Iv .u8 (List.replicate 32 0)), .bel w]) (yieldsIf_move rfl _ rfl _ rfl) hS ?_
 simp only [Act.put, List.setIfInBounds_toArray, List.set_cons_zero, List.set_cons_succ]
 refine wpSeq_yield (S := Facts [.blk (w.heap.size) 23 (Iv .u8 (keyOf NA)), .blk (w.heap.size + 1 + 1) 23 (Iv .u8 (List.replicate 32 0)), .bel w]) (show YieldsIf _ _ _ _ (Key (keyOf la)) _ from yieldsIf_extract rfl _ _ rfl _ rfl _ rfl) hS ?_
 simp only [Act.put, List.setIfInBounds_toArray, List.set_cons_zero, List.set_cons_succ]
 refine wpSeq_yield (S := Facts [.blk (w.heap.size) 23 (Iv .u8 (keyOf NA)), .blk (w.heap.size + 1 + 1) 23 (Iv .u8 (List.replicate 32 0)), .bel w]) (show YieldsIf _ _ _ _ (Key (keyOf NP)) _ from yieldsIf_extract rfl _ _ rfl _ rfl _ rfl) hS ?_
 simp only [Act.put, List.setIfInBounds_toArray, List.set_cons_zero, List.set_cons_succ]
 refine wpSeq_store_row rfl 23 _ _ rfl (w.heap.size + 1) (Iv .u8 (keyOf la)) rfl rfl _ _ K1 (info_key _ (keyOf_length _)) (by simp only [Iv_size, keyOf_length, Sg_length, List.length_replicate]) (Iv_one _ _) ?_
 try simp only [Act.put, List.setIfInBounds_toArray, List.set_cons_zero, List.set_cons_succ]
 replace hB := below_setRow hB (g := w.heap.size + 1) (by omega) (Iv .u8 (keyOf la))
 replace hS : Facts [.blk (w.heap.size) 23 (Iv .u8 (keyOf NA)), .blk (w.heap.size + 1 + 1) 23 (Iv .u8 (List.replicate 32 0)), .bel w] _ := Facts.cons (f := .blk (w.heap.size) 23 (Iv .u8 (keyOf NA))) ((hS.blkAt (w.heap.size) 23 (Iv .u8 (keyOf NA)) (.head _)).rowFar (k := w.heap.size + 1) (by omega) (Iv .u8 (keyOf la))) (Facts.cons (f := .blk (w.heap.size + 1 + 1) 23 (Iv .u8 (List.replicate 32 0))) ((hS.blkAt (w.heap.size + 1 + 1) 23 (Iv .u8 (List.replicate 32 0)) (.tail _ (.head _))).rowFar (k := w.heap.size + 1) (by omega) (Iv .u8 (keyOf la))) (Facts.cons (f := .bel w) (by first | exact hB | exact below_setRow hB (by omega) _) (Facts.nil)))
 replace K1 := K1.row (Iv .u8 (keyOf la))
 generalize hWn : World.setRow _ _ _ = Wn at *
 clear hWn
 refine wpSeq_store_row rfl 23 _ _ rfl (w.heap.size + 1 + 1) (Iv .u8 (keyOf NP)) rfl rfl _ _ (hS.blkAt (w.heap.size + 1 + 1) 23 (Iv .u8 (List.replicate 32 0)) (.tail _ (.head _))) (info_key _ (keyOf_length _)) rfl (Iv_one _ _) ?_
 try simp only [Act.put, List.setIfInBounds_toArray, List.set_cons_zero, List.set_cons_succ]
 replace K1 := K1.rowFar (k := w.heap.size + 1 + 1) (by omega) (Iv .u8 (keyOf NP))
 replace hB := below_setRow hB (g := w.heap.size + 1 + 1) (by omega) (Iv .u8 (keyOf NP))
 replace hS : Facts [.blk (w.heap.size) 23 (Iv .u8 (keyOf NA)), .blk (w.heap.size + 1 + 1) 23 (Iv .u8 (keyOf NP)), .bel w] _ := Facts.cons (f := .blk (w.heap.size) 23 (Iv .u8 (keyOf NA))) ((hS.blkAt (w.heap.size) 23 (Iv .u8 (keyOf NA)) (.head _)).rowFar (k := w.heap.size + 1 + 1) (by first | omega | exact blk_ne (hS.blkAt _ _ _ (.head _)) (hS.blkAt _ _ _ (.tail _ (.head _))) (by decide)) _) (Facts.cons (f := .blk (w.heap.size + 1 + 1) 23 (Iv .u8 (keyOf NP))) ((hS.blkAt (w.heap.size + 1 + 1) 23 (Iv .u8 (List.replicate 32 0)) (.tail _ (.head _))).row _) (Facts.cons (f := .bel w) (by first | exact hB | exact below_setRow hB (by omega) _) (Facts.nil)))
 generalize hWn : World.setRow _ _ _ = Wn at *
 clear hWn
 refine wpSeq_nil ?_
 go_upto_region 2 with fail
 replace hS := hS.drew
 replace hB := below_drew hB
 replace K1 := K1.drew
 refine wp_region_Z (S := Facts [.blk (w.heap.size) 23 (Iv .u8 (keyOf NA)), .blk (w.heap.size + 1 + 1) 23 (Iv .u8 (keyOf NP)), .bel w]) 4 (by kernel_rfl) ?_
 refine wpAnyZ_takeL 2 rfl (by kernel_rfl) (by kernel_rfl) (by kernel_rfl) (by kernel_rfl) (by kernel_rfl) (fun _ _ _ h => h) (show YieldsIf _ _ _ _ (Key (keyOf NP)) _ from yieldsIf_load rfl 23 _ rfl (w.heap.size + 1 + 1) rfl 23 _ _ (.tail _ (.head _)) Tryz.underlying23 rfl (info_key _ (keyOf_length _))) hS ?_
 simp only [Act.put, List.setIfInBounds_toArray, List.set_cons_zero, List.set_cons_succ]
 refine wpAnyZ_load_row 0 rfl (by kernel_rfl) rfl _ _ rfl (w.heap.size + 1) rfl _ _ _ K1 Tryz.underlying23 rfl (info_key _ (keyOf_length _)) hS ?_
 change wpAnyZ _ _ _ _ _ _ _ _ (Act.put _ _ (Key (keyOf la))) _
 simp only [Act.put, List.setIfInBounds_toArray, List.set_cons_zero, List.set_cons_succ]
 refine wpAnyZ_one (i := 1) (by kernel_rfl) ?_
 unfold wpOp
 go_simp
 left
 refine (clamp_w la NC HC.out _).mono ?_
 rintro e v3 ⟨rfl, b⟩
 replace hB := hB.trans (b.mono hB.size)
 replace hS := hS.below b
 replace K1 := K1.below' b
 clear b
 refine ⟨hS, ?_⟩
 refine wpAnyZ_store_row 3 rfl (by kernel_rfl) rfl _ _ _ rfl (w.heap.size + 1) (Iv .u8 (keyOf NC)) rfl rfl _ _ K1 (info_key _ (keyOf_length _)) (by simp only [Iv_size, keyOf_length, Sg_length, List.length_replicate]) (Iv_one _ _) (Facts.cons (f := .blk (w.heap.size) 23 (Iv .u8 (keyOf NA))) ((hS.blkAt (w.heap.size) 23 (Iv .u8 (keyOf NA)) (.head _)).rowFar (k := w.heap.size + 1) (by omega) (Iv .u8 (keyOf NC))) (Facts.cons (f := .blk (w.heap.size + 1 + 1) 23 (Iv .u8 (keyOf NP))) ((hS.blkAt (w.heap.size + 1 + 1) 23 (Iv .u8 (keyOf NP)) (.tail _ (.head _))).rowFar (k := w.heap.size + 1) (by omega) (Iv .u8 (keyOf NC))) (Facts.cons (f := .bel w) (by first | exact hB | exact below_setRow hB (by omega) _) (Facts.nil)))) ?_
 try simp only [Act.put, List.setIfInBounds_toArray, List.set_cons_zero, List.set_cons_succ]
 replace hB := below_setRow hB (g := w.heap.size + 1) (by omega) (Iv .u8 (keyOf NC))
 replace hS : Facts [.blk (w.heap.size) 23 (Iv .u8 (keyOf NA)), .blk (w.heap.size + 1 + 1) 23 (Iv .u8 (keyOf NP)), .bel w] _ := Facts.cons (f := .blk (w.heap.size) 23 (Iv .u8 (keyOf NA))) ((hS.blkAt (w.heap.size) 23 (Iv .u8 (keyOf NA)) (.head _)).rowFar (k := w.heap.size + 1) (by omega) (Iv .u8 (keyOf NC))) (Facts.cons (f := .blk (w.heap.size + 1 + 1) 23 (Iv .u8 (keyOf NP))) ((hS.blkAt (w.heap.size + 1 + 1) 23 (Iv .u8 (keyOf NP)) (.tail _ (.head _))).rowFar (k := w.heap.size + 1) (by omega) (Iv .u8 (keyOf NC))) (Facts.cons (f := .bel w) (by first | exact hB | exact below_setRow hB (by omega) _) (Facts.nil)))
 replace K1 := K1.row (Iv .u8 (keyOf NC))
 generalize hWn : World.setRow _ _ _ = Wn at *
 clear hWn
 have hS9 : Facts [.blk (w.heap.size) 23 (Iv .u8 (keyOf NA)), .blk (w.heap.size + 1 + 1) 23 (Iv .u8 (keyOf NP)), .bel w] (World.setRow _ (w.heap.size + 1 + 1) (Iv .u8 (keyOf NP))) := Facts.cons (f := .blk (w.heap.size) 23 (Iv .u8 (keyOf NA))) ((hS.blkAt (w.heap.size) 23 (Iv .u8 (keyOf NA)) (.head _)).rowFar (k := w.heap.size + 1 + 1) (by first | omega | exact blk_ne (hS.blkAt _ _ _ (.head _)) (hS.blkAt _ _ _ (.tail _ (.head _))) (by decide)) _) (Facts.cons (f := .blk (w.heap.size + 1 + 1) 23 (Iv .u8 (keyOf NP))) ((hS.blkAt (w.heap.size + 1 + 1) 23 (Iv .u8 (keyOf NP)) (.tail _ (.head _))).row _) (Facts.cons (f := .bel w) (by first | exact hB | exact below_setRow hB (by omega) _) (Facts.nil)))
 refine wpAnyZ_store_end 4 rfl (by kernel_rfl) rfl _ _ _ rfl (w.heap.size + 1 + 1) (Iv .u8 (keyOf NP)) rfl rfl _ _ (hS.blkAt _ _ _ (.tail _ (.head _))) (info_key _ (keyOf_length _)) (by simp only [Iv_size, keyOf_length, Sg_length, List.length_replicate]) (Iv_one _ _) (by kernel_rfl) ?_
 try simp only [Act.put, List.setIfInBounds_toArray, List.set_cons_zero, List.set_cons_succ]
 replace hB := below_setRow hB (g := w.heap.size + 1 + 1) (by omega) (Iv .u8 (keyOf NP))
 replace hS := hS9
 clear hS9
 replace K1 := K1.rowFar (k := w.heap.size + 1 + 1) (by omega) (Iv .u8 (keyOf NP))
 generalize hWn : World.setRow _ _ _ = Wn at *
 clear hWn
 refine wpAnyZ_done (by kernel_rfl) ?_ _
 go_wp2
 exact bodyPost_ret (results_two rfl _ _ _ _ _ _ _ _ _ rfl rfl K1 (hS.blkAt (w.heap.size + 1 + 1) 23 (Iv .u8 (keyOf NP)) (.tail _ (.head _))) Tryz.underlying23 rfl (info_key _ (keyOf_length _)) (info_key _ (keyOf_length _))) rfl ⟨rfl, hB⟩
end Go.Proofs.YtegbnadnodlalaaGreatDoor
