/- The law LadderRuns: any secret, any place (printed by lawladder.py). -/
import Derived.Test.YtgdhlafggdaipaaJi
import Derived.Test.YtgdhlafggdaipaaJk
namespace Go.Proofs.Ytgdhlafggdaipaa
open Go.RowKit

set_option maxHeartbeats 8000000 in
set_option maxRecDepth 100000 in
theorem runs_n (NA NB : Nat) (hb : NB < p256) (w : World) :
    Calls Try.prog 3 #[Key (keyOf NA), Key (keyOf NB)] w fun e w' => e = .returned (.bool true) ∧ Below w.heap.size w w' := by
  have lN : ladN (clN NA) (plN NB) < p256 := Nat.lt_trans (ladN_lt _ _) pp_lt256
  have cR := fun W => rshared_n NA NB _ hb rfl W
  have cS := fun W => shared_n NA NB _ hb rfl _ rfl W
  have cM := fun W => mul_n NA NB _ hb rfl W
  have cC := fun W => clamp_n NA W
  have cD := fun W => rclamp_n NA W
  have kCN := clN_lt NA
  generalize ladN (clN NA) (plN NB) = N at *
  obtain ⟨c, hc⟩ : ∃ c, (!decide (N = 0)) = c := ⟨_, rfl⟩
  rw [hc] at cS
  generalize clN NA = CN at *
  have kN := lN
  have CR := Lib.hid cR
  have CS := Lib.hid cS
  have CM := Lib.hid cM
  have CC := Lib.hid cC
  have CD := Lib.hid cD
  have HC := Lib.hid hc
  clear cR cS cM cC cD hc lN hb
  unfold Key
  go_enter Try.func3, Try.ntmps3
  go_wp2_with fail
  refine (awake_any _).mono ?_
  rintro e w1 ⟨rfl, b⟩
  have hS : Facts [.blk (w.heap.size) 23 (Iv .u8 (keyOf NA)), .blk (w.heap.size + 1) 23 (Iv .u8 (keyOf NB))] w1 := Facts.below (Facts.cons (f := .blk (w.heap.size) 23 (Iv .u8 (keyOf NA))) (((Blk.new' (by simp) _ _).alloc _)) (Facts.cons (f := .blk (w.heap.size + 1) 23 (Iv .u8 (keyOf NB))) ((Blk.new' (by simp) _ _)) (Facts.nil))) b
  have hB : Below w.heap.size w w1 := (((Below.refl w.heap.size w).alloc (Nat.le_refl _) _).alloc (by simp) _).trans (b.mono (by simp; omega))
  clear b
  go_upto_region 3 with fail
  refine wp_region_seq ?_
  refine wpSeq_yield (S := Facts [.blk (w.heap.size) 23 (Iv .u8 (keyOf NA)), .blk (w.heap.size + 1) 23 (Iv .u8 (keyOf NB))]) (show YieldsIf _ _ _ _ (Key (keyOf NA)) _ from yieldsIf_load rfl 23 _ rfl (w.heap.size) rfl 23 _ _ (.head _) Try.underlying23 rfl (info_key _ (keyOf_length _))) hS ?_
  simp only [Act.put, List.setIfInBounds_toArray, List.set_cons_zero, List.set_cons_succ]
  refine wpSeq_yield (S := Facts [.blk (w.heap.size) 23 (Iv .u8 (keyOf NA)), .blk (w.heap.size + 1) 23 (Iv .u8 (keyOf NB))]) (show YieldsIf _ _ _ _ (Key (keyOf NB)) _ from yieldsIf_load rfl 23 _ rfl (w.heap.size + 1) rfl 23 _ _ (.tail _ (.head _)) Try.underlying23 rfl (info_key _ (keyOf_length _))) hS ?_
  simp only [Act.put, List.setIfInBounds_toArray, List.set_cons_zero, List.set_cons_succ]
  refine wpSeq_wp rfl ?_
  go_simp
  refine (CR.out _).mono ?_
  rintro e v1 ⟨rfl, b⟩
  replace hB := hB.trans (b.mono hB.size)
  replace hS := hS.below b
  clear b
  show wpSeq _ _ _ _ _ _
  refine wpSeq_alloc 23 (Iv .u8 (List.replicate 32 0)) rfl (fun W => by go_simp; rfl) ?_
  simp only [Act.put, List.setIfInBounds_toArray, List.set_cons_zero, List.set_cons_succ]
  refine wpSeq_store_row rfl 23 _ _ rfl (v1.heap.size) (Iv .u8 (keyOf N)) rfl rfl _ _ (Blk.new _ _ _) (info_key _ (keyOf_length _)) (by rw [Iv_size, Iv_size, keyOf_length]; rfl) (Iv_one _ _) ?_
  try simp only [Act.put, List.setIfInBounds_toArray, List.set_cons_zero, List.set_cons_succ]
  have mG1 := hB.size
  have hb := below_setRow ((Below.refl v1.heap.size v1).alloc (Nat.le_refl _) (.cells (Iv .u8 (List.replicate 32 0)) 23)) (Nat.le_refl v1.heap.size) (Iv .u8 (keyOf N))
  have A := (Blk.new v1 23 (Iv .u8 (List.replicate 32 0))).row (Iv .u8 (keyOf N))
  replace hB := hB.trans (hb.mono hB.size)
  replace hS := hS.below hb
  clear hb
  generalize hWn : World.setRow _ _ _ = Wn at *
  clear hWn
  generalize v1.heap.size = G1 at *
  replace hS : Facts [.blk (G1) 23 (Iv .u8 (keyOf N)), .blk (w.heap.size) 23 (Iv .u8 (keyOf NA)), .blk (w.heap.size + 1) 23 (Iv .u8 (keyOf NB))] _ := Facts.cons (f := .blk G1 23 (Iv .u8 (keyOf N))) A hS
  clear A
  refine wpSeq_nil ?_
  go_upto_region 4 with fail
  refine wp_region_seq ?_
  refine wpSeq_yield (S := Facts [.blk (G1) 23 (Iv .u8 (keyOf N)), .blk (w.heap.size) 23 (Iv .u8 (keyOf NA)), .blk (w.heap.size + 1) 23 (Iv .u8 (keyOf NB))]) (show YieldsIf _ _ _ _ (Key (keyOf NA)) _ from yieldsIf_load rfl 23 _ rfl (w.heap.size) rfl 23 _ _ (.tail _ (.head _)) Try.underlying23 rfl (info_key _ (keyOf_length _))) hS ?_
  simp only [Act.put, List.setIfInBounds_toArray, List.set_cons_zero, List.set_cons_succ]
  refine wpSeq_yield (S := Facts [.blk (G1) 23 (Iv .u8 (keyOf N)), .blk (w.heap.size) 23 (Iv .u8 (keyOf NA)), .blk (w.heap.size + 1) 23 (Iv .u8 (keyOf NB))]) (show YieldsIf _ _ _ _ (Key (keyOf NB)) _ from yieldsIf_load rfl 23 _ rfl (w.heap.size + 1) rfl 23 _ _ (.tail _ (.tail _ (.head _))) Try.underlying23 rfl (info_key _ (keyOf_length _))) hS ?_
  simp only [Act.put, List.setIfInBounds_toArray, List.set_cons_zero, List.set_cons_succ]
  refine wpSeq_wp rfl ?_
  go_simp
  refine (CS.out _).mono ?_
  rintro e v2 ⟨rfl, b⟩
  replace hB := hB.trans (b.mono hB.size)
  replace hS := hS.below b
  clear b
  show wpSeq _ _ _ _ _ _
  refine wpSeq_yield (S := Facts [.blk (G1) 23 (Iv .u8 (keyOf N)), .blk (w.heap.size) 23 (Iv .u8 (keyOf NA)), .blk (w.heap.size + 1) 23 (Iv .u8 (keyOf NB))]) (yieldsIf_move rfl _ rfl _ rfl) hS ?_
  simp only [Act.put, List.setIfInBounds_toArray, List.set_cons_zero, List.set_cons_succ]
  refine wpSeq_yield (S := Facts [.blk (G1) 23 (Iv .u8 (keyOf N)), .blk (w.heap.size) 23 (Iv .u8 (keyOf NA)), .blk (w.heap.size + 1) 23 (Iv .u8 (keyOf NB))]) (show YieldsIf _ _ _ _ (Key (keyOf N)) _ from yieldsIf_extract rfl _ _ rfl _ rfl _ rfl) hS ?_
  simp only [Act.put, List.setIfInBounds_toArray, List.set_cons_zero, List.set_cons_succ]
  refine wpSeq_yield (S := Facts [.blk (G1) 23 (Iv .u8 (keyOf N)), .blk (w.heap.size) 23 (Iv .u8 (keyOf NA)), .blk (w.heap.size + 1) 23 (Iv .u8 (keyOf NB))]) (show YieldsIf _ _ _ _ (.bool c) _ from yieldsIf_extract rfl _ _ rfl _ rfl _ rfl) hS ?_
  simp only [Act.put, List.setIfInBounds_toArray, List.set_cons_zero, List.set_cons_succ]
  refine wpSeq_alloc 23 (Iv .u8 (List.replicate 32 0)) rfl (fun W => by go_simp; rfl) ?_
  simp only [Act.put, List.setIfInBounds_toArray, List.set_cons_zero, List.set_cons_succ]
  refine wpSeq_store_row rfl 23 _ _ rfl (v2.heap.size) (Iv .u8 (keyOf N)) rfl rfl _ _ (Blk.new _ _ _) (info_key _ (keyOf_length _)) (by rw [Iv_size, Iv_size, keyOf_length]; rfl) (Iv_one _ _) ?_
  try simp only [Act.put, List.setIfInBounds_toArray, List.set_cons_zero, List.set_cons_succ]
  have mG2 := hB.size
  have hb := below_setRow ((Below.refl v2.heap.size v2).alloc (Nat.le_refl _) (.cells (Iv .u8 (List.replicate 32 0)) 23)) (Nat.le_refl v2.heap.size) (Iv .u8 (keyOf N))
  have A := (Blk.new v2 23 (Iv .u8 (List.replicate 32 0))).row (Iv .u8 (keyOf N))
  replace hB := hB.trans (hb.mono hB.size)
  replace hS := hS.below hb
  clear hb
  generalize hWn : World.setRow _ _ _ = Wn at *
  clear hWn
  generalize v2.heap.size = G2 at *
  replace hS : Facts [.blk (G2) 23 (Iv .u8 (keyOf N)), .blk (G1) 23 (Iv .u8 (keyOf N)), .blk (w.heap.size) 23 (Iv .u8 (keyOf NA)), .blk (w.heap.size + 1) 23 (Iv .u8 (keyOf NB))] _ := Facts.cons (f := .blk G2 23 (Iv .u8 (keyOf N))) A hS
  clear A
  refine wpSeq_yield (S := Facts [.blk (G2) 23 (Iv .u8 (keyOf N)), .blk (G1) 23 (Iv .u8 (keyOf N)), .blk (w.heap.size) 23 (Iv .u8 (keyOf NA)), .blk (w.heap.size + 1) 23 (Iv .u8 (keyOf NB))]) (yieldsIf_assign rfl _ rfl _ rfl) hS ?_
  simp only [Act.put, List.setIfInBounds_toArray, List.set_cons_zero, List.set_cons_succ]
  refine wpSeq_nil ?_
  go_upto_region 5 with fail
  replace hS := hS.drew
  replace hB := below_drew hB
  refine wp_region_Z (S := Facts [.blk (G2) 23 (Iv .u8 (keyOf N)), .blk (G1) 23 (Iv .u8 (keyOf N)), .blk (w.heap.size) 23 (Iv .u8 (keyOf NA)), .blk (w.heap.size + 1) 23 (Iv .u8 (keyOf NB))]) 24 (by kernel_rfl) ?_
  refine wpAnyZ_takeL 0 rfl (by kernel_rfl) (by kernel_rfl) (by kernel_rfl) (by kernel_rfl) (by kernel_rfl) (fun _ _ _ h => h) (show YieldsIf _ _ _ _ (Key (keyOf NA)) _ from yieldsIf_load rfl 23 _ rfl (w.heap.size) rfl 23 _ _ (.tail _ (.tail _ (.head _))) Try.underlying23 rfl (info_key _ (keyOf_length _))) hS ?_
  simp only [Act.put, List.setIfInBounds_toArray, List.set_cons_zero, List.set_cons_succ]
  refine wpAnyZ_takeL 1 rfl (by kernel_rfl) (by kernel_rfl) (by kernel_rfl) (by kernel_rfl) (by kernel_rfl) (fun _ _ _ h => h) (show YieldsIf _ _ _ _ (Key (keyOf NB)) _ from yieldsIf_load rfl 23 _ rfl (w.heap.size + 1) rfl 23 _ _ (.tail _ (.tail _ (.tail _ (.head _)))) Try.underlying23 rfl (info_key _ (keyOf_length _))) hS ?_
  simp only [Act.put, List.setIfInBounds_toArray, List.set_cons_zero, List.set_cons_succ]
  refine wpAnyZ_takeL 3 rfl (by kernel_rfl) (by kernel_rfl) (by kernel_rfl) (by kernel_rfl) (by kernel_rfl) (fun _ _ _ h => h) (show YieldsIf _ _ _ _ (Key (keyOf N)) _ from yieldsIf_load rfl 23 _ rfl (G1) rfl 23 _ _ (.tail _ (.head _)) Try.underlying23 rfl (info_key _ (keyOf_length _))) hS ?_
  simp only [Act.put, List.setIfInBounds_toArray, List.set_cons_zero, List.set_cons_succ]
  refine wpAnyZ_one (i := 2) (by kernel_rfl) ?_
  unfold wpOp
  go_simp
  left
  refine (CM.out _).mono ?_
  rintro e v3 ⟨rfl, b⟩
  replace hB := hB.trans (b.mono hB.size)
  replace hS := hS.below b
  clear b
  refine ⟨hS, ?_⟩
  refine wpAnyZ_takeL 4 rfl (by kernel_rfl) (by kernel_rfl) (by kernel_rfl) (by kernel_rfl) (by kernel_rfl) (fun _ _ _ h => h) (yieldsIf_eqlk rfl _ _ rfl N N rfl rfl true kN kN (decide_eq_true rfl)) hS ?_
  simp only [Act.put, List.setIfInBounds_toArray, List.set_cons_zero, List.set_cons_succ]
  refine wpAnyZ_takeL 5 rfl (by kernel_rfl) (by kernel_rfl) (by kernel_rfl) (by kernel_rfl) (by kernel_rfl) (fun _ _ _ h => h) (yieldsIf_move rfl _ rfl _ rfl) hS ?_
  simp only [Act.put, List.setIfInBounds_toArray, List.set_cons_zero, List.set_cons_succ]
  refine wpAnyZ_takeL 6 rfl (by kernel_rfl) (by kernel_rfl) (by kernel_rfl) (by kernel_rfl) (by kernel_rfl) (fun _ _ _ h => h) (show YieldsIf _ _ _ _ (Key (keyOf N)) _ from yieldsIf_load rfl 23 _ rfl (G2) rfl 23 _ _ (.head _) Try.underlying23 rfl (info_key _ (keyOf_length _))) hS ?_
  simp only [Act.put, List.setIfInBounds_toArray, List.set_cons_zero, List.set_cons_succ]
  refine wpAnyZ_takeL 7 rfl (by kernel_rfl) (by kernel_rfl) (by kernel_rfl) (by kernel_rfl) (by kernel_rfl) (fun _ _ _ h => h) (show YieldsIf _ _ _ _ (Key (keyOf N)) _ from yieldsIf_load rfl 23 _ rfl (G1) rfl 23 _ _ (.tail _ (.head _)) Try.underlying23 rfl (info_key _ (keyOf_length _))) hS ?_
  simp only [Act.put, List.setIfInBounds_toArray, List.set_cons_zero, List.set_cons_succ]
  refine wpAnyZ_takeL 8 rfl (by kernel_rfl) (by kernel_rfl) (by kernel_rfl) (by kernel_rfl) (by kernel_rfl) (fun _ _ _ h => h) (yieldsIf_eqlk rfl _ _ rfl N N rfl rfl true kN kN (decide_eq_true rfl)) hS ?_
  simp only [Act.put, List.setIfInBounds_toArray, List.set_cons_zero, List.set_cons_succ]
  refine wpAnyZ_takeL 9 rfl (by kernel_rfl) (by kernel_rfl) (by kernel_rfl) (by kernel_rfl) (by kernel_rfl) (fun _ _ _ h => h) (yieldsIf_pick rfl _ _ _ rfl true rfl _ rfl) hS ?_
  simp only [Act.put, List.setIfInBounds_toArray, List.set_cons_zero, List.set_cons_succ]
  refine wpAnyZ_takeL 10 rfl (by kernel_rfl) (by kernel_rfl) (by kernel_rfl) (by kernel_rfl) (by kernel_rfl) (fun _ _ _ h => h) (yieldsIf_move rfl _ rfl _ rfl) hS ?_
  simp only [Act.put, List.setIfInBounds_toArray, List.set_cons_zero, List.set_cons_succ]
  refine wpAnyZ_takeL 11 rfl (by kernel_rfl) (by kernel_rfl) (by kernel_rfl) (by kernel_rfl) (by kernel_rfl) (fun _ _ _ h => h) (yieldsIf_move rfl _ rfl _ rfl) hS ?_
  simp only [Act.put, List.setIfInBounds_toArray, List.set_cons_zero, List.set_cons_succ]
  refine wpAnyZ_takeL 12 rfl (by kernel_rfl) (by kernel_rfl) (by kernel_rfl) (by kernel_rfl) (by kernel_rfl) (fun _ _ _ h => h) (show YieldsIf _ _ _ _ (Key (keyOf N)) _ from yieldsIf_load rfl 23 _ rfl (G1) rfl 23 _ _ (.tail _ (.head _)) Try.underlying23 rfl (info_key _ (keyOf_length _))) hS ?_
  simp only [Act.put, List.setIfInBounds_toArray, List.set_cons_zero, List.set_cons_succ]
  refine wpAnyZ_takeL 13 rfl (by kernel_rfl) (by kernel_rfl) (by kernel_rfl) (by kernel_rfl) (by kernel_rfl) (fun _ _ _ h => h) (yieldsIf_key0 rfl rfl) hS ?_
  simp only [Act.put, List.setIfInBounds_toArray, List.set_cons_zero, List.set_cons_succ]
  refine wpAnyZ_takeL 14 rfl (by kernel_rfl) (by kernel_rfl) (by kernel_rfl) (by kernel_rfl) (by kernel_rfl) (fun _ _ _ h => h) (yieldsIf_neqk rfl _ _ rfl N 0 rfl rfl c kN (by decide) (HC.out)) hS ?_
  simp only [Act.put, List.setIfInBounds_toArray, List.set_cons_zero, List.set_cons_succ]
  refine wpAnyZ_takeL 15 (v := (.bool true)) rfl (by kernel_rfl) (by kernel_rfl) (by kernel_rfl) (by kernel_rfl) (by kernel_rfl) (fun _ _ _ h => h) (Or.inl ⟨by rfl, ?_⟩) hS ?_
  · intro w' _
    go_simp
  simp only [Act.put, List.setIfInBounds_toArray, List.set_cons_zero, List.set_cons_succ]
  refine wpAnyZ_takeL 16 rfl (by kernel_rfl) (by kernel_rfl) (by kernel_rfl) (by kernel_rfl) (by kernel_rfl) (fun _ _ _ h => h) (yieldsIf_pick rfl _ _ _ rfl true rfl _ rfl) hS ?_
  simp only [Act.put, List.setIfInBounds_toArray, List.set_cons_zero, List.set_cons_succ]
  refine wpAnyZ_takeL 17 rfl (by kernel_rfl) (by kernel_rfl) (by kernel_rfl) (by kernel_rfl) (by kernel_rfl) (fun _ _ _ h => h) (yieldsIf_move rfl _ rfl _ rfl) hS ?_
  simp only [Act.put, List.setIfInBounds_toArray, List.set_cons_zero, List.set_cons_succ]
  refine wpAnyZ_takeL 18 rfl (by kernel_rfl) (by kernel_rfl) (by kernel_rfl) (by kernel_rfl) (by kernel_rfl) (fun _ _ _ h => h) (show YieldsIf _ _ _ _ (Key (keyOf NA)) _ from yieldsIf_load rfl 23 _ rfl (w.heap.size) rfl 23 _ _ (.tail _ (.tail _ (.head _))) Try.underlying23 rfl (info_key _ (keyOf_length _))) hS ?_
  simp only [Act.put, List.setIfInBounds_toArray, List.set_cons_zero, List.set_cons_succ]
  refine wpAnyZ_takeL 20 rfl (by kernel_rfl) (by kernel_rfl) (by kernel_rfl) (by kernel_rfl) (by kernel_rfl) (fun _ _ _ h => h) (show YieldsIf _ _ _ _ (Key (keyOf NA)) _ from yieldsIf_load rfl 23 _ rfl (w.heap.size) rfl 23 _ _ (.tail _ (.tail _ (.head _))) Try.underlying23 rfl (info_key _ (keyOf_length _))) hS ?_
  simp only [Act.put, List.setIfInBounds_toArray, List.set_cons_zero, List.set_cons_succ]
  refine wpAnyZ_one (i := 19) (by kernel_rfl) ?_
  unfold wpOp
  go_simp
  left
  refine (CC.out _).mono ?_
  rintro e v4 ⟨rfl, b⟩
  replace hB := hB.trans (b.mono hB.size)
  replace hS := hS.below b
  clear b
  refine ⟨hS, ?_⟩
  refine wpAnyZ_one (i := 21) (by kernel_rfl) ?_
  unfold wpOp
  go_simp
  left
  refine (CD.out _).mono ?_
  rintro e v5 ⟨rfl, b⟩
  replace hB := hB.trans (b.mono hB.size)
  replace hS := hS.below b
  clear b
  refine ⟨hS, ?_⟩
  refine wpAnyZ_takeL 22 rfl (by kernel_rfl) (by kernel_rfl) (by kernel_rfl) (by kernel_rfl) (by kernel_rfl) (fun _ _ _ h => h) (yieldsIf_eqlk rfl _ _ rfl CN CN rfl rfl true kCN kCN (decide_eq_true rfl)) hS ?_
  simp only [Act.put, List.setIfInBounds_toArray, List.set_cons_zero, List.set_cons_succ]
  refine wpAnyZ_takeL 23 rfl (by kernel_rfl) (by kernel_rfl) (by kernel_rfl) (by kernel_rfl) (by kernel_rfl) (fun _ _ _ h => h) (yieldsIf_pick rfl _ _ _ rfl true rfl _ rfl) hS ?_
  simp only [Act.put, List.setIfInBounds_toArray, List.set_cons_zero, List.set_cons_succ]
  refine wpAnyZ_one (i := 24) (by kernel_rfl) ?_
  unfold wpOp
  go_simp
  left
  refine wpAnyZ_done (by kernel_rfl) ?_ _
  go_wp2
  exact bodyPost_ret (results_tmp rfl _ _ _) rfl ⟨rfl, hB⟩
theorem runs_k (l0 l1 : List Int) (f0 f1 : Nat → Nat) (hl0 : Bytes32 l0 f0) (hl1 : Bytes32 l1 f1) (w : World) :
    Calls Try.prog 3 #[Key l0, Key l1] w fun e w' => e = .returned (.bool true) ∧ Below w.heap.size w w' := by
  rw [key_of_bytes hl0, key_of_bytes hl1]
  exact runs_n _ _ (leTo_lt256 hl1.lt) w
end Go.Proofs.Ytgdhlafggdaipaa
