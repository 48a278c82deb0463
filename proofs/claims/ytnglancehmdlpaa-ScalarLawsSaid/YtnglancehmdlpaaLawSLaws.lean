/- The law ScalarLaws: products don't hang on their order; a product of a sum is the sum of products; once is itself. -/
import Derived.Test.YtnglancehmdlpaaSi
namespace Go.Proofs.Ytnglancehmdlpaa
open Go.RowKit

set_option maxHeartbeats 4000000 in
set_option maxRecDepth 100000 in
theorem slaws_n (N0 N1 N2 : Nat) (lN0 : N0 < pw 4) (lN1 : N1 < pw 4) (lN2 : N2 < pw 4) (w : World) :
    Calls Try.prog 6 #[Key (keyOf N0), Key (keyOf N1), Key (keyOf N2)] w fun e w' => e = .returned (.bool true) ∧ Below w.heap.size w w' := by
  obtain ⟨E0, hE0⟩ : ∃ r, r = (N0 * 1 + N1) % LL := ⟨_, rfl⟩
  have lE0 : E0 < pw 4 := hE0 ▸ mod_lt4 _
  have HE0 := Lib.hid hE0
  clear hE0
  obtain ⟨E1, hE1⟩ : ∃ r, r = (N0 * N1 + 0) % LL := ⟨_, rfl⟩
  have lE1 : E1 < pw 4 := hE1 ▸ mod_lt4 _
  have HE1 := Lib.hid hE1
  clear hE1
  obtain ⟨E2, hE2⟩ : ∃ r, r = (N1 * N0 + 0) % LL := ⟨_, rfl⟩
  have lE2 : E2 < pw 4 := hE2 ▸ mod_lt4 _
  have HE2 := Lib.hid hE2
  clear hE2
  obtain ⟨E3, hE3⟩ : ∃ r, r = (E0 * N2 + 0) % LL := ⟨_, rfl⟩
  have lE3 : E3 < pw 4 := hE3 ▸ mod_lt4 _
  have HE3 := Lib.hid hE3
  clear hE3
  obtain ⟨E4, hE4⟩ : ∃ r, r = (N1 * N2 + 0) % LL := ⟨_, rfl⟩
  have lE4 : E4 < pw 4 := hE4 ▸ mod_lt4 _
  have HE4 := Lib.hid hE4
  clear hE4
  obtain ⟨E5, hE5⟩ : ∃ r, r = (N0 * N2 + E4) % LL := ⟨_, rfl⟩
  have lE5 : E5 < pw 4 := hE5 ▸ mod_lt4 _
  have HE5 := Lib.hid hE5
  clear hE5
  obtain ⟨E6, hE6⟩ : ∃ r, r = (N0 * 1 + 0) % LL := ⟨_, rfl⟩
  have lE6 : E6 < pw 4 := hE6 ▸ mod_lt4 _
  have HE6 := Lib.hid hE6
  clear hE6
  obtain ⟨E7, hE7⟩ : ∃ r, r = N0 % LL := ⟨_, rfl⟩
  have lE7 : E7 < pw 4 := hE7 ▸ mod_lt4 _
  have HE7 := Lib.hid hE7
  clear hE7
  obtain ⟨E8, hE8⟩ : ∃ r, r = (N0 * 0 + N1) % LL := ⟨_, rfl⟩
  have lE8 : E8 < pw 4 := hE8 ▸ mod_lt4 _
  have HE8 := Lib.hid hE8
  clear hE8
  obtain ⟨E9, hE9⟩ : ∃ r, r = N1 % LL := ⟨_, rfl⟩
  have lE9 : E9 < pw 4 := hE9 ▸ mod_lt4 _
  have HE9 := Lib.hid hE9
  clear hE9
  unfold Key
  go_enter Try.func6, Try.ntmps6
  go_wp2_with fail
  refine (awake_any _).mono ?_
  rintro e w1 ⟨rfl, b⟩
  have hS : Facts [.blk (w.heap.size) 24 (Iv .u8 (keyOf N0)), .blk (w.heap.size + 1) 24 (Iv .u8 (keyOf N1)), .blk (w.heap.size + 1 + 1) 24 (Iv .u8 (keyOf N2))] w1 := Facts.below (Facts.cons (((Blk.new w _ _).alloc _).alloc _) (Facts.cons ((Blk.new' (by simp) _ _).alloc _) (Facts.cons (Blk.new' (by simp) _ _) Facts.nil))) b
  have hB : Below w.heap.size w w1 := ((((Below.refl w.heap.size w).alloc (Nat.le_refl _) _).alloc (by simp) _).alloc (by simp; omega) _).trans (b.mono (by simp; omega))
  clear b
  go_upto_region 3 with fail
  refine wp_region_seq ?_
  refine wpSeq_yield (S := Facts [.blk (w.heap.size) 24 (Iv .u8 (keyOf N0)), .blk (w.heap.size + 1) 24 (Iv .u8 (keyOf N1)), .blk (w.heap.size + 1 + 1) 24 (Iv .u8 (keyOf N2))]) (v := Key (keyOf 0)) (Or.inl ⟨by rfl, ?_⟩) hS ?_
  · intro w' _
    go_simp
    unfold Key
    rw [key_lit 0 (by decide)]
    rfl
  simp only [Act.put, List.setIfInBounds_toArray, List.set_cons_zero, List.set_cons_succ]
  refine wpSeq_yield (S := Facts [.blk (w.heap.size) 24 (Iv .u8 (keyOf N0)), .blk (w.heap.size + 1) 24 (Iv .u8 (keyOf N1)), .blk (w.heap.size + 1 + 1) 24 (Iv .u8 (keyOf N2))]) (v := Key (keyOf 1)) (Or.inl ⟨by rfl, ?_⟩) hS ?_
  · intro w' _
    go_simp
    unfold Key
    rw [key_lit 1 (by decide)]
    rfl
  simp only [Act.put, List.setIfInBounds_toArray, List.set_cons_zero, List.set_cons_succ]
  refine wpSeq_alloc 24 (Iv .u8 (List.replicate 32 0)) rfl (fun W => by go_simp; rfl) ?_
  simp only [Act.put, List.setIfInBounds_toArray, List.set_cons_zero, List.set_cons_succ]
  generalize hV0 : World.alloc w1 _ = V0
  have H0 : Blk V0 w1.heap.size 24 (Iv .u8 (List.replicate 32 0)) := hV0 ▸ Blk.new _ _ _
  have hb0 : Below w1.heap.size w1 V0 := hV0 ▸ (Below.refl _ _).alloc (Nat.le_refl _) _
  have le0 : w1.heap.size ≤ w1.heap.size := Nat.le_refl _
  clear hV0
  refine wpSeq_alloc 24 (Iv .u8 (List.replicate 32 0)) rfl (fun W => by go_simp; rfl) ?_
  simp only [Act.put, List.setIfInBounds_toArray, List.set_cons_zero, List.set_cons_succ]
  generalize hV1 : World.alloc V0 _ = V1
  have H1 : Blk V1 V0.heap.size 24 (Iv .u8 (List.replicate 32 0)) := hV1 ▸ Blk.new _ _ _
  have hb1 : Below w1.heap.size w1 V1 := hV1 ▸ hb0.alloc hb0.size _
  have ne01 : w1.heap.size ≠ V0.heap.size := Nat.ne_of_lt H0.lt
  replace H0 : Blk V1 _ 24 (Iv .u8 (List.replicate 32 0)) := hV1 ▸ H0.alloc _
  have le1 : w1.heap.size ≤ V0.heap.size := hb0.size
  clear hV1
  refine wpSeq_store_row rfl 24 _ _ rfl (w1.heap.size) (Iv .u8 (keyOf 0)) rfl rfl _ _ H0 (info_key_n _) (by rw [Iv_size, Iv_size, keyOf_length]; rfl) (Iv_one _ _) ?_
  try simp only [Act.put, List.setIfInBounds_toArray, List.set_cons_zero, List.set_cons_succ]
  replace H0 := H0.row (Iv .u8 (keyOf 0))
  replace H1 := H1.rowFar (Ne.symm ne01) (Iv .u8 (keyOf 0))
  replace hb1 := below_setRow hb1 le0 (Iv .u8 (keyOf 0))
  refine wpSeq_store_row rfl 24 _ _ rfl (V0.heap.size) (Iv .u8 (keyOf 1)) rfl rfl _ _ H1 (info_key_n _) (by rw [Iv_size, Iv_size, keyOf_length]; rfl) (Iv_one _ _) ?_
  try simp only [Act.put, List.setIfInBounds_toArray, List.set_cons_zero, List.set_cons_succ]
  replace H0 := H0.rowFar ne01 (Iv .u8 (keyOf 1))
  replace H1 := H1.row (Iv .u8 (keyOf 1))
  replace hb1 := below_setRow hb1 le1 (Iv .u8 (keyOf 1))
  refine wpSeq_nil ?_
  replace hB := hB.trans (hb1.mono hB.size)
  replace hS := hS.below hb1
  clear hb0 hb1 le0 le1 ne01
  generalize World.setRow (World.setRow V1 _ _) _ _ = W at *
  generalize V0.heap.size = h1 at *
  generalize w1.heap.size = h0 at *
  replace hS : Facts [.blk (h0) 24 (Iv .u8 (keyOf 0)), .blk (h1) 24 (Iv .u8 (keyOf 1)), .blk (w.heap.size) 24 (Iv .u8 (keyOf N0)), .blk (w.heap.size + 1) 24 (Iv .u8 (keyOf N1)), .blk (w.heap.size + 1 + 1) 24 (Iv .u8 (keyOf N2))] W := Facts.cons (f := .blk _ _ _) H0 (Facts.cons (f := .blk _ _ _) H1 hS)
  clear H0 H1
  go_upto_region 4 with fail
  refine wp_region_seq ?_
  refine wpSeq_yield (S := Facts [.blk (h0) 24 (Iv .u8 (keyOf 0)), .blk (h1) 24 (Iv .u8 (keyOf 1)), .blk (w.heap.size) 24 (Iv .u8 (keyOf N0)), .blk (w.heap.size + 1) 24 (Iv .u8 (keyOf N1)), .blk (w.heap.size + 1 + 1) 24 (Iv .u8 (keyOf N2))]) (show YieldsIf _ _ _ _ (Key (keyOf N0)) _ from yieldsIf_load rfl 24 _ rfl (w.heap.size) rfl 24 _ _ (.tail _ (.tail _ (.head _))) Try.underlying24 rfl (info_key _ (keyOf_length _))) hS ?_
  simp only [Act.put, List.setIfInBounds_toArray, List.set_cons_zero, List.set_cons_succ]
  refine wpSeq_yield (S := Facts [.blk (h0) 24 (Iv .u8 (keyOf 0)), .blk (h1) 24 (Iv .u8 (keyOf 1)), .blk (w.heap.size) 24 (Iv .u8 (keyOf N0)), .blk (w.heap.size + 1) 24 (Iv .u8 (keyOf N1)), .blk (w.heap.size + 1 + 1) 24 (Iv .u8 (keyOf N2))]) (show YieldsIf _ _ _ _ (Key (keyOf 1)) _ from yieldsIf_load rfl 24 _ rfl (h1) rfl 24 _ _ (.tail _ (.head _)) Try.underlying24 rfl (info_key _ (keyOf_length _))) hS ?_
  simp only [Act.put, List.setIfInBounds_toArray, List.set_cons_zero, List.set_cons_succ]
  refine wpSeq_yield (S := Facts [.blk (h0) 24 (Iv .u8 (keyOf 0)), .blk (h1) 24 (Iv .u8 (keyOf 1)), .blk (w.heap.size) 24 (Iv .u8 (keyOf N0)), .blk (w.heap.size + 1) 24 (Iv .u8 (keyOf N1)), .blk (w.heap.size + 1 + 1) 24 (Iv .u8 (keyOf N2))]) (show YieldsIf _ _ _ _ (Key (keyOf N1)) _ from yieldsIf_load rfl 24 _ rfl (w.heap.size + 1) rfl 24 _ _ (.tail _ (.tail _ (.tail _ (.head _)))) Try.underlying24 rfl (info_key _ (keyOf_length _))) hS ?_
  simp only [Act.put, List.setIfInBounds_toArray, List.set_cons_zero, List.set_cons_succ]
  refine wpSeq_wp rfl ?_
  go_simp
  refine (muladd_n N0 1 N1 E0 lN0 (lit_lt 1 (by decide)) lN1 HE0.out _).mono ?_
  rintro e v1 ⟨rfl, b⟩
  replace hB := hB.trans (b.mono hB.size)
  replace hS := hS.below b
  clear b
  show wpSeq _ _ _ _ _ _
  refine wpSeq_alloc 24 (Iv .u8 (List.replicate 32 0)) rfl (fun W => by go_simp; rfl) ?_
  simp only [Act.put, List.setIfInBounds_toArray, List.set_cons_zero, List.set_cons_succ]
  refine wpSeq_store_row rfl 24 _ _ rfl (v1.heap.size) (Iv .u8 (keyOf E0)) rfl rfl _ _ (Blk.new _ _ _) (info_key _ (keyOf_length _)) (by rw [Iv_size, Iv_size, keyOf_length]; rfl) (Iv_one _ _) ?_
  try simp only [Act.put, List.setIfInBounds_toArray, List.set_cons_zero, List.set_cons_succ]
  have hb := below_setRow ((Below.refl v1.heap.size v1).alloc (Nat.le_refl _) (.cells (Iv .u8 (List.replicate 32 0)) 24)) (Nat.le_refl v1.heap.size) (Iv .u8 (keyOf E0))
  have A := (Blk.new v1 24 (Iv .u8 (List.replicate 32 0))).row (Iv .u8 (keyOf E0))
  replace hB := hB.trans (hb.mono hB.size)
  replace hS := hS.below hb
  clear hb
  generalize hWn : World.setRow _ _ _ = Wn at *
  clear hWn
  generalize v1.heap.size = G1 at *
  replace hS : Facts [.blk (G1) 24 (Iv .u8 (keyOf E0)), .blk (h0) 24 (Iv .u8 (keyOf 0)), .blk (h1) 24 (Iv .u8 (keyOf 1)), .blk (w.heap.size) 24 (Iv .u8 (keyOf N0)), .blk (w.heap.size + 1) 24 (Iv .u8 (keyOf N1)), .blk (w.heap.size + 1 + 1) 24 (Iv .u8 (keyOf N2))] _ := Facts.cons (f := .blk G1 24 (Iv .u8 (keyOf E0))) A hS
  clear A
  refine wpSeq_nil ?_
  go_upto_region 5 with fail
  replace hS := hS.drew
  replace hB := below_drew hB
  refine wp_region_Z (S := Facts [.blk (G1) 24 (Iv .u8 (keyOf E0)), .blk (h0) 24 (Iv .u8 (keyOf 0)), .blk (h1) 24 (Iv .u8 (keyOf 1)), .blk (w.heap.size) 24 (Iv .u8 (keyOf N0)), .blk (w.heap.size + 1) 24 (Iv .u8 (keyOf N1)), .blk (w.heap.size + 1 + 1) 24 (Iv .u8 (keyOf N2))]) 41 (by kernel_rfl) ?_
  refine wpAnyZ_takeL 0 rfl (by kernel_rfl) (by kernel_rfl) (by kernel_rfl) (by kernel_rfl) (by kernel_rfl) (fun _ _ _ h => h) (show YieldsIf _ _ _ _ (Key (keyOf N0)) _ from yieldsIf_load rfl 24 _ rfl (w.heap.size) rfl 24 _ _ (.tail _ (.tail _ (.tail _ (.head _)))) Try.underlying24 rfl (info_key _ (keyOf_length _))) hS ?_
  simp only [Act.put, List.setIfInBounds_toArray, List.set_cons_zero, List.set_cons_succ]
  refine wpAnyZ_takeL 1 rfl (by kernel_rfl) (by kernel_rfl) (by kernel_rfl) (by kernel_rfl) (by kernel_rfl) (fun _ _ _ h => h) (show YieldsIf _ _ _ _ (Key (keyOf N1)) _ from yieldsIf_load rfl 24 _ rfl (w.heap.size + 1) rfl 24 _ _ (.tail _ (.tail _ (.tail _ (.tail _ (.head _))))) Try.underlying24 rfl (info_key _ (keyOf_length _))) hS ?_
  simp only [Act.put, List.setIfInBounds_toArray, List.set_cons_zero, List.set_cons_succ]
  refine wpAnyZ_takeL 2 rfl (by kernel_rfl) (by kernel_rfl) (by kernel_rfl) (by kernel_rfl) (by kernel_rfl) (fun _ _ _ h => h) (show YieldsIf _ _ _ _ (Key (keyOf 0)) _ from yieldsIf_load rfl 24 _ rfl (h0) rfl 24 _ _ (.tail _ (.head _)) Try.underlying24 rfl (info_key _ (keyOf_length _))) hS ?_
  simp only [Act.put, List.setIfInBounds_toArray, List.set_cons_zero, List.set_cons_succ]
  refine wpAnyZ_takeL 4 rfl (by kernel_rfl) (by kernel_rfl) (by kernel_rfl) (by kernel_rfl) (by kernel_rfl) (fun _ _ _ h => h) (show YieldsIf _ _ _ _ (Key (keyOf N1)) _ from yieldsIf_load rfl 24 _ rfl (w.heap.size + 1) rfl 24 _ _ (.tail _ (.tail _ (.tail _ (.tail _ (.head _))))) Try.underlying24 rfl (info_key _ (keyOf_length _))) hS ?_
  simp only [Act.put, List.setIfInBounds_toArray, List.set_cons_zero, List.set_cons_succ]
  refine wpAnyZ_takeL 5 rfl (by kernel_rfl) (by kernel_rfl) (by kernel_rfl) (by kernel_rfl) (by kernel_rfl) (fun _ _ _ h => h) (show YieldsIf _ _ _ _ (Key (keyOf N0)) _ from yieldsIf_load rfl 24 _ rfl (w.heap.size) rfl 24 _ _ (.tail _ (.tail _ (.tail _ (.head _)))) Try.underlying24 rfl (info_key _ (keyOf_length _))) hS ?_
  simp only [Act.put, List.setIfInBounds_toArray, List.set_cons_zero, List.set_cons_succ]
  refine wpAnyZ_takeL 6 rfl (by kernel_rfl) (by kernel_rfl) (by kernel_rfl) (by kernel_rfl) (by kernel_rfl) (fun _ _ _ h => h) (show YieldsIf _ _ _ _ (Key (keyOf 0)) _ from yieldsIf_load rfl 24 _ rfl (h0) rfl 24 _ _ (.tail _ (.head _)) Try.underlying24 rfl (info_key _ (keyOf_length _))) hS ?_
  simp only [Act.put, List.setIfInBounds_toArray, List.set_cons_zero, List.set_cons_succ]
  refine wpAnyZ_one (i := 3) (by kernel_rfl) ?_
  unfold wpOp
  go_simp
  left
  refine (muladd_n N0 N1 0 E1 lN0 lN1 (lit_lt 0 (by decide)) HE1.out _).mono ?_
  rintro e v2 ⟨rfl, b⟩
  replace hB := hB.trans (b.mono hB.size)
  replace hS := hS.below b
  clear b
  refine ⟨hS, ?_⟩
  refine wpAnyZ_one (i := 7) (by kernel_rfl) ?_
  unfold wpOp
  go_simp
  left
  refine (muladd_n N1 N0 0 E2 lN1 lN0 (lit_lt 0 (by decide)) HE2.out _).mono ?_
  rintro e v3 ⟨rfl, b⟩
  replace hB := hB.trans (b.mono hB.size)
  replace hS := hS.below b
  clear b
  refine ⟨hS, ?_⟩
  refine wpAnyZ_takeL 8 rfl (by kernel_rfl) (by kernel_rfl) (by kernel_rfl) (by kernel_rfl) (by kernel_rfl) (fun _ _ _ h => h) (yieldsIf_eql rfl 24 _ _ _ rfl _ _ rfl rfl eqg_api_Key true (key_dec E1 E2 true lE1 lE2 (decide_eq_true (by rw [HE1.out, HE2.out, Nat.mul_comm])))) hS ?_
  simp only [Act.put, List.setIfInBounds_toArray, List.set_cons_zero, List.set_cons_succ]
  refine wpAnyZ_takeL 9 rfl (by kernel_rfl) (by kernel_rfl) (by kernel_rfl) (by kernel_rfl) (by kernel_rfl) (fun _ _ _ h => h) (yieldsIf_move rfl _ rfl _ rfl) hS ?_
  simp only [Act.put, List.setIfInBounds_toArray, List.set_cons_zero, List.set_cons_succ]
  refine wpAnyZ_takeL 10 rfl (by kernel_rfl) (by kernel_rfl) (by kernel_rfl) (by kernel_rfl) (by kernel_rfl) (fun _ _ _ h => h) (show YieldsIf _ _ _ _ (Key (keyOf E0)) _ from yieldsIf_load rfl 24 _ rfl (G1) rfl 24 _ _ (.head _) Try.underlying24 rfl (info_key _ (keyOf_length _))) hS ?_
  simp only [Act.put, List.setIfInBounds_toArray, List.set_cons_zero, List.set_cons_succ]
  refine wpAnyZ_takeL 11 rfl (by kernel_rfl) (by kernel_rfl) (by kernel_rfl) (by kernel_rfl) (by kernel_rfl) (fun _ _ _ h => h) (show YieldsIf _ _ _ _ (Key (keyOf N2)) _ from yieldsIf_load rfl 24 _ rfl (w.heap.size + 1 + 1) rfl 24 _ _ (.tail _ (.tail _ (.tail _ (.tail _ (.tail _ (.head _)))))) Try.underlying24 rfl (info_key _ (keyOf_length _))) hS ?_
  simp only [Act.put, List.setIfInBounds_toArray, List.set_cons_zero, List.set_cons_succ]
  refine wpAnyZ_takeL 12 rfl (by kernel_rfl) (by kernel_rfl) (by kernel_rfl) (by kernel_rfl) (by kernel_rfl) (fun _ _ _ h => h) (show YieldsIf _ _ _ _ (Key (keyOf 0)) _ from yieldsIf_load rfl 24 _ rfl (h0) rfl 24 _ _ (.tail _ (.head _)) Try.underlying24 rfl (info_key _ (keyOf_length _))) hS ?_
  simp only [Act.put, List.setIfInBounds_toArray, List.set_cons_zero, List.set_cons_succ]
  refine wpAnyZ_takeL 14 rfl (by kernel_rfl) (by kernel_rfl) (by kernel_rfl) (by kernel_rfl) (by kernel_rfl) (fun _ _ _ h => h) (show YieldsIf _ _ _ _ (Key (keyOf N0)) _ from yieldsIf_load rfl 24 _ rfl (w.heap.size) rfl 24 _ _ (.tail _ (.tail _ (.tail _ (.head _)))) Try.underlying24 rfl (info_key _ (keyOf_length _))) hS ?_
  simp only [Act.put, List.setIfInBounds_toArray, List.set_cons_zero, List.set_cons_succ]
  refine wpAnyZ_takeL 15 rfl (by kernel_rfl) (by kernel_rfl) (by kernel_rfl) (by kernel_rfl) (by kernel_rfl) (fun _ _ _ h => h) (show YieldsIf _ _ _ _ (Key (keyOf N2)) _ from yieldsIf_load rfl 24 _ rfl (w.heap.size + 1 + 1) rfl 24 _ _ (.tail _ (.tail _ (.tail _ (.tail _ (.tail _ (.head _)))))) Try.underlying24 rfl (info_key _ (keyOf_length _))) hS ?_
  simp only [Act.put, List.setIfInBounds_toArray, List.set_cons_zero, List.set_cons_succ]
  refine wpAnyZ_takeL 16 rfl (by kernel_rfl) (by kernel_rfl) (by kernel_rfl) (by kernel_rfl) (by kernel_rfl) (fun _ _ _ h => h) (show YieldsIf _ _ _ _ (Key (keyOf N1)) _ from yieldsIf_load rfl 24 _ rfl (w.heap.size + 1) rfl 24 _ _ (.tail _ (.tail _ (.tail _ (.tail _ (.head _))))) Try.underlying24 rfl (info_key _ (keyOf_length _))) hS ?_
  simp only [Act.put, List.setIfInBounds_toArray, List.set_cons_zero, List.set_cons_succ]
  refine wpAnyZ_takeL 17 rfl (by kernel_rfl) (by kernel_rfl) (by kernel_rfl) (by kernel_rfl) (by kernel_rfl) (fun _ _ _ h => h) (show YieldsIf _ _ _ _ (Key (keyOf N2)) _ from yieldsIf_load rfl 24 _ rfl (w.heap.size + 1 + 1) rfl 24 _ _ (.tail _ (.tail _ (.tail _ (.tail _ (.tail _ (.head _)))))) Try.underlying24 rfl (info_key _ (keyOf_length _))) hS ?_
  simp only [Act.put, List.setIfInBounds_toArray, List.set_cons_zero, List.set_cons_succ]
  refine wpAnyZ_takeL 18 rfl (by kernel_rfl) (by kernel_rfl) (by kernel_rfl) (by kernel_rfl) (by kernel_rfl) (fun _ _ _ h => h) (show YieldsIf _ _ _ _ (Key (keyOf 0)) _ from yieldsIf_load rfl 24 _ rfl (h0) rfl 24 _ _ (.tail _ (.head _)) Try.underlying24 rfl (info_key _ (keyOf_length _))) hS ?_
  simp only [Act.put, List.setIfInBounds_toArray, List.set_cons_zero, List.set_cons_succ]
  refine wpAnyZ_one (i := 13) (by kernel_rfl) ?_
  unfold wpOp
  go_simp
  left
  refine (muladd_n E0 N2 0 E3 lE0 lN2 (lit_lt 0 (by decide)) HE3.out _).mono ?_
  rintro e v4 ⟨rfl, b⟩
  replace hB := hB.trans (b.mono hB.size)
  replace hS := hS.below b
  clear b
  refine ⟨hS, ?_⟩
  refine wpAnyZ_one (i := 19) (by kernel_rfl) ?_
  unfold wpOp
  go_simp
  left
  refine (muladd_n N1 N2 0 E4 lN1 lN2 (lit_lt 0 (by decide)) HE4.out _).mono ?_
  rintro e v5 ⟨rfl, b⟩
  replace hB := hB.trans (b.mono hB.size)
  replace hS := hS.below b
  clear b
  refine ⟨hS, ?_⟩
  refine wpAnyZ_one (i := 20) (by kernel_rfl) ?_
  unfold wpOp
  go_simp
  left
  refine (muladd_n N0 N2 E4 E5 lN0 lN2 lE4 HE5.out _).mono ?_
  rintro e v6 ⟨rfl, b⟩
  replace hB := hB.trans (b.mono hB.size)
  replace hS := hS.below b
  clear b
  refine ⟨hS, ?_⟩
  refine wpAnyZ_takeL 21 rfl (by kernel_rfl) (by kernel_rfl) (by kernel_rfl) (by kernel_rfl) (by kernel_rfl) (fun _ _ _ h => h) (yieldsIf_eql rfl 24 _ _ _ rfl _ _ rfl rfl eqg_api_Key true (key_dec E3 E5 true lE3 lE5 (decide_eq_true (by simp only [HE3.out, HE0.out, HE5.out, HE4.out, Nat.add_zero, Nat.mul_one, Nat.mod_mul_mod, Nat.add_mod_mod, Nat.mod_add_mod, Nat.add_mul, Nat.mod_mod])))) hS ?_
  simp only [Act.put, List.setIfInBounds_toArray, List.set_cons_zero, List.set_cons_succ]
  refine wpAnyZ_takeL 22 rfl (by kernel_rfl) (by kernel_rfl) (by kernel_rfl) (by kernel_rfl) (by kernel_rfl) (fun _ _ _ h => h) (yieldsIf_pick rfl _ _ _ rfl true rfl _ rfl) hS ?_
  simp only [Act.put, List.setIfInBounds_toArray, List.set_cons_zero, List.set_cons_succ]
  refine wpAnyZ_takeL 23 rfl (by kernel_rfl) (by kernel_rfl) (by kernel_rfl) (by kernel_rfl) (by kernel_rfl) (fun _ _ _ h => h) (yieldsIf_move rfl _ rfl _ rfl) hS ?_
  simp only [Act.put, List.setIfInBounds_toArray, List.set_cons_zero, List.set_cons_succ]
  refine wpAnyZ_takeL 24 rfl (by kernel_rfl) (by kernel_rfl) (by kernel_rfl) (by kernel_rfl) (by kernel_rfl) (fun _ _ _ h => h) (show YieldsIf _ _ _ _ (Key (keyOf N0)) _ from yieldsIf_load rfl 24 _ rfl (w.heap.size) rfl 24 _ _ (.tail _ (.tail _ (.tail _ (.head _)))) Try.underlying24 rfl (info_key _ (keyOf_length _))) hS ?_
  simp only [Act.put, List.setIfInBounds_toArray, List.set_cons_zero, List.set_cons_succ]
  refine wpAnyZ_takeL 25 rfl (by kernel_rfl) (by kernel_rfl) (by kernel_rfl) (by kernel_rfl) (by kernel_rfl) (fun _ _ _ h => h) (show YieldsIf _ _ _ _ (Key (keyOf 1)) _ from yieldsIf_load rfl 24 _ rfl (h1) rfl 24 _ _ (.tail _ (.tail _ (.head _))) Try.underlying24 rfl (info_key _ (keyOf_length _))) hS ?_
  simp only [Act.put, List.setIfInBounds_toArray, List.set_cons_zero, List.set_cons_succ]
  refine wpAnyZ_takeL 26 rfl (by kernel_rfl) (by kernel_rfl) (by kernel_rfl) (by kernel_rfl) (by kernel_rfl) (fun _ _ _ h => h) (show YieldsIf _ _ _ _ (Key (keyOf 0)) _ from yieldsIf_load rfl 24 _ rfl (h0) rfl 24 _ _ (.tail _ (.head _)) Try.underlying24 rfl (info_key _ (keyOf_length _))) hS ?_
  simp only [Act.put, List.setIfInBounds_toArray, List.set_cons_zero, List.set_cons_succ]
  refine wpAnyZ_takeL 28 (v := (.slice (some ⟨w.heap.size, 0, none⟩) 32 32)) rfl (by kernel_rfl) (by kernel_rfl) (by kernel_rfl) (by kernel_rfl) (by kernel_rfl) (fun _ _ _ h => h) (Or.inl ⟨by rfl, ?_⟩) hS ?_
  · intro w' _
    go_simp
  simp only [Act.put, List.setIfInBounds_toArray, List.set_cons_zero, List.set_cons_succ]
  refine wpAnyZ_one (i := 27) (by kernel_rfl) ?_
  unfold wpOp
  go_simp
  left
  refine (muladd_n N0 1 0 E6 lN0 (lit_lt 1 (by decide)) (lit_lt 0 (by decide)) HE6.out _).mono ?_
  rintro e v7 ⟨rfl, b⟩
  replace hB := hB.trans (b.mono hB.size)
  replace hS := hS.below b
  clear b
  refine ⟨hS, ?_⟩
  refine wpAnyZ_one (i := 29) (by kernel_rfl) ?_
  unfold wpOp
  go_simp
  left
  refine (reduce_n _ _ N0 E7 _ (hS.blkAt _ _ _ (.tail _ (.tail _ (.tail _ (.head _))))) lN0 HE7.out).mono ?_
  rintro e v8 ⟨rfl, b⟩
  replace hB := hB.trans (b.mono hB.size)
  replace hS := hS.below b
  clear b
  refine ⟨hS, ?_⟩
  refine wpAnyZ_takeL 30 rfl (by kernel_rfl) (by kernel_rfl) (by kernel_rfl) (by kernel_rfl) (by kernel_rfl) (fun _ _ _ h => h) (yieldsIf_eql rfl 24 _ _ _ rfl _ _ rfl rfl eqg_api_Key true (key_dec E6 E7 true lE6 lE7 (decide_eq_true (by rw [HE6.out, HE7.out, Nat.mul_one, Nat.add_zero])))) hS ?_
  simp only [Act.put, List.setIfInBounds_toArray, List.set_cons_zero, List.set_cons_succ]
  refine wpAnyZ_takeL 31 rfl (by kernel_rfl) (by kernel_rfl) (by kernel_rfl) (by kernel_rfl) (by kernel_rfl) (fun _ _ _ h => h) (yieldsIf_pick rfl _ _ _ rfl true rfl _ rfl) hS ?_
  simp only [Act.put, List.setIfInBounds_toArray, List.set_cons_zero, List.set_cons_succ]
  refine wpAnyZ_takeL 32 rfl (by kernel_rfl) (by kernel_rfl) (by kernel_rfl) (by kernel_rfl) (by kernel_rfl) (fun _ _ _ h => h) (yieldsIf_move rfl _ rfl _ rfl) hS ?_
  simp only [Act.put, List.setIfInBounds_toArray, List.set_cons_zero, List.set_cons_succ]
  refine wpAnyZ_takeL 33 rfl (by kernel_rfl) (by kernel_rfl) (by kernel_rfl) (by kernel_rfl) (by kernel_rfl) (fun _ _ _ h => h) (show YieldsIf _ _ _ _ (Key (keyOf N0)) _ from yieldsIf_load rfl 24 _ rfl (w.heap.size) rfl 24 _ _ (.tail _ (.tail _ (.tail _ (.head _)))) Try.underlying24 rfl (info_key _ (keyOf_length _))) hS ?_
  simp only [Act.put, List.setIfInBounds_toArray, List.set_cons_zero, List.set_cons_succ]
  refine wpAnyZ_takeL 34 rfl (by kernel_rfl) (by kernel_rfl) (by kernel_rfl) (by kernel_rfl) (by kernel_rfl) (fun _ _ _ h => h) (show YieldsIf _ _ _ _ (Key (keyOf 0)) _ from yieldsIf_load rfl 24 _ rfl (h0) rfl 24 _ _ (.tail _ (.head _)) Try.underlying24 rfl (info_key _ (keyOf_length _))) hS ?_
  simp only [Act.put, List.setIfInBounds_toArray, List.set_cons_zero, List.set_cons_succ]
  refine wpAnyZ_takeL 35 rfl (by kernel_rfl) (by kernel_rfl) (by kernel_rfl) (by kernel_rfl) (by kernel_rfl) (fun _ _ _ h => h) (show YieldsIf _ _ _ _ (Key (keyOf N1)) _ from yieldsIf_load rfl 24 _ rfl (w.heap.size + 1) rfl 24 _ _ (.tail _ (.tail _ (.tail _ (.tail _ (.head _))))) Try.underlying24 rfl (info_key _ (keyOf_length _))) hS ?_
  simp only [Act.put, List.setIfInBounds_toArray, List.set_cons_zero, List.set_cons_succ]
  refine wpAnyZ_takeL 37 (v := (.slice (some ⟨w.heap.size + 1, 0, none⟩) 32 32)) rfl (by kernel_rfl) (by kernel_rfl) (by kernel_rfl) (by kernel_rfl) (by kernel_rfl) (fun _ _ _ h => h) (Or.inl ⟨by rfl, ?_⟩) hS ?_
  · intro w' _
    go_simp
  simp only [Act.put, List.setIfInBounds_toArray, List.set_cons_zero, List.set_cons_succ]
  refine wpAnyZ_one (i := 36) (by kernel_rfl) ?_
  unfold wpOp
  go_simp
  left
  refine (muladd_n N0 0 N1 E8 lN0 (lit_lt 0 (by decide)) lN1 HE8.out _).mono ?_
  rintro e v9 ⟨rfl, b⟩
  replace hB := hB.trans (b.mono hB.size)
  replace hS := hS.below b
  clear b
  refine ⟨hS, ?_⟩
  refine wpAnyZ_one (i := 38) (by kernel_rfl) ?_
  unfold wpOp
  go_simp
  left
  refine (reduce_n _ _ N1 E9 _ (hS.blkAt _ _ _ (.tail _ (.tail _ (.tail _ (.tail _ (.head _)))))) lN1 HE9.out).mono ?_
  rintro e v10 ⟨rfl, b⟩
  replace hB := hB.trans (b.mono hB.size)
  replace hS := hS.below b
  clear b
  refine ⟨hS, ?_⟩
  refine wpAnyZ_takeL 39 rfl (by kernel_rfl) (by kernel_rfl) (by kernel_rfl) (by kernel_rfl) (by kernel_rfl) (fun _ _ _ h => h) (yieldsIf_eql rfl 24 _ _ _ rfl _ _ rfl rfl eqg_api_Key true (key_dec E8 E9 true lE8 lE9 (decide_eq_true (by rw [HE8.out, HE9.out, Nat.mul_zero, Nat.zero_add])))) hS ?_
  simp only [Act.put, List.setIfInBounds_toArray, List.set_cons_zero, List.set_cons_succ]
  refine wpAnyZ_takeL 40 rfl (by kernel_rfl) (by kernel_rfl) (by kernel_rfl) (by kernel_rfl) (by kernel_rfl) (fun _ _ _ h => h) (yieldsIf_pick rfl _ _ _ rfl true rfl _ rfl) hS ?_
  simp only [Act.put, List.setIfInBounds_toArray, List.set_cons_zero, List.set_cons_succ]
  refine wpAnyZ_one (i := 41) (by kernel_rfl) ?_
  unfold wpOp
  go_simp
  left
  refine wpAnyZ_done (by kernel_rfl) ?_ _
  go_wp2
  go_ret
  exact ⟨rfl, hB⟩
theorem slaws_any (l0 l1 l2 : List Int) (f0 f1 f2 : Nat → Nat) (hl0 : Bytes32 l0 f0) (hl1 : Bytes32 l1 f1) (hl2 : Bytes32 l2 f2) (w : World) :
    Calls Try.prog 6 #[Key l0, Key l1, Key l2] w fun e w' => e = .returned (.bool true) ∧ Below w.heap.size w w' := by
  rw [key_of_bytes hl0, key_of_bytes hl1, key_of_bytes hl2]
  exact slaws_n _ _ _ (bytes32_lt hl0) (bytes32_lt hl1) (bytes32_lt hl2) w
end Go.Proofs.Ytnglancehmdlpaa
