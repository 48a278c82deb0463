/- The law ScalarNear: numbers beside the multiples of the order. -/
import Derived.Test.YtnglancehmdlpaaRr
namespace Go.Proofs.Ytnglancehmdlpaa
open Go.RowKit

set_option maxHeartbeats 4000000 in
set_option maxRecDepth 100000 in
theorem snear_n (k : Nat) (d : Int) (hk : k < 256) (d0 : -32768 ≤ d) (d1 : d < 32768) (w : World) :
    Calls Try.prog 4 #[.int .u8 k, .int .i16 d] w fun e w' => e = .returned (.bool true) ∧ Below w.heap.size w w' := by
  go_enter Try.func4, Try.ntmps4
  go_wp2_with fail
  refine (awake_any _).mono ?_
  rintro e w1 ⟨rfl, b⟩
  have hB : Below w.heap.size w w1 := b.mono (by simp)
  clear b
  go_wp2_with fail
  refine (l_v _).mono ?_
  rintro e w2 ⟨rl, rfl, hL, b⟩
  replace hB := hB.trans (b.mono hB.size)
  clear b
  go_wp2_with fail
  rw [show ((k : Int) % 15 + 1) = ((k % 15 + 1 : Nat) : Int) from by omega]
  refine (num_v (k % 15 + 1) _ (by omega) rfl _).mono ?_
  rintro e w3 ⟨rm, rfl, hm, b⟩
  replace hB := hB.trans (b.mono hB.size)
  replace hL := hL.below b
  clear b
  go_wp2_with fail
  refine (times_v _ _ _ _ _ 16 2 _ hL.long hm rfl (by decide) (by decide)).mono ?_
  rintro e w4 ⟨rp, rfl, hp, b⟩
  replace hB := hB.trans (b.mono hB.size)
  replace hL := hL.below b
  clear b hm
  by_cases hd : 0 ≤ d
  · obtain ⟨n, rfl⟩ := Int.eq_ofNat_of_zero_le hd
    go_wp2_with fail
    refine (num_v n _ (by omega) rfl _).mono ?_
    rintro e w5 ⟨ra, rfl, ha, b⟩
    replace hB := hB.trans (b.mono hB.size)
    replace hp := hp.below b
    clear b
    go_wp2_with fail
    obtain ⟨N, hN⟩ : ∃ N, N = LL * (k % 15 + 1) + n := ⟨_, rfl⟩
    have lN : N < pw 4 := by
      rw [hN, pw_four, LL_eq]
      omega
    refine (sum_v _ _ _ _ N 18 _ 18 2 hp ha hN (by decide) (by decide) (by decide)).mono ?_
    rintro e w10 ⟨rn, rfl, Hrn, b⟩
    replace hB := hB.trans (b.mono hB.size)
    clear b hp ha hL
    have hS : Facts [] w10 := Facts.nil
    go_upto_region 7 with fail
    rcases Nat.eq_zero_or_pos (k % 15) with hq0 | hq0
    · have hq : (k : Int) % 15 = 0 := by omega
      have hC : decide (N < LL) = false := by
        rw [hN, LL_eq]
        first | exact decide_eq_true (by omega) | exact decide_eq_false (by omega)
      clear hN
      obtain ⟨E0, hE0⟩ : ∃ r, r = N % LL := ⟨_, rfl⟩
      have lE0 : E0 < pw 4 := hE0 ▸ mod_lt4 _
      have HE0 := Lib.hid hE0
      clear hE0
      refine wp_region_seq ?_
      refine wpSeq_yield (S := Facts []) (yieldsIf_move rfl _ rfl _ rfl) hS ?_
      simp only [Act.put, List.setIfInBounds_toArray, List.set_cons_zero, List.set_cons_succ]
      refine wpSeq_wp rfl ?_
      go_simp
      refine (rkey_v _ N _ _ Hrn).mono ?_
      rintro e v11 ⟨rfl, b⟩
      replace hB := hB.trans (b.mono hB.size)
      replace hS := hS.below b
      replace Hrn := Hrn.below b
      clear b
      show wpSeq _ _ _ _ _ _
      refine wpSeq_alloc 24 (Iv .u8 (List.replicate 32 0)) rfl (fun W => by go_simp; rfl) ?_
      simp only [Act.put, List.setIfInBounds_toArray, List.set_cons_zero, List.set_cons_succ]
      refine wpSeq_store_row rfl 24 _ _ rfl (v11.heap.size) (Iv .u8 (keyOf N)) rfl rfl _ _ (Blk.new _ _ _) (info_key _ (keyOf_length _)) (by rw [Iv_size, Iv_size, keyOf_length]; rfl) (Iv_one _ _) ?_
      try simp only [Act.put, List.setIfInBounds_toArray, List.set_cons_zero, List.set_cons_succ]
      have hb := below_setRow ((Below.refl v11.heap.size v11).alloc (Nat.le_refl _) (.cells (Iv .u8 (List.replicate 32 0)) 24)) (Nat.le_refl v11.heap.size) (Iv .u8 (keyOf N))
      have A := (Blk.new v11 24 (Iv .u8 (List.replicate 32 0))).row (Iv .u8 (keyOf N))
      replace hB := hB.trans (hb.mono hB.size)
      replace hS := hS.below hb
      replace Hrn := Hrn.below hb
      clear hb
      generalize hWn : World.setRow _ _ _ = Wn at *
      clear hWn
      generalize v11.heap.size = G11 at *
      replace hS : Facts [.blk (G11) 24 (Iv .u8 (keyOf N))] _ := Facts.cons (f := .blk G11 24 (Iv .u8 (keyOf N))) A hS
      clear A
      refine wpSeq_nil ?_
      go_upto_region 8 with fail
      refine wp_region_seq ?_
      refine wpSeq_yield (S := Facts [.blk (G11) 24 (Iv .u8 (keyOf N))]) (v := (.slice (some ⟨G11, 0, none⟩) 32 32)) (Or.inl ⟨by rfl, ?_⟩) hS ?_
      · intro w' _
        go_simp
      simp only [Act.put, List.setIfInBounds_toArray, List.set_cons_zero, List.set_cons_succ]
      refine wpSeq_wp rfl ?_
      go_simp
      refine (reduce_n _ _ N E0 _ (hS.blkAt _ _ _ (.head _)) lN HE0.out).mono ?_
      rintro e v12 ⟨rfl, b⟩
      replace hB := hB.trans (b.mono hB.size)
      replace hS := hS.below b
      replace Hrn := Hrn.below b
      clear b
      show wpSeq _ _ _ _ _ _
      refine wpSeq_yield (S := Facts [.blk (G11) 24 (Iv .u8 (keyOf N))]) (yieldsIf_move rfl _ rfl _ rfl) hS ?_
      simp only [Act.put, List.setIfInBounds_toArray, List.set_cons_zero, List.set_cons_succ]
      refine wpSeq_wp rfl ?_
      go_simp
      refine (l_v _).mono ?_
      rintro e v13 ⟨r13, rfl, Hr13, b⟩
      replace hB := hB.trans (b.mono hB.size)
      replace hS := hS.below b
      replace Hrn := Hrn.below b
      clear b
      show wpSeq _ _ _ _ _ _
      refine wpSeq_wp rfl ?_
      go_simp
      refine (rest_v _ _ N E0 19 _ Hrn Hr13 HE0.out (by decide)).mono ?_
      rintro e v14 ⟨r14, rfl, Hr14, b⟩
      replace hB := hB.trans (b.mono hB.size)
      replace hS := hS.below b
      replace Hrn := Hrn.below b
      replace Hr13 := Hr13.below b
      clear b
      show wpSeq _ _ _ _ _ _
      refine wpSeq_wp rfl ?_
      go_simp
      refine (rkey_v _ E0 _ _ Hr14).mono ?_
      rintro e v15 ⟨rfl, b⟩
      replace hB := hB.trans (b.mono hB.size)
      replace hS := hS.below b
      replace Hrn := Hrn.below b
      replace Hr13 := Hr13.below b
      replace Hr14 := Hr14.below b
      clear b
      show wpSeq _ _ _ _ _ _
      refine wpSeq_yield (S := Facts [.blk (G11) 24 (Iv .u8 (keyOf N))]) (yieldsIf_eql rfl 24 _ _ _ rfl _ _ rfl rfl eqg_api_Key true (key_dec E0 E0 true lE0 lE0 (decide_eq_true rfl))) hS ?_
      simp only [Act.put, List.setIfInBounds_toArray, List.set_cons_zero, List.set_cons_succ]
      refine wpSeq_yield (S := Facts [.blk (G11) 24 (Iv .u8 (keyOf N))]) (yieldsIf_move rfl _ rfl _ rfl) hS ?_
      simp only [Act.put, List.setIfInBounds_toArray, List.set_cons_zero, List.set_cons_succ]
      refine wpSeq_yield (S := Facts [.blk (G11) 24 (Iv .u8 (keyOf N))]) (show YieldsIf _ _ _ _ (Key (keyOf N)) _ from yieldsIf_load rfl 24 _ rfl (G11) rfl 24 _ _ (.head _) Try.underlying24 rfl (info_key _ (keyOf_length _))) hS ?_
      simp only [Act.put, List.setIfInBounds_toArray, List.set_cons_zero, List.set_cons_succ]
      refine wpSeq_wp rfl ?_
      go_simp
      refine (check_n N false lN (hC) _).mono ?_
      rintro e v16 ⟨rfl, b⟩
      replace hB := hB.trans (b.mono hB.size)
      replace hS := hS.below b
      replace Hrn := Hrn.below b
      replace Hr13 := Hr13.below b
      replace Hr14 := Hr14.below b
      clear b
      show wpSeq _ _ _ _ _ _
      refine wpSeq_yield (S := Facts [.blk (G11) 24 (Iv .u8 (keyOf N))]) (yieldsIf_move rfl _ rfl _ rfl) hS ?_
      simp only [Act.put, List.setIfInBounds_toArray, List.set_cons_zero, List.set_cons_succ]
      refine wpSeq_yield (S := Facts [.blk (G11) 24 (Iv .u8 (keyOf N))]) (v := (.int .u8 ((k : Int) % 15))) (Or.inl ⟨by rfl, ?_⟩) hS ?_
      · intro w' _
        go_simp
        rw [Int.tmod_eq_emod_of_nonneg (by omega)]
        try exact hq
      simp only [Act.put, List.setIfInBounds_toArray, List.set_cons_zero, List.set_cons_succ]
      refine wpSeq_yield (S := Facts [.blk (G11) 24 (Iv .u8 (keyOf N))]) (v := (.bool true)) (Or.inl ⟨by rfl, ?_⟩) hS ?_
      · intro w' _
        go_simp
        try simp [hq]
      simp only [Act.put, List.setIfInBounds_toArray, List.set_cons_zero, List.set_cons_succ]
      refine wpSeq_yield (S := Facts [.blk (G11) 24 (Iv .u8 (keyOf N))]) (yieldsIf_move rfl _ rfl _ rfl) hS ?_
      simp only [Act.put, List.setIfInBounds_toArray, List.set_cons_zero, List.set_cons_succ]
      refine wpSeq_yield (S := Facts [.blk (G11) 24 (Iv .u8 (keyOf N))]) (yieldsIf_move rfl _ rfl _ rfl) hS ?_
      simp only [Act.put, List.setIfInBounds_toArray, List.set_cons_zero, List.set_cons_succ]
      refine wpSeq_yield (S := Facts [.blk (G11) 24 (Iv .u8 (keyOf N))]) (v := (.bool false)) (Or.inl ⟨by rfl, ?_⟩) hS ?_
      · intro w' _
        go_simp
        try omega
      simp only [Act.put, List.setIfInBounds_toArray, List.set_cons_zero, List.set_cons_succ]
      refine wpSeq_yield (S := Facts [.blk (G11) 24 (Iv .u8 (keyOf N))]) (yieldsIf_pick rfl _ _ _ rfl true rfl _ rfl) hS ?_
      simp only [Act.put, List.setIfInBounds_toArray, List.set_cons_zero, List.set_cons_succ]
      refine wpSeq_yield (S := Facts [.blk (G11) 24 (Iv .u8 (keyOf N))]) (v := (.bool true)) (Or.inl ⟨by rfl, ?_⟩) hS ?_
      · intro w' _
        go_simp
      simp only [Act.put, List.setIfInBounds_toArray, List.set_cons_zero, List.set_cons_succ]
      refine wpSeq_yield (S := Facts [.blk (G11) 24 (Iv .u8 (keyOf N))]) (yieldsIf_pick rfl _ _ _ rfl true rfl _ rfl) hS ?_
      simp only [Act.put, List.setIfInBounds_toArray, List.set_cons_zero, List.set_cons_succ]
      refine wpSeq_yield (S := Facts [.blk (G11) 24 (Iv .u8 (keyOf N))]) (show YieldsIf _ _ _ _ (.bool true) _ from yieldsIf_assign rfl _ rfl _ rfl) hS ?_
      simp only [Act.put, List.setIfInBounds_toArray, List.set_cons_zero, List.set_cons_succ]
      refine wpSeq_nil ?_
      clear hq hq0 hd hC lN hS hk d0 d1 HE0 lE0 Hrn Hr13 Hr14
      rename_i aK
      refine aK _ _ ?_
      clear aK
      go_wp2
      go_ret
      exact ⟨rfl, hB⟩
    · have hq : ¬ (k : Int) % 15 = 0 := by omega
      have hC : decide (N < LL) = false := by
        rw [hN, LL_eq]
        first | exact decide_eq_true (by omega) | exact decide_eq_false (by omega)
      clear hN
      obtain ⟨E0, hE0⟩ : ∃ r, r = N % LL := ⟨_, rfl⟩
      have lE0 : E0 < pw 4 := hE0 ▸ mod_lt4 _
      have HE0 := Lib.hid hE0
      clear hE0
      refine wp_region_seq ?_
      refine wpSeq_yield (S := Facts []) (yieldsIf_move rfl _ rfl _ rfl) hS ?_
      simp only [Act.put, List.setIfInBounds_toArray, List.set_cons_zero, List.set_cons_succ]
      refine wpSeq_wp rfl ?_
      go_simp
      refine (rkey_v _ N _ _ Hrn).mono ?_
      rintro e v11 ⟨rfl, b⟩
      replace hB := hB.trans (b.mono hB.size)
      replace hS := hS.below b
      replace Hrn := Hrn.below b
      clear b
      show wpSeq _ _ _ _ _ _
      refine wpSeq_alloc 24 (Iv .u8 (List.replicate 32 0)) rfl (fun W => by go_simp; rfl) ?_
      simp only [Act.put, List.setIfInBounds_toArray, List.set_cons_zero, List.set_cons_succ]
      refine wpSeq_store_row rfl 24 _ _ rfl (v11.heap.size) (Iv .u8 (keyOf N)) rfl rfl _ _ (Blk.new _ _ _) (info_key _ (keyOf_length _)) (by rw [Iv_size, Iv_size, keyOf_length]; rfl) (Iv_one _ _) ?_
      try simp only [Act.put, List.setIfInBounds_toArray, List.set_cons_zero, List.set_cons_succ]
      have hb := below_setRow ((Below.refl v11.heap.size v11).alloc (Nat.le_refl _) (.cells (Iv .u8 (List.replicate 32 0)) 24)) (Nat.le_refl v11.heap.size) (Iv .u8 (keyOf N))
      have A := (Blk.new v11 24 (Iv .u8 (List.replicate 32 0))).row (Iv .u8 (keyOf N))
      replace hB := hB.trans (hb.mono hB.size)
      replace hS := hS.below hb
      replace Hrn := Hrn.below hb
      clear hb
      generalize hWn : World.setRow _ _ _ = Wn at *
      clear hWn
      generalize v11.heap.size = G11 at *
      replace hS : Facts [.blk (G11) 24 (Iv .u8 (keyOf N))] _ := Facts.cons (f := .blk G11 24 (Iv .u8 (keyOf N))) A hS
      clear A
      refine wpSeq_nil ?_
      go_upto_region 8 with fail
      refine wp_region_seq ?_
      refine wpSeq_yield (S := Facts [.blk (G11) 24 (Iv .u8 (keyOf N))]) (v := (.slice (some ⟨G11, 0, none⟩) 32 32)) (Or.inl ⟨by rfl, ?_⟩) hS ?_
      · intro w' _
        go_simp
      simp only [Act.put, List.setIfInBounds_toArray, List.set_cons_zero, List.set_cons_succ]
      refine wpSeq_wp rfl ?_
      go_simp
      refine (reduce_n _ _ N E0 _ (hS.blkAt _ _ _ (.head _)) lN HE0.out).mono ?_
      rintro e v12 ⟨rfl, b⟩
      replace hB := hB.trans (b.mono hB.size)
      replace hS := hS.below b
      replace Hrn := Hrn.below b
      clear b
      show wpSeq _ _ _ _ _ _
      refine wpSeq_yield (S := Facts [.blk (G11) 24 (Iv .u8 (keyOf N))]) (yieldsIf_move rfl _ rfl _ rfl) hS ?_
      simp only [Act.put, List.setIfInBounds_toArray, List.set_cons_zero, List.set_cons_succ]
      refine wpSeq_wp rfl ?_
      go_simp
      refine (l_v _).mono ?_
      rintro e v13 ⟨r13, rfl, Hr13, b⟩
      replace hB := hB.trans (b.mono hB.size)
      replace hS := hS.below b
      replace Hrn := Hrn.below b
      clear b
      show wpSeq _ _ _ _ _ _
      refine wpSeq_wp rfl ?_
      go_simp
      refine (rest_v _ _ N E0 19 _ Hrn Hr13 HE0.out (by decide)).mono ?_
      rintro e v14 ⟨r14, rfl, Hr14, b⟩
      replace hB := hB.trans (b.mono hB.size)
      replace hS := hS.below b
      replace Hrn := Hrn.below b
      replace Hr13 := Hr13.below b
      clear b
      show wpSeq _ _ _ _ _ _
      refine wpSeq_wp rfl ?_
      go_simp
      refine (rkey_v _ E0 _ _ Hr14).mono ?_
      rintro e v15 ⟨rfl, b⟩
      replace hB := hB.trans (b.mono hB.size)
      replace hS := hS.below b
      replace Hrn := Hrn.below b
      replace Hr13 := Hr13.below b
      replace Hr14 := Hr14.below b
      clear b
      show wpSeq _ _ _ _ _ _
      refine wpSeq_yield (S := Facts [.blk (G11) 24 (Iv .u8 (keyOf N))]) (yieldsIf_eql rfl 24 _ _ _ rfl _ _ rfl rfl eqg_api_Key true (key_dec E0 E0 true lE0 lE0 (decide_eq_true rfl))) hS ?_
      simp only [Act.put, List.setIfInBounds_toArray, List.set_cons_zero, List.set_cons_succ]
      refine wpSeq_yield (S := Facts [.blk (G11) 24 (Iv .u8 (keyOf N))]) (yieldsIf_move rfl _ rfl _ rfl) hS ?_
      simp only [Act.put, List.setIfInBounds_toArray, List.set_cons_zero, List.set_cons_succ]
      refine wpSeq_yield (S := Facts [.blk (G11) 24 (Iv .u8 (keyOf N))]) (show YieldsIf _ _ _ _ (Key (keyOf N)) _ from yieldsIf_load rfl 24 _ rfl (G11) rfl 24 _ _ (.head _) Try.underlying24 rfl (info_key _ (keyOf_length _))) hS ?_
      simp only [Act.put, List.setIfInBounds_toArray, List.set_cons_zero, List.set_cons_succ]
      refine wpSeq_wp rfl ?_
      go_simp
      refine (check_n N false lN (hC) _).mono ?_
      rintro e v16 ⟨rfl, b⟩
      replace hB := hB.trans (b.mono hB.size)
      replace hS := hS.below b
      replace Hrn := Hrn.below b
      replace Hr13 := Hr13.below b
      replace Hr14 := Hr14.below b
      clear b
      show wpSeq _ _ _ _ _ _
      refine wpSeq_yield (S := Facts [.blk (G11) 24 (Iv .u8 (keyOf N))]) (yieldsIf_move rfl _ rfl _ rfl) hS ?_
      simp only [Act.put, List.setIfInBounds_toArray, List.set_cons_zero, List.set_cons_succ]
      refine wpSeq_yield (S := Facts [.blk (G11) 24 (Iv .u8 (keyOf N))]) (v := (.int .u8 ((k : Int) % 15))) (Or.inl ⟨by rfl, ?_⟩) hS ?_
      · intro w' _
        go_simp
        rw [Int.tmod_eq_emod_of_nonneg (by omega)]
        try exact hq
      simp only [Act.put, List.setIfInBounds_toArray, List.set_cons_zero, List.set_cons_succ]
      refine wpSeq_yield (S := Facts [.blk (G11) 24 (Iv .u8 (keyOf N))]) (v := (.bool false)) (Or.inl ⟨by rfl, ?_⟩) hS ?_
      · intro w' _
        go_simp
        try simp [hq]
      simp only [Act.put, List.setIfInBounds_toArray, List.set_cons_zero, List.set_cons_succ]
      refine wpSeq_yield (S := Facts [.blk (G11) 24 (Iv .u8 (keyOf N))]) (yieldsIf_move rfl _ rfl _ rfl) hS ?_
      simp only [Act.put, List.setIfInBounds_toArray, List.set_cons_zero, List.set_cons_succ]
      refine wpSeq_yield (S := Facts [.blk (G11) 24 (Iv .u8 (keyOf N))]) (yieldsIf_off rfl) hS ?_
      simp only [Act.put, List.setIfInBounds_toArray, List.set_cons_zero, List.set_cons_succ]
      refine wpSeq_yield (S := Facts [.blk (G11) 24 (Iv .u8 (keyOf N))]) (yieldsIf_off rfl) hS ?_
      simp only [Act.put, List.setIfInBounds_toArray, List.set_cons_zero, List.set_cons_succ]
      refine wpSeq_yield (S := Facts [.blk (G11) 24 (Iv .u8 (keyOf N))]) (yieldsIf_pick rfl _ _ _ rfl false rfl _ rfl) hS ?_
      simp only [Act.put, List.setIfInBounds_toArray, List.set_cons_zero, List.set_cons_succ]
      refine wpSeq_yield (S := Facts [.blk (G11) 24 (Iv .u8 (keyOf N))]) (v := (.bool true)) (Or.inl ⟨by rfl, ?_⟩) hS ?_
      · intro w' _
        go_simp
      simp only [Act.put, List.setIfInBounds_toArray, List.set_cons_zero, List.set_cons_succ]
      refine wpSeq_yield (S := Facts [.blk (G11) 24 (Iv .u8 (keyOf N))]) (yieldsIf_pick rfl _ _ _ rfl true rfl _ rfl) hS ?_
      simp only [Act.put, List.setIfInBounds_toArray, List.set_cons_zero, List.set_cons_succ]
      refine wpSeq_yield (S := Facts [.blk (G11) 24 (Iv .u8 (keyOf N))]) (show YieldsIf _ _ _ _ (.bool true) _ from yieldsIf_assign rfl _ rfl _ rfl) hS ?_
      simp only [Act.put, List.setIfInBounds_toArray, List.set_cons_zero, List.set_cons_succ]
      refine wpSeq_nil ?_
      clear hq hq0 hd hC lN hS hk d0 d1 HE0 lE0 Hrn Hr13 Hr14
      rename_i aK
      refine aK _ _ ?_
      clear aK
      go_wp2
      go_ret
      exact ⟨rfl, hB⟩
  · obtain ⟨n, hn⟩ := Int.eq_ofNat_of_zero_le (show 0 ≤ -d by omega)
    obtain rfl : d = -(n : Int) := by omega
    go_wp2_with fail
    refine (num_v n _ (by omega) rfl _).mono ?_
    rintro e w5 ⟨ra, rfl, ha, b⟩
    replace hB := hB.trans (b.mono hB.size)
    replace hp := hp.below b
    clear b
    go_wp2_with fail
    obtain ⟨N, hN⟩ : ∃ N, N = LL * (k % 15 + 1) - n := ⟨_, rfl⟩
    have lN : N < pw 4 := by
      rw [hN, pw_four, LL_eq]
      omega
    refine (Calls.mono (minus_v _ _ _ _ N 18 _ _ hp ha (by rw [hN, LL_eq]; omega) (by decide)) fun _ _ h => RetL.more 19 (by decide) h).mono ?_
    rintro e w10 ⟨rn, rfl, Hrn, b⟩
    replace hB := hB.trans (b.mono hB.size)
    clear b hp ha hL
    have hS : Facts [] w10 := Facts.nil
    go_upto_region 7 with fail
    rcases Nat.eq_zero_or_pos (k % 15) with hq0 | hq0
    · have hq : (k : Int) % 15 = 0 := by omega
      have hC : decide (N < LL) = true := by
        rw [hN, LL_eq]
        first | exact decide_eq_true (by omega) | exact decide_eq_false (by omega)
      clear hN
      obtain ⟨E0, hE0⟩ : ∃ r, r = N % LL := ⟨_, rfl⟩
      have lE0 : E0 < pw 4 := hE0 ▸ mod_lt4 _
      have HE0 := Lib.hid hE0
      clear hE0
      refine wp_region_seq ?_
      refine wpSeq_yield (S := Facts []) (yieldsIf_move rfl _ rfl _ rfl) hS ?_
      simp only [Act.put, List.setIfInBounds_toArray, List.set_cons_zero, List.set_cons_succ]
      refine wpSeq_wp rfl ?_
      go_simp
      refine (rkey_v _ N _ _ Hrn).mono ?_
      rintro e v11 ⟨rfl, b⟩
      replace hB := hB.trans (b.mono hB.size)
      replace hS := hS.below b
      replace Hrn := Hrn.below b
      clear b
      show wpSeq _ _ _ _ _ _
      refine wpSeq_alloc 24 (Iv .u8 (List.replicate 32 0)) rfl (fun W => by go_simp; rfl) ?_
      simp only [Act.put, List.setIfInBounds_toArray, List.set_cons_zero, List.set_cons_succ]
      refine wpSeq_store_row rfl 24 _ _ rfl (v11.heap.size) (Iv .u8 (keyOf N)) rfl rfl _ _ (Blk.new _ _ _) (info_key _ (keyOf_length _)) (by rw [Iv_size, Iv_size, keyOf_length]; rfl) (Iv_one _ _) ?_
      try simp only [Act.put, List.setIfInBounds_toArray, List.set_cons_zero, List.set_cons_succ]
      have hb := below_setRow ((Below.refl v11.heap.size v11).alloc (Nat.le_refl _) (.cells (Iv .u8 (List.replicate 32 0)) 24)) (Nat.le_refl v11.heap.size) (Iv .u8 (keyOf N))
      have A := (Blk.new v11 24 (Iv .u8 (List.replicate 32 0))).row (Iv .u8 (keyOf N))
      replace hB := hB.trans (hb.mono hB.size)
      replace hS := hS.below hb
      replace Hrn := Hrn.below hb
      clear hb
      generalize hWn : World.setRow _ _ _ = Wn at *
      clear hWn
      generalize v11.heap.size = G11 at *
      replace hS : Facts [.blk (G11) 24 (Iv .u8 (keyOf N))] _ := Facts.cons (f := .blk G11 24 (Iv .u8 (keyOf N))) A hS
      clear A
      refine wpSeq_nil ?_
      go_upto_region 8 with fail
      refine wp_region_seq ?_
      refine wpSeq_yield (S := Facts [.blk (G11) 24 (Iv .u8 (keyOf N))]) (v := (.slice (some ⟨G11, 0, none⟩) 32 32)) (Or.inl ⟨by rfl, ?_⟩) hS ?_
      · intro w' _
        go_simp
      simp only [Act.put, List.setIfInBounds_toArray, List.set_cons_zero, List.set_cons_succ]
      refine wpSeq_wp rfl ?_
      go_simp
      refine (reduce_n _ _ N E0 _ (hS.blkAt _ _ _ (.head _)) lN HE0.out).mono ?_
      rintro e v12 ⟨rfl, b⟩
      replace hB := hB.trans (b.mono hB.size)
      replace hS := hS.below b
      replace Hrn := Hrn.below b
      clear b
      show wpSeq _ _ _ _ _ _
      refine wpSeq_yield (S := Facts [.blk (G11) 24 (Iv .u8 (keyOf N))]) (yieldsIf_move rfl _ rfl _ rfl) hS ?_
      simp only [Act.put, List.setIfInBounds_toArray, List.set_cons_zero, List.set_cons_succ]
      refine wpSeq_wp rfl ?_
      go_simp
      refine (l_v _).mono ?_
      rintro e v13 ⟨r13, rfl, Hr13, b⟩
      replace hB := hB.trans (b.mono hB.size)
      replace hS := hS.below b
      replace Hrn := Hrn.below b
      clear b
      show wpSeq _ _ _ _ _ _
      refine wpSeq_wp rfl ?_
      go_simp
      refine (rest_v _ _ N E0 19 _ Hrn Hr13 HE0.out (by decide)).mono ?_
      rintro e v14 ⟨r14, rfl, Hr14, b⟩
      replace hB := hB.trans (b.mono hB.size)
      replace hS := hS.below b
      replace Hrn := Hrn.below b
      replace Hr13 := Hr13.below b
      clear b
      show wpSeq _ _ _ _ _ _
      refine wpSeq_wp rfl ?_
      go_simp
      refine (rkey_v _ E0 _ _ Hr14).mono ?_
      rintro e v15 ⟨rfl, b⟩
      replace hB := hB.trans (b.mono hB.size)
      replace hS := hS.below b
      replace Hrn := Hrn.below b
      replace Hr13 := Hr13.below b
      replace Hr14 := Hr14.below b
      clear b
      show wpSeq _ _ _ _ _ _
      refine wpSeq_yield (S := Facts [.blk (G11) 24 (Iv .u8 (keyOf N))]) (yieldsIf_eql rfl 24 _ _ _ rfl _ _ rfl rfl eqg_api_Key true (key_dec E0 E0 true lE0 lE0 (decide_eq_true rfl))) hS ?_
      simp only [Act.put, List.setIfInBounds_toArray, List.set_cons_zero, List.set_cons_succ]
      refine wpSeq_yield (S := Facts [.blk (G11) 24 (Iv .u8 (keyOf N))]) (yieldsIf_move rfl _ rfl _ rfl) hS ?_
      simp only [Act.put, List.setIfInBounds_toArray, List.set_cons_zero, List.set_cons_succ]
      refine wpSeq_yield (S := Facts [.blk (G11) 24 (Iv .u8 (keyOf N))]) (show YieldsIf _ _ _ _ (Key (keyOf N)) _ from yieldsIf_load rfl 24 _ rfl (G11) rfl 24 _ _ (.head _) Try.underlying24 rfl (info_key _ (keyOf_length _))) hS ?_
      simp only [Act.put, List.setIfInBounds_toArray, List.set_cons_zero, List.set_cons_succ]
      refine wpSeq_wp rfl ?_
      go_simp
      refine (check_n N true lN (hC) _).mono ?_
      rintro e v16 ⟨rfl, b⟩
      replace hB := hB.trans (b.mono hB.size)
      replace hS := hS.below b
      replace Hrn := Hrn.below b
      replace Hr13 := Hr13.below b
      replace Hr14 := Hr14.below b
      clear b
      show wpSeq _ _ _ _ _ _
      refine wpSeq_yield (S := Facts [.blk (G11) 24 (Iv .u8 (keyOf N))]) (yieldsIf_move rfl _ rfl _ rfl) hS ?_
      simp only [Act.put, List.setIfInBounds_toArray, List.set_cons_zero, List.set_cons_succ]
      refine wpSeq_yield (S := Facts [.blk (G11) 24 (Iv .u8 (keyOf N))]) (v := (.int .u8 ((k : Int) % 15))) (Or.inl ⟨by rfl, ?_⟩) hS ?_
      · intro w' _
        go_simp
        rw [Int.tmod_eq_emod_of_nonneg (by omega)]
        try exact hq
      simp only [Act.put, List.setIfInBounds_toArray, List.set_cons_zero, List.set_cons_succ]
      refine wpSeq_yield (S := Facts [.blk (G11) 24 (Iv .u8 (keyOf N))]) (v := (.bool true)) (Or.inl ⟨by rfl, ?_⟩) hS ?_
      · intro w' _
        go_simp
        try simp [hq]
      simp only [Act.put, List.setIfInBounds_toArray, List.set_cons_zero, List.set_cons_succ]
      refine wpSeq_yield (S := Facts [.blk (G11) 24 (Iv .u8 (keyOf N))]) (yieldsIf_move rfl _ rfl _ rfl) hS ?_
      simp only [Act.put, List.setIfInBounds_toArray, List.set_cons_zero, List.set_cons_succ]
      refine wpSeq_yield (S := Facts [.blk (G11) 24 (Iv .u8 (keyOf N))]) (yieldsIf_move rfl _ rfl _ rfl) hS ?_
      simp only [Act.put, List.setIfInBounds_toArray, List.set_cons_zero, List.set_cons_succ]
      refine wpSeq_yield (S := Facts [.blk (G11) 24 (Iv .u8 (keyOf N))]) (v := (.bool true)) (Or.inl ⟨by rfl, ?_⟩) hS ?_
      · intro w' _
        go_simp
        try omega
      simp only [Act.put, List.setIfInBounds_toArray, List.set_cons_zero, List.set_cons_succ]
      refine wpSeq_yield (S := Facts [.blk (G11) 24 (Iv .u8 (keyOf N))]) (yieldsIf_pick rfl _ _ _ rfl true rfl _ rfl) hS ?_
      simp only [Act.put, List.setIfInBounds_toArray, List.set_cons_zero, List.set_cons_succ]
      refine wpSeq_yield (S := Facts [.blk (G11) 24 (Iv .u8 (keyOf N))]) (v := (.bool true)) (Or.inl ⟨by rfl, ?_⟩) hS ?_
      · intro w' _
        go_simp
      simp only [Act.put, List.setIfInBounds_toArray, List.set_cons_zero, List.set_cons_succ]
      refine wpSeq_yield (S := Facts [.blk (G11) 24 (Iv .u8 (keyOf N))]) (yieldsIf_pick rfl _ _ _ rfl true rfl _ rfl) hS ?_
      simp only [Act.put, List.setIfInBounds_toArray, List.set_cons_zero, List.set_cons_succ]
      refine wpSeq_yield (S := Facts [.blk (G11) 24 (Iv .u8 (keyOf N))]) (show YieldsIf _ _ _ _ (.bool true) _ from yieldsIf_assign rfl _ rfl _ rfl) hS ?_
      simp only [Act.put, List.setIfInBounds_toArray, List.set_cons_zero, List.set_cons_succ]
      refine wpSeq_nil ?_
      clear hq hq0 hd hC lN hS hk d0 d1 HE0 lE0 Hrn Hr13 Hr14
      rename_i aK
      refine aK _ _ ?_
      clear aK
      go_wp2
      go_ret
      exact ⟨rfl, hB⟩
    · have hq : ¬ (k : Int) % 15 = 0 := by omega
      have hC : decide (N < LL) = false := by
        rw [hN, LL_eq]
        first | exact decide_eq_true (by omega) | exact decide_eq_false (by omega)
      clear hN
      obtain ⟨E0, hE0⟩ : ∃ r, r = N % LL := ⟨_, rfl⟩
      have lE0 : E0 < pw 4 := hE0 ▸ mod_lt4 _
      have HE0 := Lib.hid hE0
      clear hE0
      refine wp_region_seq ?_
      refine wpSeq_yield (S := Facts []) (yieldsIf_move rfl _ rfl _ rfl) hS ?_
      simp only [Act.put, List.setIfInBounds_toArray, List.set_cons_zero, List.set_cons_succ]
      refine wpSeq_wp rfl ?_
      go_simp
      refine (rkey_v _ N _ _ Hrn).mono ?_
      rintro e v11 ⟨rfl, b⟩
      replace hB := hB.trans (b.mono hB.size)
      replace hS := hS.below b
      replace Hrn := Hrn.below b
      clear b
      show wpSeq _ _ _ _ _ _
      refine wpSeq_alloc 24 (Iv .u8 (List.replicate 32 0)) rfl (fun W => by go_simp; rfl) ?_
      simp only [Act.put, List.setIfInBounds_toArray, List.set_cons_zero, List.set_cons_succ]
      refine wpSeq_store_row rfl 24 _ _ rfl (v11.heap.size) (Iv .u8 (keyOf N)) rfl rfl _ _ (Blk.new _ _ _) (info_key _ (keyOf_length _)) (by rw [Iv_size, Iv_size, keyOf_length]; rfl) (Iv_one _ _) ?_
      try simp only [Act.put, List.setIfInBounds_toArray, List.set_cons_zero, List.set_cons_succ]
      have hb := below_setRow ((Below.refl v11.heap.size v11).alloc (Nat.le_refl _) (.cells (Iv .u8 (List.replicate 32 0)) 24)) (Nat.le_refl v11.heap.size) (Iv .u8 (keyOf N))
      have A := (Blk.new v11 24 (Iv .u8 (List.replicate 32 0))).row (Iv .u8 (keyOf N))
      replace hB := hB.trans (hb.mono hB.size)
      replace hS := hS.below hb
      replace Hrn := Hrn.below hb
      clear hb
      generalize hWn : World.setRow _ _ _ = Wn at *
      clear hWn
      generalize v11.heap.size = G11 at *
      replace hS : Facts [.blk (G11) 24 (Iv .u8 (keyOf N))] _ := Facts.cons (f := .blk G11 24 (Iv .u8 (keyOf N))) A hS
      clear A
      refine wpSeq_nil ?_
      go_upto_region 8 with fail
      refine wp_region_seq ?_
      refine wpSeq_yield (S := Facts [.blk (G11) 24 (Iv .u8 (keyOf N))]) (v := (.slice (some ⟨G11, 0, none⟩) 32 32)) (Or.inl ⟨by rfl, ?_⟩) hS ?_
      · intro w' _
        go_simp
      simp only [Act.put, List.setIfInBounds_toArray, List.set_cons_zero, List.set_cons_succ]
      refine wpSeq_wp rfl ?_
      go_simp
      refine (reduce_n _ _ N E0 _ (hS.blkAt _ _ _ (.head _)) lN HE0.out).mono ?_
      rintro e v12 ⟨rfl, b⟩
      replace hB := hB.trans (b.mono hB.size)
      replace hS := hS.below b
      replace Hrn := Hrn.below b
      clear b
      show wpSeq _ _ _ _ _ _
      refine wpSeq_yield (S := Facts [.blk (G11) 24 (Iv .u8 (keyOf N))]) (yieldsIf_move rfl _ rfl _ rfl) hS ?_
      simp only [Act.put, List.setIfInBounds_toArray, List.set_cons_zero, List.set_cons_succ]
      refine wpSeq_wp rfl ?_
      go_simp
      refine (l_v _).mono ?_
      rintro e v13 ⟨r13, rfl, Hr13, b⟩
      replace hB := hB.trans (b.mono hB.size)
      replace hS := hS.below b
      replace Hrn := Hrn.below b
      clear b
      show wpSeq _ _ _ _ _ _
      refine wpSeq_wp rfl ?_
      go_simp
      refine (rest_v _ _ N E0 19 _ Hrn Hr13 HE0.out (by decide)).mono ?_
      rintro e v14 ⟨r14, rfl, Hr14, b⟩
      replace hB := hB.trans (b.mono hB.size)
      replace hS := hS.below b
      replace Hrn := Hrn.below b
      replace Hr13 := Hr13.below b
      clear b
      show wpSeq _ _ _ _ _ _
      refine wpSeq_wp rfl ?_
      go_simp
      refine (rkey_v _ E0 _ _ Hr14).mono ?_
      rintro e v15 ⟨rfl, b⟩
      replace hB := hB.trans (b.mono hB.size)
      replace hS := hS.below b
      replace Hrn := Hrn.below b
      replace Hr13 := Hr13.below b
      replace Hr14 := Hr14.below b
      clear b
      show wpSeq _ _ _ _ _ _
      refine wpSeq_yield (S := Facts [.blk (G11) 24 (Iv .u8 (keyOf N))]) (yieldsIf_eql rfl 24 _ _ _ rfl _ _ rfl rfl eqg_api_Key true (key_dec E0 E0 true lE0 lE0 (decide_eq_true rfl))) hS ?_
      simp only [Act.put, List.setIfInBounds_toArray, List.set_cons_zero, List.set_cons_succ]
      refine wpSeq_yield (S := Facts [.blk (G11) 24 (Iv .u8 (keyOf N))]) (yieldsIf_move rfl _ rfl _ rfl) hS ?_
      simp only [Act.put, List.setIfInBounds_toArray, List.set_cons_zero, List.set_cons_succ]
      refine wpSeq_yield (S := Facts [.blk (G11) 24 (Iv .u8 (keyOf N))]) (show YieldsIf _ _ _ _ (Key (keyOf N)) _ from yieldsIf_load rfl 24 _ rfl (G11) rfl 24 _ _ (.head _) Try.underlying24 rfl (info_key _ (keyOf_length _))) hS ?_
      simp only [Act.put, List.setIfInBounds_toArray, List.set_cons_zero, List.set_cons_succ]
      refine wpSeq_wp rfl ?_
      go_simp
      refine (check_n N false lN (hC) _).mono ?_
      rintro e v16 ⟨rfl, b⟩
      replace hB := hB.trans (b.mono hB.size)
      replace hS := hS.below b
      replace Hrn := Hrn.below b
      replace Hr13 := Hr13.below b
      replace Hr14 := Hr14.below b
      clear b
      show wpSeq _ _ _ _ _ _
      refine wpSeq_yield (S := Facts [.blk (G11) 24 (Iv .u8 (keyOf N))]) (yieldsIf_move rfl _ rfl _ rfl) hS ?_
      simp only [Act.put, List.setIfInBounds_toArray, List.set_cons_zero, List.set_cons_succ]
      refine wpSeq_yield (S := Facts [.blk (G11) 24 (Iv .u8 (keyOf N))]) (v := (.int .u8 ((k : Int) % 15))) (Or.inl ⟨by rfl, ?_⟩) hS ?_
      · intro w' _
        go_simp
        rw [Int.tmod_eq_emod_of_nonneg (by omega)]
        try exact hq
      simp only [Act.put, List.setIfInBounds_toArray, List.set_cons_zero, List.set_cons_succ]
      refine wpSeq_yield (S := Facts [.blk (G11) 24 (Iv .u8 (keyOf N))]) (v := (.bool false)) (Or.inl ⟨by rfl, ?_⟩) hS ?_
      · intro w' _
        go_simp
        try simp [hq]
      simp only [Act.put, List.setIfInBounds_toArray, List.set_cons_zero, List.set_cons_succ]
      refine wpSeq_yield (S := Facts [.blk (G11) 24 (Iv .u8 (keyOf N))]) (yieldsIf_move rfl _ rfl _ rfl) hS ?_
      simp only [Act.put, List.setIfInBounds_toArray, List.set_cons_zero, List.set_cons_succ]
      refine wpSeq_yield (S := Facts [.blk (G11) 24 (Iv .u8 (keyOf N))]) (yieldsIf_off rfl) hS ?_
      simp only [Act.put, List.setIfInBounds_toArray, List.set_cons_zero, List.set_cons_succ]
      refine wpSeq_yield (S := Facts [.blk (G11) 24 (Iv .u8 (keyOf N))]) (yieldsIf_off rfl) hS ?_
      simp only [Act.put, List.setIfInBounds_toArray, List.set_cons_zero, List.set_cons_succ]
      refine wpSeq_yield (S := Facts [.blk (G11) 24 (Iv .u8 (keyOf N))]) (yieldsIf_pick rfl _ _ _ rfl false rfl _ rfl) hS ?_
      simp only [Act.put, List.setIfInBounds_toArray, List.set_cons_zero, List.set_cons_succ]
      refine wpSeq_yield (S := Facts [.blk (G11) 24 (Iv .u8 (keyOf N))]) (v := (.bool true)) (Or.inl ⟨by rfl, ?_⟩) hS ?_
      · intro w' _
        go_simp
      simp only [Act.put, List.setIfInBounds_toArray, List.set_cons_zero, List.set_cons_succ]
      refine wpSeq_yield (S := Facts [.blk (G11) 24 (Iv .u8 (keyOf N))]) (yieldsIf_pick rfl _ _ _ rfl true rfl _ rfl) hS ?_
      simp only [Act.put, List.setIfInBounds_toArray, List.set_cons_zero, List.set_cons_succ]
      refine wpSeq_yield (S := Facts [.blk (G11) 24 (Iv .u8 (keyOf N))]) (show YieldsIf _ _ _ _ (.bool true) _ from yieldsIf_assign rfl _ rfl _ rfl) hS ?_
      simp only [Act.put, List.setIfInBounds_toArray, List.set_cons_zero, List.set_cons_succ]
      refine wpSeq_nil ?_
      clear hq hq0 hd hC lN hS hk d0 d1 HE0 lE0 Hrn Hr13 Hr14
      rename_i aK
      refine aK _ _ ?_
      clear aK
      go_wp2
      go_ret
      exact ⟨rfl, hB⟩
theorem wf_i16 {n : Int} (h : (Lit.int .i16 n).wf = true) : -32768 ≤ n ∧ n < 32768 := by
  simp [Lit.wf, IntKind.min, IntKind.max, IntKind.signed, IntKind.bits] at h
  omega
end Go.Proofs.Ytnglancehmdlpaa
