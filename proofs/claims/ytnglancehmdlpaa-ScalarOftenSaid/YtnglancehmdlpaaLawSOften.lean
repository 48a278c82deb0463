/- The law ScalarOften: a small number times another one is as many of it; a number less once is the order's less one of it. -/
import Derived.Test.YtnglancehmdlpaaSi
namespace Go.Proofs.Ytnglancehmdlpaa
open Go.RowKit

theorem ll1_lt : LL - 1 < pw 4 := by rw [pw_four]; decide
theorem n40_lt (n : Nat) : n % 40 < pw 4 := Nat.lt_trans (Nat.mod_lt _ (by decide)) (by rw [pw_four]; decide)
theorem minus_num (N : Nat) : (N * (LL - 1) + N) % LL = 0 := by
  have : N * (LL - 1) + N = N * LL := by
    rw [← Nat.mul_succ]
    rfl
  rw [this, Nat.mul_mod_left]
theorem often_step (N k : Nat) : (N * 1 + k * N % LL) % LL = (k + 1) * N % LL := by
  rw [Nat.mul_one, Nat.add_mod_mod, Nat.succ_mul, Nat.add_comm]

/-- The memory of the loop. -/
structure SofW (N0 h0 h1 : Nat) (w wr : World) (S : Nat) : Prop where
  k : Blk wr w.heap.size 24 (Iv .u8 (keyOf N0))
  s : Blk wr h0 24 (Iv .u8 (keyOf S))
  o : Blk wr h1 24 (Iv .u8 (keyOf 1))
  b : Below w.heap.size w wr
  d0 : w.heap.size < h0
  d1 : h0 ≠ h1
theorem SofW.below {N0 h0 h1 : Nat} {w wr w1 : World} {S : Nat} (h : SofW N0 h0 h1 w wr S) (hb : Below wr.heap.size wr w1) : SofW N0 h0 h1 w w1 S := ⟨h.k.below' hb, h.s.below' hb, h.o.below' hb, h.b.trans (hb.mono h.b.size), h.d0, h.d1⟩
theorem SofW.row {N0 h0 h1 : Nat} {w wr : World} {S : Nat} (h : SofW N0 h0 h1 w wr S) (T : Nat) : SofW N0 h0 h1 w (wr.setRow h0 (Iv .u8 (keyOf T))) T := by
  have := h.d0
  exact ⟨h.k.rowFar (by omega) _, h.s.row _, h.o.rowFar (Ne.symm h.d1) _, below_setRow h.b (by omega) _, h.d0, h.d1⟩

set_option maxHeartbeats 4000000 in
set_option maxRecDepth 100000 in
theorem soften_n (N0 n : Nat) (lN0 : N0 < pw 4) (hn : n < 256) (w : World) :
    Calls Try.prog 8 #[Key (keyOf N0), .int .u8 (n : Int)] w fun e w' => e = .returned (.bool true) ∧ Below w.heap.size w w' := by
  obtain ⟨S, hSS⟩ : ∃ r, r = n % 40 * N0 % LL := ⟨_, rfl⟩
  have lS : S < pw 4 := hSS ▸ mod_lt4 _
  have HS := Lib.hid hSS
  clear hSS
  obtain ⟨E0, hE0⟩ : ∃ r, r = (N0 * (n % 40) + 0) % LL := ⟨_, rfl⟩
  have lE0 : E0 < pw 4 := hE0 ▸ mod_lt4 _
  have HE0 := Lib.hid hE0
  clear hE0
  obtain ⟨E1, hE1⟩ : ∃ r, r = (N0 * (LL - 1) + N0) % LL := ⟨_, rfl⟩
  have lE1 : E1 < pw 4 := hE1 ▸ mod_lt4 _
  have HE1 := Lib.hid hE1
  clear hE1
  unfold Key
  go_enter Try.func8, Try.ntmps8
  go_wp2_with fail
  refine (awake_any _).mono ?_
  rintro e w1 ⟨rfl, b⟩
  have hS : Facts [.blk (w.heap.size) 24 (Iv .u8 (keyOf N0))] w1 := Facts.below (Facts.cons (Blk.new w _ _) Facts.nil) b
  have hB : Below w.heap.size w w1 := ((Below.refl w.heap.size w).alloc (Nat.le_refl _) _).trans (b.mono (by simp))
  clear b
  go_upto_region 3 with fail
  refine wp_region_seq ?_
  have hlt : w.heap.size < w1.heap.size := (hS.blkAt _ _ _ (.head _)).lt
  refine wpSeq_yield (S := Facts [.blk (w.heap.size) 24 (Iv .u8 (keyOf N0))]) (v := Key (keyOf 1)) (Or.inl ⟨by rfl, ?_⟩) hS ?_
  · intro w' _
    go_simp
    unfold Key
    rw [key_lit 1 (by decide)]
    rfl
  simp only [Act.put, List.setIfInBounds_toArray, List.set_cons_zero, List.set_cons_succ]
  refine wpSeq_yield (S := Facts [.blk (w.heap.size) 24 (Iv .u8 (keyOf N0))]) (v := Key (keyOf 0)) (Or.inl ⟨by rfl, ?_⟩) hS ?_
  · intro w' _
    go_simp
    unfold Key
    rw [key_lit 0 (by decide)]
    rfl
  simp only [Act.put, List.setIfInBounds_toArray, List.set_cons_zero, List.set_cons_succ]
  refine wpSeq_alloc 24 (Iv .u8 (List.replicate 32 0)) rfl (fun W => by go_simp; rfl) ?_
  simp only [Act.put, List.setIfInBounds_toArray, List.set_cons_zero, List.set_cons_succ]
  generalize hV0 : World.alloc w1 _ = V0
  have H0 : Blk V0 w1.heap.size 24 (Iv .u8 (List.replicate 32 0)) := hV0 ▸ Blk.new _ _ _
  have hb0 : Below w1.heap.size w1 V0 := hV0 ▸ (Below.refl _ _).alloc (Nat.le_refl _) _
  have le0 : w1.heap.size ≤ w1.heap.size := Nat.le_refl _
  clear hV0
  refine wpSeq_alloc 24 (Iv .u8 (List.replicate 32 0)) rfl (fun W => by go_simp; rfl) ?_
  simp only [Act.put, List.setIfInBounds_toArray, List.set_cons_zero, List.set_cons_succ]
  generalize hV1 : World.alloc V0 _ = V1
  have H1 : Blk V1 V0.heap.size 24 (Iv .u8 (List.replicate 32 0)) := hV1 ▸ Blk.new _ _ _
  have hb1 : Below w1.heap.size w1 V1 := hV1 ▸ hb0.alloc hb0.size _
  have ne01 : w1.heap.size ≠ V0.heap.size := Nat.ne_of_lt H0.lt
  replace H0 : Blk V1 _ 24 (Iv .u8 (List.replicate 32 0)) := hV1 ▸ H0.alloc _
  have le1 : w1.heap.size ≤ V0.heap.size := hb0.size
  clear hV1
  refine wpSeq_store_row rfl 24 _ _ rfl (w1.heap.size) (Iv .u8 (keyOf 1)) rfl rfl _ _ H0 (info_key_n _) (by rw [Iv_size, Iv_size, keyOf_length]; rfl) (Iv_one _ _) ?_
  try simp only [Act.put, List.setIfInBounds_toArray, List.set_cons_zero, List.set_cons_succ]
  replace H0 := H0.row (Iv .u8 (keyOf 1))
  replace H1 := H1.rowFar (Ne.symm ne01) (Iv .u8 (keyOf 1))
  replace hb1 := below_setRow hb1 le0 (Iv .u8 (keyOf 1))
  refine wpSeq_store_row rfl 24 _ _ rfl (V0.heap.size) (Iv .u8 (keyOf 0)) rfl rfl _ _ H1 (info_key_n _) (by rw [Iv_size, Iv_size, keyOf_length]; rfl) (Iv_one _ _) ?_
  try simp only [Act.put, List.setIfInBounds_toArray, List.set_cons_zero, List.set_cons_succ]
  replace H0 := H0.rowFar ne01 (Iv .u8 (keyOf 0))
  replace H1 := H1.row (Iv .u8 (keyOf 0))
  replace hb1 := below_setRow hb1 le1 (Iv .u8 (keyOf 0))
  refine wpSeq_nil ?_
  replace hB := hB.trans (hb1.mono hB.size)
  replace hS := hS.below hb1
  clear hb0 hb1
  generalize World.setRow (World.setRow V1 _ _) _ _ = W at *
  generalize V0.heap.size = h0 at *
  generalize w1.heap.size = h1 at *
  have F0 : SofW N0 h0 h1 w W (0 * N0 % LL) := by
    rw [Nat.zero_mul, Nat.zero_mod]
    exact ⟨hS.blkAt _ _ _ (.head _), H1, H0, hB, by omega, Ne.symm ne01⟩
  clear H0 H1 hS hB hlt le0 le1 ne01
  go_wp2_with fail
  go_loopw [14] (fun i wr => ∃ k : Nat, k ≤ n % 40 ∧ i = .int .u8 k ∧ SofW N0 h0 h1 w wr (k * N0 % LL)) (fun i _ => 40 - (intOf i).toNat)
  case atStart => exact ⟨0, by omega, rfl, F0⟩
  case round =>
    obtain ⟨k, hk, rfl, F⟩ := hrel
    clear F0
    by_cases hlt : k < n % 40
    · obtain ⟨s0, hs0⟩ : ∃ x, x = k * N0 % LL := ⟨_, rfl⟩
      obtain ⟨s1, hs1⟩ : ∃ x, x = (k + 1) * N0 % LL := ⟨_, rfl⟩
      rw [← hs0] at F
      have cM := fun W => muladd_n N0 1 s0 s1 lN0 (lit_lt 1 (by decide)) (hs0 ▸ mod_lt4 _) (by rw [hs1, hs0, often_step]) W
      unfold Key at cM
      have CM := Lib.hid cM
      have HS1 := Lib.hid hs1
      clear cM hs1 hs0
      have HK := F.k
      have HT := F.s
      have HO := F.o
      go_wp2_with (first | (refine wpList_load_row rfl 24 _ rfl w.heap.size rfl 24 _ (0, 0) _ HK Try.underlying24 rfl (info_key_n _) ?_) | (refine wpList_load_row rfl 24 _ rfl h1 rfl 24 _ (0, 0) _ HO Try.underlying24 rfl (info_key_n _) ?_) | (refine wpList_load_row rfl 24 _ rfl h0 rfl 24 _ (0, 0) _ HT Try.underlying24 rfl (info_key_n _) ?_))
      refine (CM.out _).mono ?_
      rintro e w3 ⟨rfl, b3⟩
      have F3 := F.below b3
      clear b3 F HK HT HO
      have HT := F3.s
      go_wp2_with (refine wpList_store_row rfl 24 _ _ rfl h0 (Iv .u8 (keyOf s1)) rfl rfl 24 _ HT (info_key_n _) (by rw [Iv_size, Iv_size, keyOf_length, keyOf_length]) (Iv_one _ _) ?_)
      exact ⟨⟨k + 1, by omega, by go_num, HS1.out ▸ F3.row s1⟩, by simp [intOf]; omega⟩
    · obtain rfl : k = n % 40 := by omega
      rw [← HS.out] at F
      have cK := fun g c f W (h : Sl W g 16 f) (hv : lv f 16 = LL - 1) => hv ▸ key_any g 16 c f W h
      unfold Key at cK
      have CK := Lib.hid cK
      clear cK
      go_wp2_with fail
      refine (l_any _).mono ?_
      rintro e w3 ⟨g1, c1, rfl, SL1, _, b3⟩
      have F3 := F.below b3
      clear b3 F
      unfold SlV
      go_wp2_with fail
      refine (num_any 1 _ (by decide)).mono ?_
      rintro e w4 ⟨g2, c2, rfl, SL2, _, b4⟩
      have F4 := F3.below b4
      have SL3 := SL1.below b4
      clear b4 F3 SL1
      unfold SlV
      go_wp2_with fail
      refine (minus_any g1 16 c1 g2 2 c2 _ _ _ SL3 SL2 (by decide)).mono ?_
      rintro e w5 ⟨g3, c3, rfl, SL5, _, b5⟩
      have F5 := F4.below b5
      clear b5 F4 SL3 SL2
      have hv5 : lv (subF 16 (dAt LL) (numF 1)) 16 = LL - 1 := by decide +kernel
      unfold SlV
      go_wp2_with fail
      refine (CK.out _ _ _ _ SL5 hv5).mono ?_
      rintro e w6 ⟨rfl, b6⟩
      have F6 := F5.below b6
      clear b6 F5 SL5 hv5
      go_upto_region 9 with (refine wpList_store_row rfl 24 _ _ rfl w6.heap.size (Iv .u8 (keyOf (LL - 1))) rfl rfl 24 _ (Blk.new w6 _ _) (info_key_n _) (by rw [Iv_size, keyOf_length]; rfl) (Iv_one _ _) ?_)
      generalize hW : World.setRow (World.alloc w6 _) _ _ = W9
      have hb : Below w6.heap.size w6 W9 := hW ▸ below_setRow ((Below.refl _ _).alloc (Nat.le_refl _) _) (Nat.le_refl _) _
      have HQ : Blk W9 w6.heap.size 24 (Iv .u8 (keyOf (LL - 1))) := hW ▸ (Blk.new w6 _ _).row _
      have F9 := F6.below hb
      clear hW hb F6
      generalize w6.heap.size = q at *
      have hB := F9.b
      have hS : Facts [.blk (q) 24 (Iv .u8 (keyOf (LL - 1))), .blk (h0) 24 (Iv .u8 (keyOf S)), .blk (h1) 24 (Iv .u8 (keyOf 1)), .blk (w.heap.size) 24 (Iv .u8 (keyOf N0))] W9 := Facts.cons (f := .blk _ _ _) HQ (Facts.cons (f := .blk _ _ _) F9.s (Facts.cons (f := .blk _ _ _) F9.o (Facts.cons (f := .blk _ _ _) F9.k Facts.nil)))
      clear F9 HQ
      replace hS := hS.drew
      replace hB := below_drew hB
      refine wp_region_Z (S := Facts [.blk (q) 24 (Iv .u8 (keyOf (LL - 1))), .blk (h0) 24 (Iv .u8 (keyOf S)), .blk (h1) 24 (Iv .u8 (keyOf 1)), .blk (w.heap.size) 24 (Iv .u8 (keyOf N0))]) 16 (by kernel_rfl) ?_
      refine wpAnyZ_takeL 0 rfl (by kernel_rfl) (by kernel_rfl) (by kernel_rfl) (by kernel_rfl) (by kernel_rfl) (fun _ _ _ h => h) (show YieldsIf _ _ _ _ (Key (keyOf S)) _ from yieldsIf_load rfl 24 _ rfl (h0) rfl 24 _ _ (.tail _ (.head _)) Try.underlying24 rfl (info_key _ (keyOf_length _))) hS ?_
      simp only [Act.put, List.setIfInBounds_toArray, List.set_cons_zero, List.set_cons_succ]
      refine wpAnyZ_takeL 1 rfl (by kernel_rfl) (by kernel_rfl) (by kernel_rfl) (by kernel_rfl) (by kernel_rfl) (fun _ _ _ h => h) (show YieldsIf _ _ _ _ (Key (keyOf N0)) _ from yieldsIf_load rfl 24 _ rfl (w.heap.size) rfl 24 _ _ (.tail _ (.tail _ (.tail _ (.head _)))) Try.underlying24 rfl (info_key _ (keyOf_length _))) hS ?_
      simp only [Act.put, List.setIfInBounds_toArray, List.set_cons_zero, List.set_cons_succ]
      refine wpAnyZ_takeL 2 rfl (by kernel_rfl) (by kernel_rfl) (by kernel_rfl) (by kernel_rfl) (by kernel_rfl) (fun _ _ _ h => h) (yieldsIf_move rfl _ rfl _ rfl) hS ?_
      simp only [Act.put, List.setIfInBounds_toArray, List.set_cons_zero, List.set_cons_succ]
      refine wpAnyZ_takeL 3 (v := (.int .u8 (((n % 40 : Nat)) : Int))) rfl (by kernel_rfl) (by kernel_rfl) (by kernel_rfl) (by kernel_rfl) (by kernel_rfl) (fun _ _ _ h => h) (Or.inl ⟨by rfl, ?_⟩) hS ?_
      · intro w' _
        go_simp
        rfl
      simp only [Act.put, List.setIfInBounds_toArray, List.set_cons_zero, List.set_cons_succ]
      refine wpAnyZ_takeL 4 (v := (Key (keyOf (n % 40)))) rfl (by kernel_rfl) (by kernel_rfl) (by kernel_rfl) (by kernel_rfl) (by kernel_rfl) (fun _ _ _ h => h) (Or.inl ⟨by rfl, ?_⟩) hS ?_
      · intro w' _
        go_simp
        unfold Key
        rw [key_lit (n % 40) (by omega)]
        rfl
      simp only [Act.put, List.setIfInBounds_toArray, List.set_cons_zero, List.set_cons_succ]
      refine wpAnyZ_takeL 5 (v := (Key (keyOf 0))) rfl (by kernel_rfl) (by kernel_rfl) (by kernel_rfl) (by kernel_rfl) (by kernel_rfl) (fun _ _ _ h => h) (Or.inl ⟨by rfl, ?_⟩) hS ?_
      · intro w' _
        go_simp
        unfold Key
        rw [key_lit 0 (by decide)]
        rfl
      simp only [Act.put, List.setIfInBounds_toArray, List.set_cons_zero, List.set_cons_succ]
      refine wpAnyZ_one (i := 6) (by kernel_rfl) ?_
      unfold wpOp
      go_simp
      left
      refine (muladd_n N0 (n % 40) 0 E0 lN0 (n40_lt n) (lit_lt 0 (by decide)) HE0.out _).mono ?_
      rintro e v1 ⟨rfl, b⟩
      replace hB := hB.trans (b.mono hB.size)
      replace hS := hS.below b
      clear b
      refine ⟨hS, ?_⟩
      refine wpAnyZ_takeL 7 rfl (by kernel_rfl) (by kernel_rfl) (by kernel_rfl) (by kernel_rfl) (by kernel_rfl) (fun _ _ _ h => h) (yieldsIf_eql rfl 24 _ _ _ rfl _ _ rfl rfl eqg_api_Key true (key_dec S E0 true lS lE0 (decide_eq_true (by rw [HS.out, HE0.out, Nat.add_zero, Nat.mul_comm])))) hS ?_
      simp only [Act.put, List.setIfInBounds_toArray, List.set_cons_zero, List.set_cons_succ]
      refine wpAnyZ_takeL 8 rfl (by kernel_rfl) (by kernel_rfl) (by kernel_rfl) (by kernel_rfl) (by kernel_rfl) (fun _ _ _ h => h) (yieldsIf_move rfl _ rfl _ rfl) hS ?_
      simp only [Act.put, List.setIfInBounds_toArray, List.set_cons_zero, List.set_cons_succ]
      refine wpAnyZ_takeL 9 rfl (by kernel_rfl) (by kernel_rfl) (by kernel_rfl) (by kernel_rfl) (by kernel_rfl) (fun _ _ _ h => h) (show YieldsIf _ _ _ _ (Key (keyOf N0)) _ from yieldsIf_load rfl 24 _ rfl (w.heap.size) rfl 24 _ _ (.tail _ (.tail _ (.tail _ (.head _)))) Try.underlying24 rfl (info_key _ (keyOf_length _))) hS ?_
      simp only [Act.put, List.setIfInBounds_toArray, List.set_cons_zero, List.set_cons_succ]
      refine wpAnyZ_takeL 10 rfl (by kernel_rfl) (by kernel_rfl) (by kernel_rfl) (by kernel_rfl) (by kernel_rfl) (fun _ _ _ h => h) (show YieldsIf _ _ _ _ (Key (keyOf (LL - 1))) _ from yieldsIf_load rfl 24 _ rfl (q) rfl 24 _ _ (.head _) Try.underlying24 rfl (info_key _ (keyOf_length _))) hS ?_
      simp only [Act.put, List.setIfInBounds_toArray, List.set_cons_zero, List.set_cons_succ]
      refine wpAnyZ_takeL 11 rfl (by kernel_rfl) (by kernel_rfl) (by kernel_rfl) (by kernel_rfl) (by kernel_rfl) (fun _ _ _ h => h) (show YieldsIf _ _ _ _ (Key (keyOf N0)) _ from yieldsIf_load rfl 24 _ rfl (w.heap.size) rfl 24 _ _ (.tail _ (.tail _ (.tail _ (.head _)))) Try.underlying24 rfl (info_key _ (keyOf_length _))) hS ?_
      simp only [Act.put, List.setIfInBounds_toArray, List.set_cons_zero, List.set_cons_succ]
      refine wpAnyZ_takeL 13 (v := (Key (keyOf 0))) rfl (by kernel_rfl) (by kernel_rfl) (by kernel_rfl) (by kernel_rfl) (by kernel_rfl) (fun _ _ _ h => h) (Or.inl ⟨by rfl, ?_⟩) hS ?_
      · intro w' _
        go_simp
        unfold Key
        rw [key_lit 0 (by decide)]
        rfl
      simp only [Act.put, List.setIfInBounds_toArray, List.set_cons_zero, List.set_cons_succ]
      refine wpAnyZ_one (i := 12) (by kernel_rfl) ?_
      unfold wpOp
      go_simp
      left
      refine (muladd_n N0 (LL - 1) N0 E1 lN0 ll1_lt lN0 HE1.out _).mono ?_
      rintro e v2 ⟨rfl, b⟩
      replace hB := hB.trans (b.mono hB.size)
      replace hS := hS.below b
      clear b
      refine ⟨hS, ?_⟩
      refine wpAnyZ_takeL 14 rfl (by kernel_rfl) (by kernel_rfl) (by kernel_rfl) (by kernel_rfl) (by kernel_rfl) (fun _ _ _ h => h) (yieldsIf_eql rfl 24 _ _ _ rfl _ _ rfl rfl eqg_api_Key true (key_dec E1 0 true lE1 (lit_lt 0 (by decide)) (decide_eq_true (by rw [HE1.out]; exact minus_num N0)))) hS ?_
      simp only [Act.put, List.setIfInBounds_toArray, List.set_cons_zero, List.set_cons_succ]
      refine wpAnyZ_takeL 15 rfl (by kernel_rfl) (by kernel_rfl) (by kernel_rfl) (by kernel_rfl) (by kernel_rfl) (fun _ _ _ h => h) (yieldsIf_pick rfl _ _ _ rfl true rfl _ rfl) hS ?_
      simp only [Act.put, List.setIfInBounds_toArray, List.set_cons_zero, List.set_cons_succ]
      refine wpAnyZ_one (i := 16) (by kernel_rfl) ?_
      unfold wpOp
      go_simp
      left
      refine wpAnyZ_done (by kernel_rfl) ?_ _
      go_wp2
      go_ret
      exact ⟨rfl, hB⟩
theorem soften_any (l0 : List Int) (f0 : Nat → Nat) (hl0 : Bytes32 l0 f0) (n : Nat) (hn : n < 256) (w : World) :
    Calls Try.prog 8 #[Key l0, .int .u8 (n : Int)] w fun e w' => e = .returned (.bool true) ∧ Below w.heap.size w w' := by
  rw [key_of_bytes hl0]
  exact soften_n _ n (bytes32_lt hl0) hn w
end Go.Proofs.Ytnglancehmdlpaa
