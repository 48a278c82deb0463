/- The contract of Awake: the chapter's examples hold. -/
import Derived.Test.YtnglancehmdlpaaSh
namespace Go.Proofs.Ytnglancehmdlpaa
open Go.RowKit

theorem lit_lt (n : Nat) (h : n < 256) : n < pw 4 := Nat.lt_trans h (by rw [pw_four]; decide)
theorem key_lit (n : Nat) (h : n < 256) : Iv .u8 (keyOf n) = #[.int .u8 (n : Int), .int .u8 0, .int .u8 0, .int .u8 0, .int .u8 0, .int .u8 0, .int .u8 0, .int .u8 0, .int .u8 0, .int .u8 0, .int .u8 0, .int .u8 0, .int .u8 0, .int .u8 0, .int .u8 0, .int .u8 0, .int .u8 0, .int .u8 0, .int .u8 0, .int .u8 0, .int .u8 0, .int .u8 0, .int .u8 0, .int .u8 0, .int .u8 0, .int .u8 0, .int .u8 0, .int .u8 0, .int .u8 0, .int .u8 0, .int .u8 0, .int .u8 0] := by
  have h0 : byteAt n 0 = n := by unfold byteAt; omega
  have h1 : ∀ i, byteAt n (i + 1) = 0 := fun i => by
    unfold byteAt
    rw [Nat.div_eq_of_lt (Nat.lt_of_lt_of_le h (by rw [Nat.pow_succ]; exact Nat.le_mul_of_pos_left _ (Nat.pow_pos (by decide))))]
  simp [keyOf, Iv, h0, h1, List.range, List.range.loop]
theorem info_key_n (n : Nat) : (Try.prog.info? 24).map (·.size) = some (Iv .u8 (keyOf n)).size := info_key _ (keyOf_length n)

set_option maxHeartbeats 4000000 in
set_option maxRecDepth 100000 in
theorem awake_any (w : World) : Calls Try.prog 9 #[] w fun e w' => e = .returned (.bool true) ∧ Below w.heap.size w w' := by
  obtain ⟨E0, hE0⟩ : ∃ r, r = (2 * 3 + 4) % LL := ⟨_, rfl⟩
  have lE0 : E0 < pw 4 := hE0 ▸ mod_lt4 _
  have HE0 := Lib.hid hE0
  clear hE0
  obtain ⟨E1, hE1⟩ : ∃ r, r = LL % LL := ⟨_, rfl⟩
  have lE1 : E1 < pw 4 := hE1 ▸ mod_lt4 _
  have HE1 := Lib.hid hE1
  clear hE1
  have cK := fun g c W (h : Sl W g 16 (dAt LL)) => (d_val LL LL_lt) ▸ key_any g 16 c (dAt LL) W h
  unfold Key at cK
  have CK := Lib.hid cK
  clear cK
  go_enter Try.func9, Try.ntmps9
  go_wp2_with fail
  refine (l_any _).mono ?_
  rintro e w1 ⟨g0, c0, rfl, SL, _, b1⟩
  unfold SlV
  go_wp2_with fail
  refine (CK.out _ _ _ SL).mono ?_
  rintro e w2 ⟨rfl, b2⟩
  have hB := b1.trans (b2.mono b1.size)
  clear b1 b2 SL
  go_upto_region 2 with (refine wpList_store_row rfl 24 _ _ rfl w2.heap.size (Iv .u8 (keyOf LL)) rfl rfl 24 _ (Blk.new w2 _ _) (info_key_n _) (by rw [Iv_size, keyOf_length]; rfl) (Iv_one _ _) ?_)
  generalize hW : World.setRow (World.alloc w2 _) _ _ = W
  have hS : Facts [.blk w2.heap.size 24 (Iv .u8 (keyOf LL))] W := Facts.cons (hW ▸ (Blk.new w2 _ _).row _) Facts.nil
  replace hB : Below w.heap.size w W := hW ▸ below_setRow (hB.alloc hB.size _) hB.size _
  clear hW
  generalize w2.heap.size = g at *
  refine wp_region_seq ?_
  refine wpSeq_yield (S := Facts [.blk (g) 24 (Iv .u8 (keyOf LL))]) (v := (Key (keyOf 2))) (Or.inl ⟨by rfl, ?_⟩) hS ?_
  · intro w' _
    go_simp
    unfold Key
    rw [key_lit 2 (by decide)]
    rfl
  simp only [Act.put, List.setIfInBounds_toArray, List.set_cons_zero, List.set_cons_succ]
  refine wpSeq_yield (S := Facts [.blk (g) 24 (Iv .u8 (keyOf LL))]) (v := (Key (keyOf 3))) (Or.inl ⟨by rfl, ?_⟩) hS ?_
  · intro w' _
    go_simp
    unfold Key
    rw [key_lit 3 (by decide)]
    rfl
  simp only [Act.put, List.setIfInBounds_toArray, List.set_cons_zero, List.set_cons_succ]
  refine wpSeq_yield (S := Facts [.blk (g) 24 (Iv .u8 (keyOf LL))]) (v := (Key (keyOf 4))) (Or.inl ⟨by rfl, ?_⟩) hS ?_
  · intro w' _
    go_simp
    unfold Key
    rw [key_lit 4 (by decide)]
    rfl
  simp only [Act.put, List.setIfInBounds_toArray, List.set_cons_zero, List.set_cons_succ]
  refine wpSeq_wp rfl ?_
  go_simp
  refine (muladd_n 2 3 4 E0 (lit_lt 2 (by decide)) (lit_lt 3 (by decide)) (lit_lt 4 (by decide)) HE0.out _).mono ?_
  rintro e v1 ⟨rfl, b⟩
  replace hB := hB.trans (b.mono hB.size)
  replace hS := hS.below b
  clear b
  show wpSeq _ _ _ _ _ _
  refine wpSeq_yield (S := Facts [.blk (g) 24 (Iv .u8 (keyOf LL))]) (v := (Key (keyOf 10))) (Or.inl ⟨by rfl, ?_⟩) hS ?_
  · intro w' _
    go_simp
    unfold Key
    rw [key_lit 10 (by decide)]
    rfl
  simp only [Act.put, List.setIfInBounds_toArray, List.set_cons_zero, List.set_cons_succ]
  refine wpSeq_yield (S := Facts [.blk (g) 24 (Iv .u8 (keyOf LL))]) (yieldsIf_eql rfl 24 _ _ _ rfl _ _ rfl rfl eqg_api_Key true (key_dec E0 10 true lE0 (lit_lt 10 (by decide)) (decide_eq_true (by rw [HE0.out, LL_eq])))) hS ?_
  simp only [Act.put, List.setIfInBounds_toArray, List.set_cons_zero, List.set_cons_succ]
  refine wpSeq_yield (S := Facts [.blk (g) 24 (Iv .u8 (keyOf LL))]) (yieldsIf_move rfl _ rfl _ rfl) hS ?_
  simp only [Act.put, List.setIfInBounds_toArray, List.set_cons_zero, List.set_cons_succ]
  refine wpSeq_yield (S := Facts [.blk (g) 24 (Iv .u8 (keyOf LL))]) (v := (.slice (some ⟨g, 0, none⟩) 32 32)) (Or.inl ⟨by rfl, ?_⟩) hS ?_
  · intro w' _
    go_simp
  simp only [Act.put, List.setIfInBounds_toArray, List.set_cons_zero, List.set_cons_succ]
  refine wpSeq_wp rfl ?_
  go_simp
  refine (reduce_n _ _ LL E1 _ (hS.blkAt _ _ _ (.head _)) LL_lt HE1.out).mono ?_
  rintro e v2 ⟨rfl, b⟩
  replace hB := hB.trans (b.mono hB.size)
  replace hS := hS.below b
  clear b
  show wpSeq _ _ _ _ _ _
  refine wpSeq_yield (S := Facts [.blk (g) 24 (Iv .u8 (keyOf LL))]) (v := (Key (keyOf 0))) (Or.inl ⟨by rfl, ?_⟩) hS ?_
  · intro w' _
    go_simp
    unfold Key
    rw [key_lit 0 (by decide)]
    rfl
  simp only [Act.put, List.setIfInBounds_toArray, List.set_cons_zero, List.set_cons_succ]
  refine wpSeq_yield (S := Facts [.blk (g) 24 (Iv .u8 (keyOf LL))]) (yieldsIf_eql rfl 24 _ _ _ rfl _ _ rfl rfl eqg_api_Key true (key_dec E1 0 true lE1 (lit_lt 0 (by decide)) (decide_eq_true (by rw [HE1.out, Nat.mod_self])))) hS ?_
  simp only [Act.put, List.setIfInBounds_toArray, List.set_cons_zero, List.set_cons_succ]
  refine wpSeq_yield (S := Facts [.blk (g) 24 (Iv .u8 (keyOf LL))]) (yieldsIf_pick rfl _ _ _ rfl true rfl _ rfl) hS ?_
  simp only [Act.put, List.setIfInBounds_toArray, List.set_cons_zero, List.set_cons_succ]
  refine wpSeq_yield (S := Facts [.blk (g) 24 (Iv .u8 (keyOf LL))]) (yieldsIf_move rfl _ rfl _ rfl) hS ?_
  simp only [Act.put, List.setIfInBounds_toArray, List.set_cons_zero, List.set_cons_succ]
  refine wpSeq_yield (S := Facts [.blk (g) 24 (Iv .u8 (keyOf LL))]) (show YieldsIf _ _ _ _ (Key (keyOf LL)) _ from yieldsIf_load rfl 24 _ rfl (g) rfl 24 _ _ (.head _) Try.underlying24 rfl (info_key _ (keyOf_length _))) hS ?_
  simp only [Act.put, List.setIfInBounds_toArray, List.set_cons_zero, List.set_cons_succ]
  refine wpSeq_wp rfl ?_
  go_simp
  refine (check_n LL false LL_lt (decide_eq_false (Nat.lt_irrefl _)) _).mono ?_
  rintro e v3 ⟨rfl, b⟩
  replace hB := hB.trans (b.mono hB.size)
  replace hS := hS.below b
  clear b
  show wpSeq _ _ _ _ _ _
  refine wpSeq_yield (S := Facts [.blk (g) 24 (Iv .u8 (keyOf LL))]) (yieldsIf_not rfl _ _ rfl false rfl) hS ?_
  simp only [Act.put, List.setIfInBounds_toArray, List.set_cons_zero, List.set_cons_succ]
  refine wpSeq_yield (S := Facts [.blk (g) 24 (Iv .u8 (keyOf LL))]) (yieldsIf_pick rfl _ _ _ rfl true rfl _ rfl) hS ?_
  simp only [Act.put, List.setIfInBounds_toArray, List.set_cons_zero, List.set_cons_succ]
  refine wpSeq_yield (S := Facts [.blk (g) 24 (Iv .u8 (keyOf LL))]) (yieldsIf_move rfl _ rfl _ rfl) hS ?_
  simp only [Act.put, List.setIfInBounds_toArray, List.set_cons_zero, List.set_cons_succ]
  refine wpSeq_yield (S := Facts [.blk (g) 24 (Iv .u8 (keyOf LL))]) (v := (Key (keyOf 1))) (Or.inl ⟨by rfl, ?_⟩) hS ?_
  · intro w' _
    go_simp
    unfold Key
    rw [key_lit 1 (by decide)]
    rfl
  simp only [Act.put, List.setIfInBounds_toArray, List.set_cons_zero, List.set_cons_succ]
  refine wpSeq_wp rfl ?_
  go_simp
  refine (check_n 1 true (lit_lt 1 (by decide)) (decide_eq_true (by rw [LL_eq]; decide)) _).mono ?_
  rintro e v4 ⟨rfl, b⟩
  replace hB := hB.trans (b.mono hB.size)
  replace hS := hS.below b
  clear b
  show wpSeq _ _ _ _ _ _
  refine wpSeq_yield (S := Facts [.blk (g) 24 (Iv .u8 (keyOf LL))]) (yieldsIf_pick rfl _ _ _ rfl true rfl _ rfl) hS ?_
  simp only [Act.put, List.setIfInBounds_toArray, List.set_cons_zero, List.set_cons_succ]
  refine wpSeq_yield (S := Facts [.blk (g) 24 (Iv .u8 (keyOf LL))]) (yieldsIf_assign rfl _ rfl _ rfl) hS ?_
  simp only [Act.put, List.setIfInBounds_toArray, List.set_cons_zero, List.set_cons_succ]
  refine wpSeq_nil ?_
  go_wp2
  go_ret
  exact ⟨rfl, hB⟩
end Go.Proofs.Ytnglancehmdlpaa
