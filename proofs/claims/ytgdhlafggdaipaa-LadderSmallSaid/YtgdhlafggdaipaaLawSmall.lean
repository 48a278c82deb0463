/- The law LadderSmall: places of small orders are shared by nobody (printed by lawladder.py). -/
import Derived.Test.YtgdhlafggdaipaaCe
import Derived.Test.YtgdhlafggdaipaaJk
namespace Go.Proofs.Ytgdhlafggdaipaa
open Go.RowKit

theorem subF_lt (n : Nat) (fa fb : Nat → Nat) (i : Nat) : subF n fa fb i < 65536 := by
  unfold subF
  split
  · exact Nat.mod_lt _ (by decide)
  · decide
theorem minus_val (f f' : Nat → Nat) (n n' : Nat) (h1 : ∀ i, f i < 65536) (h1' : ∀ i, f' i < 65536) (hh' : ∀ i, n' ≤ i → f' i = 0) (hle : lv f' n' ≤ lv f n) :
    lv (subF n f f') n + lv f' n' = lv f n := by
  have s := sub_num f f' h1 h1' n n (Nat.le_refl _)
  have hlt := lv_lt f h1 n
  have z : ∀ i, n ≤ i → f' i = 0 := by
    intro i hi
    have p := lv_part_any f' h1' n' hh' i
    have q : (65536 : Nat) ^ n ≤ 65536 ^ i := Nat.pow_le_pow_right (by decide) hi
    rw [Nat.div_eq_of_lt (by omega)] at p
    exact p.symm
  have e : lv f' n = lv f' n' := by
    rcases Nat.le_total n n' with h | h
    · exact (lv_high f' n z n' h).symm
    · exact lv_high f' n' hh' n h
  have b := brw_le f f' n
  have l := lv_lt (subF n f f') (subF_lt n f f') n
  rcases Nat.eq_zero_or_pos (brw f f' n) with hb | hb
  · rw [hb, Nat.zero_mul] at s
    omega
  · have hb1 : brw f f' n = 1 := by omega
    rw [hb1, Nat.one_mul] at s
    omega
theorem minus_v (u v : Value) (U V R : Nat) (w : World) (hu : LongIs w u U) (hv : LongIs w v V) (hR : R + V = U) : Calls Try.prog 16 #[u, v] w (RetL w R) := by
  obtain ⟨g, n, cc, f, rfl, h1, h2, h3⟩ := hu
  obtain ⟨g', n', c', f', rfl, h1', h2', h3'⟩ := hv
  have s := minus_val f f' n n' h1.lt h1'.lt h1'.high (by omega)
  exact retL_ofSl (V := R) (minus_any g n cc g' n' c' f f' w h1 h1' (by omega)) (by omega) h3
theorem p_v (w : World) : Calls Try.prog 17 #[] w (RetL w pp) := retL_ofSl (p_any w) pF_num (by decide)
theorem small0 (a : Nat) : ladN (clN a) (plN 0) = 0 := by rw [plN0, small_zero]
theorem small1 (a : Nat) : ladN (clN a) (plN 1) = 0 := by
  rw [plN_same one_lt]
  exact small_tri _ 1 one_lt (by decide +kernel) (clN_mod8 a)
theorem small2 (a : Nat) : ladN (clN a) (plN (pp - 1)) = 0 := by
  have h : pp - 1 < pp := by rw [pp_eq]; decide
  rw [plN_same h]
  exact small_tri _ _ h (by decide +kernel) (clN_mod8 a)
theorem small3 (a : Nat) : ladN (clN a) (plN pp) = 0 := by
  have h : plN pp = 0 := by decide +kernel
  rw [h, small_zero]

set_option maxHeartbeats 8000000 in
set_option maxRecDepth 100000 in
theorem small_n (NA : Nat) (k : Nat) (hk : k < 256) (w : World) :
    Calls Try.prog 6 #[Key (keyOf NA), .int .u8 (k : Int)] w fun e w' => e = .returned (.bool true) ∧ Below w.heap.size w w' := by
  unfold Key
  go_enter Try.func6, Try.ntmps6
  go_wp2_with fail
  refine (awake_any _).mono ?_
  rintro e w1 ⟨rfl, b⟩
  have hS : Facts [.blk (w.heap.size) 23 (Iv .u8 (keyOf NA))] w1 := Facts.below (Facts.cons (f := .blk (w.heap.size) 23 (Iv .u8 (keyOf NA))) (Blk.new' rfl _ _) (Facts.nil)) b
  have hB : Below w.heap.size w w1 := ((Below.refl w.heap.size w).alloc (Nat.le_refl _) _).trans (b.mono (by simp))
  clear b
  rcases (show k % 4 = 0 ∨ k % 4 = 1 ∨ k % 4 = 2 ∨ k % 4 = 3 by omega) with h | h | h | h
  · have t4 : (k : Int).tmod 4 = 0 := by rw [Int.tmod_eq_emod_of_nonneg (by omega)]; omega
    have t2 : (k : Int).tmod 2 = 0 := by rw [Int.tmod_eq_emod_of_nonneg (by omega)]; omega
    have e4 : (k : Int) % 4 = 0 := by omega
    have e2 : (k : Int) % 2 = 0 := by omega
    clear h
    go_wp2_with fail
    refine (num_v 0 (by decide) _).mono ?_
    rintro _ x1 ⟨vp, rfl, Hvp, b⟩
    replace hS := hS.below b
    replace hB := hB.trans (b.mono hB.size)
    clear b
    obtain ⟨V, kV, hz, Hvp⟩ : ∃ V, V < p256 ∧ ladN (clN NA) (plN V) = 0 ∧ LongIs x1 vp V := ⟨_, by decide, small0 NA, Hvp⟩
    have CS := Lib.hid (fun W => shared_n NA V 0 kV hz.symm false rfl W)
    clear hz
    go_upto_region 9 with fail
    clear t4 t2 e4 e2
    replace hS : Facts [.long vp V, .blk (w.heap.size) 23 (Iv .u8 (keyOf NA))] _ := Facts.cons (f := .long vp V) Hvp hS
    clear Hvp
    replace hS := hS.drew
    replace hB := below_drew hB
    refine wp_region_Z (S := Facts [.long vp V, .blk (w.heap.size) 23 (Iv .u8 (keyOf NA))]) 9 (by kernel_rfl) ?_
    refine wpAnyZ_takeL 0 rfl (by kernel_rfl) (by kernel_rfl) (by kernel_rfl) (by kernel_rfl) (by kernel_rfl) (fun _ _ _ h => h) (show YieldsIf _ _ _ _ (Key (keyOf NA)) _ from yieldsIf_load rfl 23 _ rfl (w.heap.size) rfl 23 _ _ (.tail _ (.head _)) Try.underlying23 rfl (info_key _ (keyOf_length _))) hS ?_
    simp only [Act.put, List.setIfInBounds_toArray, List.set_cons_zero, List.set_cons_succ]
    refine wpAnyZ_takeL 1 rfl (by kernel_rfl) (by kernel_rfl) (by kernel_rfl) (by kernel_rfl) (by kernel_rfl) (fun _ _ _ h => h) (yieldsIf_move rfl _ rfl _ rfl) hS ?_
    simp only [Act.put, List.setIfInBounds_toArray, List.set_cons_zero, List.set_cons_succ]
    refine wpAnyZ_jobsL [(⟨2, 27⟩, .is (Key (keyOf V))), (⟨3, 28⟩, .is (.tuple #[(Key (keyOf 0)), (.bool false)])), (⟨4, 24⟩, .is (.tuple #[(Key (keyOf 0)), (.bool false)])), (⟨5, 29⟩, .is (Key (keyOf 0))), (⟨6, 30⟩, .is (.bool false)), (⟨7, 6⟩, .rel (fun v w' => ∃ g, v = .pointer (some ⟨g, 0, none⟩) ∧ Blk w' g 23 (Iv .u8 (List.replicate 32 0))))] [6] 2 _ _ _ (by kernel_rfl) (fun _ _ _ _ _ h => h) ?_ (fun _ _ _ _ _ h => h) (fun _ _ h hb => h.below hb) hS ?_ ?_ ?_
    · intro j hj hl
      simp only [List.map_cons, List.map_nil, List.mem_cons, List.not_mem_nil, or_false] at hj
      rcases hj with rfl | rfl | rfl | rfl | rfl | rfl
      · exact absurd hl (by decide)
      · exact absurd hl (by decide)
      · exact absurd hl (by decide)
      · exact absurd hl (by decide)
      · refine ⟨_, rfl, yields_frame [⟨4, 24⟩] (by kernel_rfl) ?_, fun _ => rfl, (block_bool _)⟩
        show YieldsIf _ _ _ _ (.bool false) (Act.put _ (some 24) (.tuple #[(Key (keyOf 0)), (.bool false)]))
        simp only [Act.put, List.setIfInBounds_toArray, List.set_cons_zero, List.set_cons_succ]
        exact (show YieldsIf _ _ _ _ (.bool false) _ from yieldsIf_extract rfl _ _ rfl _ rfl _ rfl)
      · exact absurd hl (by decide)
    · intro j hj
      simp only [List.map_cons, List.map_nil, List.mem_cons, List.not_mem_nil, or_false] at hj
      rcases hj with rfl | rfl | rfl | rfl | rfl | rfl
      · exact fun _ _ _ h _ => h
      · exact fun _ _ _ h _ => h
      · exact fun _ _ _ h _ => h
      · exact fun _ _ _ h _ => h
      · exact fun _ _ _ h _ => h
      · intro v w1 w2 h hb
        obtain ⟨g, e, H⟩ : ∃ g, v = .pointer (some ⟨g, 0, none⟩) ∧ Blk w1 g 23 (Iv .u8 (List.replicate 32 0)) := h
        exact ⟨g, e, H.below' hb⟩
    · intro j hj
      simp only [List.map_cons, List.map_nil, List.mem_cons, List.not_mem_nil, or_false] at hj
      rcases hj with rfl | rfl | rfl | rfl | rfl | rfl
      · refine job_frame [] (by kernel_rfl) ?_
        show JobAt _ _ _ _ _ _ _
        simp only [putAll, List.foldr_nil]
        intro W K hS' hK
        unfold wpOp
        go_simp
        left
        refine (rkey_v _ V _ (hS'.longAt vp V (.head _))).mono ?_
        rintro e v ⟨rfl, b⟩
        exact hK _ _ rfl b (fun g hg => ((block_agg _) g hg).elim)
      · refine job_frame [⟨2, 27⟩] (by kernel_rfl) ?_
        show JobAt _ _ _ _ (Act.put _ (some 27) (Key (keyOf V))) _ _
        simp only [Act.put, List.setIfInBounds_toArray, List.set_cons_zero, List.set_cons_succ]
        intro W K hS' hK
        unfold wpOp
        go_simp
        left
        refine (CS.out _).mono ?_
        rintro e v ⟨rfl, b⟩
        exact hK _ _ rfl b (fun g hg => ((block_tuple _) g hg).elim)
      · refine job_frame [⟨3, 28⟩] (by kernel_rfl) ?_
        show JobAt _ _ _ _ (Act.put _ (some 28) (.tuple #[(Key (keyOf 0)), (.bool false)])) _ _
        simp only [Act.put, List.setIfInBounds_toArray, List.set_cons_zero, List.set_cons_succ]
        exact job_yield rfl rfl (.tuple #[(Key (keyOf 0)), (.bool false)]) (block_tuple _) (yieldsIf_move rfl _ rfl _ rfl)
      · refine job_frame [⟨4, 24⟩] (by kernel_rfl) ?_
        show JobAt _ _ _ _ (Act.put _ (some 24) (.tuple #[(Key (keyOf 0)), (.bool false)])) _ _
        simp only [Act.put, List.setIfInBounds_toArray, List.set_cons_zero, List.set_cons_succ]
        exact job_yield rfl rfl (Key (keyOf 0)) (block_agg _) (show YieldsIf _ _ _ _ (Key (keyOf 0)) _ from yieldsIf_extract rfl _ _ rfl _ rfl _ rfl)
      · refine job_frame [⟨4, 24⟩] (by kernel_rfl) ?_
        show JobAt _ _ _ _ (Act.put _ (some 24) (.tuple #[(Key (keyOf 0)), (.bool false)])) _ _
        simp only [Act.put, List.setIfInBounds_toArray, List.set_cons_zero, List.set_cons_succ]
        exact job_yield rfl rfl (.bool false) (block_bool _) (show YieldsIf _ _ _ _ (.bool false) _ from yieldsIf_extract rfl _ _ rfl _ rfl _ rfl)
      · refine job_frame [] (by kernel_rfl) ?_
        show JobAt _ _ _ _ _ _ _
        exact job_alloc 23 (Iv .u8 (List.replicate 32 0)) _ _ rfl rfl rfl (fun W => by go_simp; rfl)
    · intro f W hS2 hB1 hR hF hA
      have e2 : f 2 = (Key (keyOf V)) := hR ⟨2, 27⟩ (by simp)
      have e3 : f 3 = (.tuple #[(Key (keyOf 0)), (.bool false)]) := hR ⟨3, 28⟩ (by simp)
      have e4 : f 4 = (.tuple #[(Key (keyOf 0)), (.bool false)]) := hR ⟨4, 24⟩ (by simp)
      have e5 : f 5 = (Key (keyOf 0)) := hR ⟨5, 29⟩ (by simp)
      have e6 : f 6 = (.bool false) := hR ⟨6, 30⟩ (by simp)
      obtain ⟨g7r9, e7, A7⟩ : ∃ g, f 7 = .pointer (some ⟨g, 0, none⟩) ∧ Blk W g 23 (Iv .u8 (List.replicate 32 0)) := hR ⟨7, 6⟩ (by simp)
      have n7 : _ ≤ g7r9 := (hF ⟨7, 6⟩ (by simp) g7r9 (by show blockOf (f 7) = _; rw [e7]; rfl)).1
      have m7 : w.heap.size ≤ g7r9 := Nat.le_trans hB.size n7
      clear hA hF hR
      simp only [setAll, putAll, List.map_cons, List.map_nil, List.foldr_cons, List.foldr_nil, Act.put, List.setIfInBounds_toArray, List.set_cons_zero, List.set_cons_succ, e2, e3, e4, e5, e6, e7]
      clear e2 e3 e4 e5 e6 e7
      have hBs := hB1
      replace hB1 := below_setRow hB1 n7 (Iv .u8 (keyOf 0))
      refine wpAnyZ_store_row 8 rfl (by kernel_rfl) rfl _ _ _ rfl g7r9 (Iv .u8 (keyOf 0)) rfl rfl _ _ A7 (info_key _ (keyOf_length _)) (by rw [Iv_size, Iv_size, keyOf_length]; rfl) (Iv_one _ _) (hS.below hB1) ?_
      try simp only [Act.put, List.setIfInBounds_toArray, List.set_cons_zero, List.set_cons_succ]
      replace A7 := A7.row (Iv .u8 (keyOf 0))
      refine wpAnyZ_one (i := 9) (by kernel_rfl) ?_
      unfold wpOp
      go_simp
      left
      refine wpAnyZ_done (by kernel_rfl) ?_ _
      have hS3 := hS.below hB1
      replace hB := hB.trans (hB1.mono hB.size)
      clear hS hS2 hB1 hBs
      have hS : Facts [.blk (g7r9) 23 (Iv .u8 (keyOf 0)), .long vp V, .blk (w.heap.size) 23 (Iv .u8 (keyOf NA))] _ := Facts.cons (f := .blk g7r9 23 (Iv .u8 (keyOf 0))) A7 (hS3)
      clear hS3
      try clear n7
      clear A7
      generalize hWn : World.setRow _ _ _ = Wn at *
      clear hWn
      go_upto_region 10 with fail
      refine wp_region_seq ?_
      refine wpSeq_yield (S := Facts [.blk (g7r9) 23 (Iv .u8 (keyOf 0)), .long vp V, .blk (w.heap.size) 23 (Iv .u8 (keyOf NA))]) (yieldsIf_move rfl _ rfl _ rfl) hS ?_
      simp only [Act.put, List.setIfInBounds_toArray, List.set_cons_zero, List.set_cons_succ]
      refine wpSeq_yield (S := Facts [.blk (g7r9) 23 (Iv .u8 (keyOf 0)), .long vp V, .blk (w.heap.size) 23 (Iv .u8 (keyOf NA))]) (yieldsIf_not rfl _ _ rfl false rfl) hS ?_
      simp only [Act.put, List.setIfInBounds_toArray, List.set_cons_zero, List.set_cons_succ]
      refine wpSeq_yield (S := Facts [.blk (g7r9) 23 (Iv .u8 (keyOf 0)), .long vp V, .blk (w.heap.size) 23 (Iv .u8 (keyOf NA))]) (yieldsIf_move rfl _ rfl _ rfl) hS ?_
      simp only [Act.put, List.setIfInBounds_toArray, List.set_cons_zero, List.set_cons_succ]
      refine wpSeq_yield (S := Facts [.blk (g7r9) 23 (Iv .u8 (keyOf 0)), .long vp V, .blk (w.heap.size) 23 (Iv .u8 (keyOf NA))]) (show YieldsIf _ _ _ _ (Key (keyOf 0)) _ from yieldsIf_load rfl 23 _ rfl (g7r9) rfl 23 _ _ (.head _) Try.underlying23 rfl (info_key _ (keyOf_length _))) hS ?_
      simp only [Act.put, List.setIfInBounds_toArray, List.set_cons_zero, List.set_cons_succ]
      refine wpSeq_yield (S := Facts [.blk (g7r9) 23 (Iv .u8 (keyOf 0)), .long vp V, .blk (w.heap.size) 23 (Iv .u8 (keyOf NA))]) (yieldsIf_key0 rfl rfl) hS ?_
      simp only [Act.put, List.setIfInBounds_toArray, List.set_cons_zero, List.set_cons_succ]
      refine wpSeq_yield (S := Facts [.blk (g7r9) 23 (Iv .u8 (keyOf 0)), .long vp V, .blk (w.heap.size) 23 (Iv .u8 (keyOf NA))]) (yieldsIf_eqlk rfl _ _ rfl 0 0 rfl rfl true (by decide) (by decide) (decide_eq_true rfl)) hS ?_
      simp only [Act.put, List.setIfInBounds_toArray, List.set_cons_zero, List.set_cons_succ]
      refine wpSeq_yield (S := Facts [.blk (g7r9) 23 (Iv .u8 (keyOf 0)), .long vp V, .blk (w.heap.size) 23 (Iv .u8 (keyOf NA))]) (yieldsIf_pick rfl _ _ _ rfl true rfl _ rfl) hS ?_
      simp only [Act.put, List.setIfInBounds_toArray, List.set_cons_zero, List.set_cons_succ]
      refine wpSeq_yield (S := Facts [.blk (g7r9) 23 (Iv .u8 (keyOf 0)), .long vp V, .blk (w.heap.size) 23 (Iv .u8 (keyOf NA))]) (yieldsIf_assign rfl _ rfl _ rfl) hS ?_
      simp only [Act.put, List.setIfInBounds_toArray, List.set_cons_zero, List.set_cons_succ]
      refine wpSeq_nil ?_
      go_wp2
      exact bodyPost_ret (results_tmp rfl _ _ _) rfl ⟨rfl, hB⟩
  · have t4 : (k : Int).tmod 4 = 1 := by rw [Int.tmod_eq_emod_of_nonneg (by omega)]; omega
    have t2 : (k : Int).tmod 2 = 1 := by rw [Int.tmod_eq_emod_of_nonneg (by omega)]; omega
    have e4 : (k : Int) % 4 = 1 := by omega
    have e2 : (k : Int) % 2 = 1 := by omega
    clear h
    go_wp2_with fail
    refine (num_v 1 (by decide) _).mono ?_
    rintro _ x1 ⟨vp, rfl, Hvp, b⟩
    replace hS := hS.below b
    replace hB := hB.trans (b.mono hB.size)
    clear b
    obtain ⟨V, kV, hz, Hvp⟩ : ∃ V, V < p256 ∧ ladN (clN NA) (plN V) = 0 ∧ LongIs x1 vp V := ⟨_, by decide, small1 NA, Hvp⟩
    have CS := Lib.hid (fun W => shared_n NA V 0 kV hz.symm false rfl W)
    clear hz
    go_upto_region 9 with fail
    clear t4 t2 e4 e2
    replace hS : Facts [.long vp V, .blk (w.heap.size) 23 (Iv .u8 (keyOf NA))] _ := Facts.cons (f := .long vp V) Hvp hS
    clear Hvp
    replace hS := hS.drew
    replace hB := below_drew hB
    refine wp_region_Z (S := Facts [.long vp V, .blk (w.heap.size) 23 (Iv .u8 (keyOf NA))]) 9 (by kernel_rfl) ?_
    refine wpAnyZ_takeL 0 rfl (by kernel_rfl) (by kernel_rfl) (by kernel_rfl) (by kernel_rfl) (by kernel_rfl) (fun _ _ _ h => h) (show YieldsIf _ _ _ _ (Key (keyOf NA)) _ from yieldsIf_load rfl 23 _ rfl (w.heap.size) rfl 23 _ _ (.tail _ (.head _)) Try.underlying23 rfl (info_key _ (keyOf_length _))) hS ?_
    simp only [Act.put, List.setIfInBounds_toArray, List.set_cons_zero, List.set_cons_succ]
    refine wpAnyZ_takeL 1 rfl (by kernel_rfl) (by kernel_rfl) (by kernel_rfl) (by kernel_rfl) (by kernel_rfl) (fun _ _ _ h => h) (yieldsIf_move rfl _ rfl _ rfl) hS ?_
    simp only [Act.put, List.setIfInBounds_toArray, List.set_cons_zero, List.set_cons_succ]
    refine wpAnyZ_jobsL [(⟨2, 27⟩, .is (Key (keyOf V))), (⟨3, 28⟩, .is (.tuple #[(Key (keyOf 0)), (.bool false)])), (⟨4, 24⟩, .is (.tuple #[(Key (keyOf 0)), (.bool false)])), (⟨5, 29⟩, .is (Key (keyOf 0))), (⟨6, 30⟩, .is (.bool false)), (⟨7, 6⟩, .rel (fun v w' => ∃ g, v = .pointer (some ⟨g, 0, none⟩) ∧ Blk w' g 23 (Iv .u8 (List.replicate 32 0))))] [6] 2 _ _ _ (by kernel_rfl) (fun _ _ _ _ _ h => h) ?_ (fun _ _ _ _ _ h => h) (fun _ _ h hb => h.below hb) hS ?_ ?_ ?_
    · intro j hj hl
      simp only [List.map_cons, List.map_nil, List.mem_cons, List.not_mem_nil, or_false] at hj
      rcases hj with rfl | rfl | rfl | rfl | rfl | rfl
      · exact absurd hl (by decide)
      · exact absurd hl (by decide)
      · exact absurd hl (by decide)
      · exact absurd hl (by decide)
      · refine ⟨_, rfl, yields_frame [⟨4, 24⟩] (by kernel_rfl) ?_, fun _ => rfl, (block_bool _)⟩
        show YieldsIf _ _ _ _ (.bool false) (Act.put _ (some 24) (.tuple #[(Key (keyOf 0)), (.bool false)]))
        simp only [Act.put, List.setIfInBounds_toArray, List.set_cons_zero, List.set_cons_succ]
        exact (show YieldsIf _ _ _ _ (.bool false) _ from yieldsIf_extract rfl _ _ rfl _ rfl _ rfl)
      · exact absurd hl (by decide)
    · intro j hj
      simp only [List.map_cons, List.map_nil, List.mem_cons, List.not_mem_nil, or_false] at hj
      rcases hj with rfl | rfl | rfl | rfl | rfl | rfl
      · exact fun _ _ _ h _ => h
      · exact fun _ _ _ h _ => h
      · exact fun _ _ _ h _ => h
      · exact fun _ _ _ h _ => h
      · exact fun _ _ _ h _ => h
      · intro v w1 w2 h hb
        obtain ⟨g, e, H⟩ : ∃ g, v = .pointer (some ⟨g, 0, none⟩) ∧ Blk w1 g 23 (Iv .u8 (List.replicate 32 0)) := h
        exact ⟨g, e, H.below' hb⟩
    · intro j hj
      simp only [List.map_cons, List.map_nil, List.mem_cons, List.not_mem_nil, or_false] at hj
      rcases hj with rfl | rfl | rfl | rfl | rfl | rfl
      · refine job_frame [] (by kernel_rfl) ?_
        show JobAt _ _ _ _ _ _ _
        simp only [putAll, List.foldr_nil]
        intro W K hS' hK
        unfold wpOp
        go_simp
        left
        refine (rkey_v _ V _ (hS'.longAt vp V (.head _))).mono ?_
        rintro e v ⟨rfl, b⟩
        exact hK _ _ rfl b (fun g hg => ((block_agg _) g hg).elim)
      · refine job_frame [⟨2, 27⟩] (by kernel_rfl) ?_
        show JobAt _ _ _ _ (Act.put _ (some 27) (Key (keyOf V))) _ _
        simp only [Act.put, List.setIfInBounds_toArray, List.set_cons_zero, List.set_cons_succ]
        intro W K hS' hK
        unfold wpOp
        go_simp
        left
        refine (CS.out _).mono ?_
        rintro e v ⟨rfl, b⟩
        exact hK _ _ rfl b (fun g hg => ((block_tuple _) g hg).elim)
      · refine job_frame [⟨3, 28⟩] (by kernel_rfl) ?_
        show JobAt _ _ _ _ (Act.put _ (some 28) (.tuple #[(Key (keyOf 0)), (.bool false)])) _ _
        simp only [Act.put, List.setIfInBounds_toArray, List.set_cons_zero, List.set_cons_succ]
        exact job_yield rfl rfl (.tuple #[(Key (keyOf 0)), (.bool false)]) (block_tuple _) (yieldsIf_move rfl _ rfl _ rfl)
      · refine job_frame [⟨4, 24⟩] (by kernel_rfl) ?_
        show JobAt _ _ _ _ (Act.put _ (some 24) (.tuple #[(Key (keyOf 0)), (.bool false)])) _ _
        simp only [Act.put, List.setIfInBounds_toArray, List.set_cons_zero, List.set_cons_succ]
        exact job_yield rfl rfl (Key (keyOf 0)) (block_agg _) (show YieldsIf _ _ _ _ (Key (keyOf 0)) _ from yieldsIf_extract rfl _ _ rfl _ rfl _ rfl)
      · refine job_frame [⟨4, 24⟩] (by kernel_rfl) ?_
        show JobAt _ _ _ _ (Act.put _ (some 24) (.tuple #[(Key (keyOf 0)), (.bool false)])) _ _
        simp only [Act.put, List.setIfInBounds_toArray, List.set_cons_zero, List.set_cons_succ]
        exact job_yield rfl rfl (.bool false) (block_bool _) (show YieldsIf _ _ _ _ (.bool false) _ from yieldsIf_extract rfl _ _ rfl _ rfl _ rfl)
      · refine job_frame [] (by kernel_rfl) ?_
        show JobAt _ _ _ _ _ _ _
        exact job_alloc 23 (Iv .u8 (List.replicate 32 0)) _ _ rfl rfl rfl (fun W => by go_simp; rfl)
    · intro f W hS2 hB1 hR hF hA
      have e2 : f 2 = (Key (keyOf V)) := hR ⟨2, 27⟩ (by simp)
      have e3 : f 3 = (.tuple #[(Key (keyOf 0)), (.bool false)]) := hR ⟨3, 28⟩ (by simp)
      have e4 : f 4 = (.tuple #[(Key (keyOf 0)), (.bool false)]) := hR ⟨4, 24⟩ (by simp)
      have e5 : f 5 = (Key (keyOf 0)) := hR ⟨5, 29⟩ (by simp)
      have e6 : f 6 = (.bool false) := hR ⟨6, 30⟩ (by simp)
      obtain ⟨g7r9, e7, A7⟩ : ∃ g, f 7 = .pointer (some ⟨g, 0, none⟩) ∧ Blk W g 23 (Iv .u8 (List.replicate 32 0)) := hR ⟨7, 6⟩ (by simp)
      have n7 : _ ≤ g7r9 := (hF ⟨7, 6⟩ (by simp) g7r9 (by show blockOf (f 7) = _; rw [e7]; rfl)).1
      have m7 : w.heap.size ≤ g7r9 := Nat.le_trans hB.size n7
      clear hA hF hR
      simp only [setAll, putAll, List.map_cons, List.map_nil, List.foldr_cons, List.foldr_nil, Act.put, List.setIfInBounds_toArray, List.set_cons_zero, List.set_cons_succ, e2, e3, e4, e5, e6, e7]
      clear e2 e3 e4 e5 e6 e7
      have hBs := hB1
      replace hB1 := below_setRow hB1 n7 (Iv .u8 (keyOf 0))
      refine wpAnyZ_store_row 8 rfl (by kernel_rfl) rfl _ _ _ rfl g7r9 (Iv .u8 (keyOf 0)) rfl rfl _ _ A7 (info_key _ (keyOf_length _)) (by rw [Iv_size, Iv_size, keyOf_length]; rfl) (Iv_one _ _) (hS.below hB1) ?_
      try simp only [Act.put, List.setIfInBounds_toArray, List.set_cons_zero, List.set_cons_succ]
      replace A7 := A7.row (Iv .u8 (keyOf 0))
      refine wpAnyZ_one (i := 9) (by kernel_rfl) ?_
      unfold wpOp
      go_simp
      left
      refine wpAnyZ_done (by kernel_rfl) ?_ _
      have hS3 := hS.below hB1
      replace hB := hB.trans (hB1.mono hB.size)
      clear hS hS2 hB1 hBs
      have hS : Facts [.blk (g7r9) 23 (Iv .u8 (keyOf 0)), .long vp V, .blk (w.heap.size) 23 (Iv .u8 (keyOf NA))] _ := Facts.cons (f := .blk g7r9 23 (Iv .u8 (keyOf 0))) A7 (hS3)
      clear hS3
      try clear n7
      clear A7
      generalize hWn : World.setRow _ _ _ = Wn at *
      clear hWn
      go_upto_region 10 with fail
      refine wp_region_seq ?_
      refine wpSeq_yield (S := Facts [.blk (g7r9) 23 (Iv .u8 (keyOf 0)), .long vp V, .blk (w.heap.size) 23 (Iv .u8 (keyOf NA))]) (yieldsIf_move rfl _ rfl _ rfl) hS ?_
      simp only [Act.put, List.setIfInBounds_toArray, List.set_cons_zero, List.set_cons_succ]
      refine wpSeq_yield (S := Facts [.blk (g7r9) 23 (Iv .u8 (keyOf 0)), .long vp V, .blk (w.heap.size) 23 (Iv .u8 (keyOf NA))]) (yieldsIf_not rfl _ _ rfl false rfl) hS ?_
      simp only [Act.put, List.setIfInBounds_toArray, List.set_cons_zero, List.set_cons_succ]
      refine wpSeq_yield (S := Facts [.blk (g7r9) 23 (Iv .u8 (keyOf 0)), .long vp V, .blk (w.heap.size) 23 (Iv .u8 (keyOf NA))]) (yieldsIf_move rfl _ rfl _ rfl) hS ?_
      simp only [Act.put, List.setIfInBounds_toArray, List.set_cons_zero, List.set_cons_succ]
      refine wpSeq_yield (S := Facts [.blk (g7r9) 23 (Iv .u8 (keyOf 0)), .long vp V, .blk (w.heap.size) 23 (Iv .u8 (keyOf NA))]) (show YieldsIf _ _ _ _ (Key (keyOf 0)) _ from yieldsIf_load rfl 23 _ rfl (g7r9) rfl 23 _ _ (.head _) Try.underlying23 rfl (info_key _ (keyOf_length _))) hS ?_
      simp only [Act.put, List.setIfInBounds_toArray, List.set_cons_zero, List.set_cons_succ]
      refine wpSeq_yield (S := Facts [.blk (g7r9) 23 (Iv .u8 (keyOf 0)), .long vp V, .blk (w.heap.size) 23 (Iv .u8 (keyOf NA))]) (yieldsIf_key0 rfl rfl) hS ?_
      simp only [Act.put, List.setIfInBounds_toArray, List.set_cons_zero, List.set_cons_succ]
      refine wpSeq_yield (S := Facts [.blk (g7r9) 23 (Iv .u8 (keyOf 0)), .long vp V, .blk (w.heap.size) 23 (Iv .u8 (keyOf NA))]) (yieldsIf_eqlk rfl _ _ rfl 0 0 rfl rfl true (by decide) (by decide) (decide_eq_true rfl)) hS ?_
      simp only [Act.put, List.setIfInBounds_toArray, List.set_cons_zero, List.set_cons_succ]
      refine wpSeq_yield (S := Facts [.blk (g7r9) 23 (Iv .u8 (keyOf 0)), .long vp V, .blk (w.heap.size) 23 (Iv .u8 (keyOf NA))]) (yieldsIf_pick rfl _ _ _ rfl true rfl _ rfl) hS ?_
      simp only [Act.put, List.setIfInBounds_toArray, List.set_cons_zero, List.set_cons_succ]
      refine wpSeq_yield (S := Facts [.blk (g7r9) 23 (Iv .u8 (keyOf 0)), .long vp V, .blk (w.heap.size) 23 (Iv .u8 (keyOf NA))]) (yieldsIf_assign rfl _ rfl _ rfl) hS ?_
      simp only [Act.put, List.setIfInBounds_toArray, List.set_cons_zero, List.set_cons_succ]
      refine wpSeq_nil ?_
      go_wp2
      exact bodyPost_ret (results_tmp rfl _ _ _) rfl ⟨rfl, hB⟩
  · have t4 : (k : Int).tmod 4 = 2 := by rw [Int.tmod_eq_emod_of_nonneg (by omega)]; omega
    have t2 : (k : Int).tmod 2 = 0 := by rw [Int.tmod_eq_emod_of_nonneg (by omega)]; omega
    have e4 : (k : Int) % 4 = 2 := by omega
    have e2 : (k : Int) % 2 = 0 := by omega
    clear h
    go_wp2_with fail
    refine (num_v 0 (by decide) _).mono ?_
    rintro _ x1 ⟨vp, rfl, Hvp, b⟩
    replace hS := hS.below b
    replace hB := hB.trans (b.mono hB.size)
    clear b
    clear Hvp
    go_wp2_with fail
    refine (p_v _).mono ?_
    rintro _ x2 ⟨v2, rfl, H2, b⟩
    replace hS := hS.below b
    replace hB := hB.trans (b.mono hB.size)
    clear b
    go_wp2_with fail
    refine (num_v 1 (by decide) _).mono ?_
    rintro _ x3 ⟨v3, rfl, H3, b⟩
    replace H2 := H2.below b
    replace hS := hS.below b
    replace hB := hB.trans (b.mono hB.size)
    clear b
    go_wp2_with fail
    refine (minus_v _ _ pp 1 (pp - 1) _ H2 H3 (by rw [pp_eq])).mono ?_
    rintro _ x4 ⟨v4, rfl, H4, b⟩
    replace hS := hS.below b
    replace hB := hB.trans (b.mono hB.size)
    clear b
    clear H2 H3
    obtain ⟨V, kV, hz, Hvp⟩ : ∃ V, V < p256 ∧ ladN (clN NA) (plN V) = 0 ∧ LongIs x4 v4 V := ⟨_, by rw [pp_eq]; decide, small2 NA, H4⟩
    clear H4
    generalize v4 = vp at *
    have CS := Lib.hid (fun W => shared_n NA V 0 kV hz.symm false rfl W)
    clear hz
    go_upto_region 9 with fail
    clear t4 t2 e4 e2
    replace hS : Facts [.long vp V, .blk (w.heap.size) 23 (Iv .u8 (keyOf NA))] _ := Facts.cons (f := .long vp V) Hvp hS
    clear Hvp
    replace hS := hS.drew
    replace hB := below_drew hB
    refine wp_region_Z (S := Facts [.long vp V, .blk (w.heap.size) 23 (Iv .u8 (keyOf NA))]) 9 (by kernel_rfl) ?_
    refine wpAnyZ_takeL 0 rfl (by kernel_rfl) (by kernel_rfl) (by kernel_rfl) (by kernel_rfl) (by kernel_rfl) (fun _ _ _ h => h) (show YieldsIf _ _ _ _ (Key (keyOf NA)) _ from yieldsIf_load rfl 23 _ rfl (w.heap.size) rfl 23 _ _ (.tail _ (.head _)) Try.underlying23 rfl (info_key _ (keyOf_length _))) hS ?_
    simp only [Act.put, List.setIfInBounds_toArray, List.set_cons_zero, List.set_cons_succ]
    refine wpAnyZ_takeL 1 rfl (by kernel_rfl) (by kernel_rfl) (by kernel_rfl) (by kernel_rfl) (by kernel_rfl) (fun _ _ _ h => h) (yieldsIf_move rfl _ rfl _ rfl) hS ?_
    simp only [Act.put, List.setIfInBounds_toArray, List.set_cons_zero, List.set_cons_succ]
    refine wpAnyZ_jobsL [(⟨2, 27⟩, .is (Key (keyOf V))), (⟨3, 28⟩, .is (.tuple #[(Key (keyOf 0)), (.bool false)])), (⟨4, 24⟩, .is (.tuple #[(Key (keyOf 0)), (.bool false)])), (⟨5, 29⟩, .is (Key (keyOf 0))), (⟨6, 30⟩, .is (.bool false)), (⟨7, 6⟩, .rel (fun v w' => ∃ g, v = .pointer (some ⟨g, 0, none⟩) ∧ Blk w' g 23 (Iv .u8 (List.replicate 32 0))))] [6] 2 _ _ _ (by kernel_rfl) (fun _ _ _ _ _ h => h) ?_ (fun _ _ _ _ _ h => h) (fun _ _ h hb => h.below hb) hS ?_ ?_ ?_
    · intro j hj hl
      simp only [List.map_cons, List.map_nil, List.mem_cons, List.not_mem_nil, or_false] at hj
      rcases hj with rfl | rfl | rfl | rfl | rfl | rfl
      · exact absurd hl (by decide)
      · exact absurd hl (by decide)
      · exact absurd hl (by decide)
      · exact absurd hl (by decide)
      · refine ⟨_, rfl, yields_frame [⟨4, 24⟩] (by kernel_rfl) ?_, fun _ => rfl, (block_bool _)⟩
        show YieldsIf _ _ _ _ (.bool false) (Act.put _ (some 24) (.tuple #[(Key (keyOf 0)), (.bool false)]))
        simp only [Act.put, List.setIfInBounds_toArray, List.set_cons_zero, List.set_cons_succ]
        exact (show YieldsIf _ _ _ _ (.bool false) _ from yieldsIf_extract rfl _ _ rfl _ rfl _ rfl)
      · exact absurd hl (by decide)
    · intro j hj
      simp only [List.map_cons, List.map_nil, List.mem_cons, List.not_mem_nil, or_false] at hj
      rcases hj with rfl | rfl | rfl | rfl | rfl | rfl
      · exact fun _ _ _ h _ => h
      · exact fun _ _ _ h _ => h
      · exact fun _ _ _ h _ => h
      · exact fun _ _ _ h _ => h
      · exact fun _ _ _ h _ => h
      · intro v w1 w2 h hb
        obtain ⟨g, e, H⟩ : ∃ g, v = .pointer (some ⟨g, 0, none⟩) ∧ Blk w1 g 23 (Iv .u8 (List.replicate 32 0)) := h
        exact ⟨g, e, H.below' hb⟩
    · intro j hj
      simp only [List.map_cons, List.map_nil, List.mem_cons, List.not_mem_nil, or_false] at hj
      rcases hj with rfl | rfl | rfl | rfl | rfl | rfl
      · refine job_frame [] (by kernel_rfl) ?_
        show JobAt _ _ _ _ _ _ _
        simp only [putAll, List.foldr_nil]
        intro W K hS' hK
        unfold wpOp
        go_simp
        left
        refine (rkey_v _ V _ (hS'.longAt vp V (.head _))).mono ?_
        rintro e v ⟨rfl, b⟩
        exact hK _ _ rfl b (fun g hg => ((block_agg _) g hg).elim)
      · refine job_frame [⟨2, 27⟩] (by kernel_rfl) ?_
        show JobAt _ _ _ _ (Act.put _ (some 27) (Key (keyOf V))) _ _
        simp only [Act.put, List.setIfInBounds_toArray, List.set_cons_zero, List.set_cons_succ]
        intro W K hS' hK
        unfold wpOp
        go_simp
        left
        refine (CS.out _).mono ?_
        rintro e v ⟨rfl, b⟩
        exact hK _ _ rfl b (fun g hg => ((block_tuple _) g hg).elim)
      · refine job_frame [⟨3, 28⟩] (by kernel_rfl) ?_
        show JobAt _ _ _ _ (Act.put _ (some 28) (.tuple #[(Key (keyOf 0)), (.bool false)])) _ _
        simp only [Act.put, List.setIfInBounds_toArray, List.set_cons_zero, List.set_cons_succ]
        exact job_yield rfl rfl (.tuple #[(Key (keyOf 0)), (.bool false)]) (block_tuple _) (yieldsIf_move rfl _ rfl _ rfl)
      · refine job_frame [⟨4, 24⟩] (by kernel_rfl) ?_
        show JobAt _ _ _ _ (Act.put _ (some 24) (.tuple #[(Key (keyOf 0)), (.bool false)])) _ _
        simp only [Act.put, List.setIfInBounds_toArray, List.set_cons_zero, List.set_cons_succ]
        exact job_yield rfl rfl (Key (keyOf 0)) (block_agg _) (show YieldsIf _ _ _ _ (Key (keyOf 0)) _ from yieldsIf_extract rfl _ _ rfl _ rfl _ rfl)
      · refine job_frame [⟨4, 24⟩] (by kernel_rfl) ?_
        show JobAt _ _ _ _ (Act.put _ (some 24) (.tuple #[(Key (keyOf 0)), (.bool false)])) _ _
        simp only [Act.put, List.setIfInBounds_toArray, List.set_cons_zero, List.set_cons_succ]
        exact job_yield rfl rfl (.bool false) (block_bool _) (show YieldsIf _ _ _ _ (.bool false) _ from yieldsIf_extract rfl _ _ rfl _ rfl _ rfl)
      · refine job_frame [] (by kernel_rfl) ?_
        show JobAt _ _ _ _ _ _ _
        exact job_alloc 23 (Iv .u8 (List.replicate 32 0)) _ _ rfl rfl rfl (fun W => by go_simp; rfl)
    · intro f W hS2 hB1 hR hF hA
      have e2 : f 2 = (Key (keyOf V)) := hR ⟨2, 27⟩ (by simp)
      have e3 : f 3 = (.tuple #[(Key (keyOf 0)), (.bool false)]) := hR ⟨3, 28⟩ (by simp)
      have e4 : f 4 = (.tuple #[(Key (keyOf 0)), (.bool false)]) := hR ⟨4, 24⟩ (by simp)
      have e5 : f 5 = (Key (keyOf 0)) := hR ⟨5, 29⟩ (by simp)
      have e6 : f 6 = (.bool false) := hR ⟨6, 30⟩ (by simp)
      obtain ⟨g7r9, e7, A7⟩ : ∃ g, f 7 = .pointer (some ⟨g, 0, none⟩) ∧ Blk W g 23 (Iv .u8 (List.replicate 32 0)) := hR ⟨7, 6⟩ (by simp)
      have n7 : _ ≤ g7r9 := (hF ⟨7, 6⟩ (by simp) g7r9 (by show blockOf (f 7) = _; rw [e7]; rfl)).1
      have m7 : w.heap.size ≤ g7r9 := Nat.le_trans hB.size n7
      clear hA hF hR
      simp only [setAll, putAll, List.map_cons, List.map_nil, List.foldr_cons, List.foldr_nil, Act.put, List.setIfInBounds_toArray, List.set_cons_zero, List.set_cons_succ, e2, e3, e4, e5, e6, e7]
      clear e2 e3 e4 e5 e6 e7
      have hBs := hB1
      replace hB1 := below_setRow hB1 n7 (Iv .u8 (keyOf 0))
      refine wpAnyZ_store_row 8 rfl (by kernel_rfl) rfl _ _ _ rfl g7r9 (Iv .u8 (keyOf 0)) rfl rfl _ _ A7 (info_key _ (keyOf_length _)) (by rw [Iv_size, Iv_size, keyOf_length]; rfl) (Iv_one _ _) (hS.below hB1) ?_
      try simp only [Act.put, List.setIfInBounds_toArray, List.set_cons_zero, List.set_cons_succ]
      replace A7 := A7.row (Iv .u8 (keyOf 0))
      refine wpAnyZ_one (i := 9) (by kernel_rfl) ?_
      unfold wpOp
      go_simp
      left
      refine wpAnyZ_done (by kernel_rfl) ?_ _
      have hS3 := hS.below hB1
      replace hB := hB.trans (hB1.mono hB.size)
      clear hS hS2 hB1 hBs
      have hS : Facts [.blk (g7r9) 23 (Iv .u8 (keyOf 0)), .long vp V, .blk (w.heap.size) 23 (Iv .u8 (keyOf NA))] _ := Facts.cons (f := .blk g7r9 23 (Iv .u8 (keyOf 0))) A7 (hS3)
      clear hS3
      try clear n7
      clear A7
      generalize hWn : World.setRow _ _ _ = Wn at *
      clear hWn
      go_upto_region 10 with fail
      refine wp_region_seq ?_
      refine wpSeq_yield (S := Facts [.blk (g7r9) 23 (Iv .u8 (keyOf 0)), .long vp V, .blk (w.heap.size) 23 (Iv .u8 (keyOf NA))]) (yieldsIf_move rfl _ rfl _ rfl) hS ?_
      simp only [Act.put, List.setIfInBounds_toArray, List.set_cons_zero, List.set_cons_succ]
      refine wpSeq_yield (S := Facts [.blk (g7r9) 23 (Iv .u8 (keyOf 0)), .long vp V, .blk (w.heap.size) 23 (Iv .u8 (keyOf NA))]) (yieldsIf_not rfl _ _ rfl false rfl) hS ?_
      simp only [Act.put, List.setIfInBounds_toArray, List.set_cons_zero, List.set_cons_succ]
      refine wpSeq_yield (S := Facts [.blk (g7r9) 23 (Iv .u8 (keyOf 0)), .long vp V, .blk (w.heap.size) 23 (Iv .u8 (keyOf NA))]) (yieldsIf_move rfl _ rfl _ rfl) hS ?_
      simp only [Act.put, List.setIfInBounds_toArray, List.set_cons_zero, List.set_cons_succ]
      refine wpSeq_yield (S := Facts [.blk (g7r9) 23 (Iv .u8 (keyOf 0)), .long vp V, .blk (w.heap.size) 23 (Iv .u8 (keyOf NA))]) (show YieldsIf _ _ _ _ (Key (keyOf 0)) _ from yieldsIf_load rfl 23 _ rfl (g7r9) rfl 23 _ _ (.head _) Try.underlying23 rfl (info_key _ (keyOf_length _))) hS ?_
      simp only [Act.put, List.setIfInBounds_toArray, List.set_cons_zero, List.set_cons_succ]
      refine wpSeq_yield (S := Facts [.blk (g7r9) 23 (Iv .u8 (keyOf 0)), .long vp V, .blk (w.heap.size) 23 (Iv .u8 (keyOf NA))]) (yieldsIf_key0 rfl rfl) hS ?_
      simp only [Act.put, List.setIfInBounds_toArray, List.set_cons_zero, List.set_cons_succ]
      refine wpSeq_yield (S := Facts [.blk (g7r9) 23 (Iv .u8 (keyOf 0)), .long vp V, .blk (w.heap.size) 23 (Iv .u8 (keyOf NA))]) (yieldsIf_eqlk rfl _ _ rfl 0 0 rfl rfl true (by decide) (by decide) (decide_eq_true rfl)) hS ?_
      simp only [Act.put, List.setIfInBounds_toArray, List.set_cons_zero, List.set_cons_succ]
      refine wpSeq_yield (S := Facts [.blk (g7r9) 23 (Iv .u8 (keyOf 0)), .long vp V, .blk (w.heap.size) 23 (Iv .u8 (keyOf NA))]) (yieldsIf_pick rfl _ _ _ rfl true rfl _ rfl) hS ?_
      simp only [Act.put, List.setIfInBounds_toArray, List.set_cons_zero, List.set_cons_succ]
      refine wpSeq_yield (S := Facts [.blk (g7r9) 23 (Iv .u8 (keyOf 0)), .long vp V, .blk (w.heap.size) 23 (Iv .u8 (keyOf NA))]) (yieldsIf_assign rfl _ rfl _ rfl) hS ?_
      simp only [Act.put, List.setIfInBounds_toArray, List.set_cons_zero, List.set_cons_succ]
      refine wpSeq_nil ?_
      go_wp2
      exact bodyPost_ret (results_tmp rfl _ _ _) rfl ⟨rfl, hB⟩
  · have t4 : (k : Int).tmod 4 = 3 := by rw [Int.tmod_eq_emod_of_nonneg (by omega)]; omega
    have t2 : (k : Int).tmod 2 = 1 := by rw [Int.tmod_eq_emod_of_nonneg (by omega)]; omega
    have e4 : (k : Int) % 4 = 3 := by omega
    have e2 : (k : Int) % 2 = 1 := by omega
    clear h
    go_wp2_with fail
    refine (num_v 1 (by decide) _).mono ?_
    rintro _ x1 ⟨vp, rfl, Hvp, b⟩
    replace hS := hS.below b
    replace hB := hB.trans (b.mono hB.size)
    clear b
    clear Hvp
    go_wp2_with fail
    refine (p_v _).mono ?_
    rintro _ x2 ⟨v2, rfl, H2, b⟩
    replace hS := hS.below b
    replace hB := hB.trans (b.mono hB.size)
    clear b
    obtain ⟨V, kV, hz, Hvp⟩ : ∃ V, V < p256 ∧ ladN (clN NA) (plN V) = 0 ∧ LongIs x2 v2 V := ⟨_, pp_lt256, small3 NA, H2⟩
    clear H2
    generalize v2 = vp at *
    have CS := Lib.hid (fun W => shared_n NA V 0 kV hz.symm false rfl W)
    clear hz
    go_upto_region 9 with fail
    clear t4 t2 e4 e2
    replace hS : Facts [.long vp V, .blk (w.heap.size) 23 (Iv .u8 (keyOf NA))] _ := Facts.cons (f := .long vp V) Hvp hS
    clear Hvp
    replace hS := hS.drew
    replace hB := below_drew hB
    refine wp_region_Z (S := Facts [.long vp V, .blk (w.heap.size) 23 (Iv .u8 (keyOf NA))]) 9 (by kernel_rfl) ?_
    refine wpAnyZ_takeL 0 rfl (by kernel_rfl) (by kernel_rfl) (by kernel_rfl) (by kernel_rfl) (by kernel_rfl) (fun _ _ _ h => h) (show YieldsIf _ _ _ _ (Key (keyOf NA)) _ from yieldsIf_load rfl 23 _ rfl (w.heap.size) rfl 23 _ _ (.tail _ (.head _)) Try.underlying23 rfl (info_key _ (keyOf_length _))) hS ?_
    simp only [Act.put, List.setIfInBounds_toArray, List.set_cons_zero, List.set_cons_succ]
    refine wpAnyZ_takeL 1 rfl (by kernel_rfl) (by kernel_rfl) (by kernel_rfl) (by kernel_rfl) (by kernel_rfl) (fun _ _ _ h => h) (yieldsIf_move rfl _ rfl _ rfl) hS ?_
    simp only [Act.put, List.setIfInBounds_toArray, List.set_cons_zero, List.set_cons_succ]
    refine wpAnyZ_jobsL [(⟨2, 27⟩, .is (Key (keyOf V))), (⟨3, 28⟩, .is (.tuple #[(Key (keyOf 0)), (.bool false)])), (⟨4, 24⟩, .is (.tuple #[(Key (keyOf 0)), (.bool false)])), (⟨5, 29⟩, .is (Key (keyOf 0))), (⟨6, 30⟩, .is (.bool false)), (⟨7, 6⟩, .rel (fun v w' => ∃ g, v = .pointer (some ⟨g, 0, none⟩) ∧ Blk w' g 23 (Iv .u8 (List.replicate 32 0))))] [6] 2 _ _ _ (by kernel_rfl) (fun _ _ _ _ _ h => h) ?_ (fun _ _ _ _ _ h => h) (fun _ _ h hb => h.below hb) hS ?_ ?_ ?_
    · intro j hj hl
      simp only [List.map_cons, List.map_nil, List.mem_cons, List.not_mem_nil, or_false] at hj
      rcases hj with rfl | rfl | rfl | rfl | rfl | rfl
      · exact absurd hl (by decide)
      · exact absurd hl (by decide)
      · exact absurd hl (by decide)
      · exact absurd hl (by decide)
      · refine ⟨_, rfl, yields_frame [⟨4, 24⟩] (by kernel_rfl) ?_, fun _ => rfl, (block_bool _)⟩
        show YieldsIf _ _ _ _ (.bool false) (Act.put _ (some 24) (.tuple #[(Key (keyOf 0)), (.bool false)]))
        simp only [Act.put, List.setIfInBounds_toArray, List.set_cons_zero, List.set_cons_succ]
        exact (show YieldsIf _ _ _ _ (.bool false) _ from yieldsIf_extract rfl _ _ rfl _ rfl _ rfl)
      · exact absurd hl (by decide)
    · intro j hj
      simp only [List.map_cons, List.map_nil, List.mem_cons, List.not_mem_nil, or_false] at hj
      rcases hj with rfl | rfl | rfl | rfl | rfl | rfl
      · exact fun _ _ _ h _ => h
      · exact fun _ _ _ h _ => h
      · exact fun _ _ _ h _ => h
      · exact fun _ _ _ h _ => h
      · exact fun _ _ _ h _ => h
      · intro v w1 w2 h hb
        obtain ⟨g, e, H⟩ : ∃ g, v = .pointer (some ⟨g, 0, none⟩) ∧ Blk w1 g 23 (Iv .u8 (List.replicate 32 0)) := h
        exact ⟨g, e, H.below' hb⟩
    · intro j hj
      simp only [List.map_cons, List.map_nil, List.mem_cons, List.not_mem_nil, or_false] at hj
      rcases hj with rfl | rfl | rfl | rfl | rfl | rfl
      · refine job_frame [] (by kernel_rfl) ?_
        show JobAt _ _ _ _ _ _ _
        simp only [putAll, List.foldr_nil]
        intro W K hS' hK
        unfold wpOp
        go_simp
        left
        refine (rkey_v _ V _ (hS'.longAt vp V (.head _))).mono ?_
        rintro e v ⟨rfl, b⟩
        exact hK _ _ rfl b (fun g hg => ((block_agg _) g hg).elim)
      · refine job_frame [⟨2, 27⟩] (by kernel_rfl) ?_
        show JobAt _ _ _ _ (Act.put _ (some 27) (Key (keyOf V))) _ _
        simp only [Act.put, List.setIfInBounds_toArray, List.set_cons_zero, List.set_cons_succ]
        intro W K hS' hK
        unfold wpOp
        go_simp
        left
        refine (CS.out _).mono ?_
        rintro e v ⟨rfl, b⟩
        exact hK _ _ rfl b (fun g hg => ((block_tuple _) g hg).elim)
      · refine job_frame [⟨3, 28⟩] (by kernel_rfl) ?_
        show JobAt _ _ _ _ (Act.put _ (some 28) (.tuple #[(Key (keyOf 0)), (.bool false)])) _ _
        simp only [Act.put, List.setIfInBounds_toArray, List.set_cons_zero, List.set_cons_succ]
        exact job_yield rfl rfl (.tuple #[(Key (keyOf 0)), (.bool false)]) (block_tuple _) (yieldsIf_move rfl _ rfl _ rfl)
      · refine job_frame [⟨4, 24⟩] (by kernel_rfl) ?_
        show JobAt _ _ _ _ (Act.put _ (some 24) (.tuple #[(Key (keyOf 0)), (.bool false)])) _ _
        simp only [Act.put, List.setIfInBounds_toArray, List.set_cons_zero, List.set_cons_succ]
        exact job_yield rfl rfl (Key (keyOf 0)) (block_agg _) (show YieldsIf _ _ _ _ (Key (keyOf 0)) _ from yieldsIf_extract rfl _ _ rfl _ rfl _ rfl)
      · refine job_frame [⟨4, 24⟩] (by kernel_rfl) ?_
        show JobAt _ _ _ _ (Act.put _ (some 24) (.tuple #[(Key (keyOf 0)), (.bool false)])) _ _
        simp only [Act.put, List.setIfInBounds_toArray, List.set_cons_zero, List.set_cons_succ]
        exact job_yield rfl rfl (.bool false) (block_bool _) (show YieldsIf _ _ _ _ (.bool false) _ from yieldsIf_extract rfl _ _ rfl _ rfl _ rfl)
      · refine job_frame [] (by kernel_rfl) ?_
        show JobAt _ _ _ _ _ _ _
        exact job_alloc 23 (Iv .u8 (List.replicate 32 0)) _ _ rfl rfl rfl (fun W => by go_simp; rfl)
    · intro f W hS2 hB1 hR hF hA
      have e2 : f 2 = (Key (keyOf V)) := hR ⟨2, 27⟩ (by simp)
      have e3 : f 3 = (.tuple #[(Key (keyOf 0)), (.bool false)]) := hR ⟨3, 28⟩ (by simp)
      have e4 : f 4 = (.tuple #[(Key (keyOf 0)), (.bool false)]) := hR ⟨4, 24⟩ (by simp)
      have e5 : f 5 = (Key (keyOf 0)) := hR ⟨5, 29⟩ (by simp)
      have e6 : f 6 = (.bool false) := hR ⟨6, 30⟩ (by simp)
      obtain ⟨g7r9, e7, A7⟩ : ∃ g, f 7 = .pointer (some ⟨g, 0, none⟩) ∧ Blk W g 23 (Iv .u8 (List.replicate 32 0)) := hR ⟨7, 6⟩ (by simp)
      have n7 : _ ≤ g7r9 := (hF ⟨7, 6⟩ (by simp) g7r9 (by show blockOf (f 7) = _; rw [e7]; rfl)).1
      have m7 : w.heap.size ≤ g7r9 := Nat.le_trans hB.size n7
      clear hA hF hR
      simp only [setAll, putAll, List.map_cons, List.map_nil, List.foldr_cons, List.foldr_nil, Act.put, List.setIfInBounds_toArray, List.set_cons_zero, List.set_cons_succ, e2, e3, e4, e5, e6, e7]
      clear e2 e3 e4 e5 e6 e7
      have hBs := hB1
      replace hB1 := below_setRow hB1 n7 (Iv .u8 (keyOf 0))
      refine wpAnyZ_store_row 8 rfl (by kernel_rfl) rfl _ _ _ rfl g7r9 (Iv .u8 (keyOf 0)) rfl rfl _ _ A7 (info_key _ (keyOf_length _)) (by rw [Iv_size, Iv_size, keyOf_length]; rfl) (Iv_one _ _) (hS.below hB1) ?_
      try simp only [Act.put, List.setIfInBounds_toArray, List.set_cons_zero, List.set_cons_succ]
      replace A7 := A7.row (Iv .u8 (keyOf 0))
      refine wpAnyZ_one (i := 9) (by kernel_rfl) ?_
      unfold wpOp
      go_simp
      left
      refine wpAnyZ_done (by kernel_rfl) ?_ _
      have hS3 := hS.below hB1
      replace hB := hB.trans (hB1.mono hB.size)
      clear hS hS2 hB1 hBs
      have hS : Facts [.blk (g7r9) 23 (Iv .u8 (keyOf 0)), .long vp V, .blk (w.heap.size) 23 (Iv .u8 (keyOf NA))] _ := Facts.cons (f := .blk g7r9 23 (Iv .u8 (keyOf 0))) A7 (hS3)
      clear hS3
      try clear n7
      clear A7
      generalize hWn : World.setRow _ _ _ = Wn at *
      clear hWn
      go_upto_region 10 with fail
      refine wp_region_seq ?_
      refine wpSeq_yield (S := Facts [.blk (g7r9) 23 (Iv .u8 (keyOf 0)), .long vp V, .blk (w.heap.size) 23 (Iv .u8 (keyOf NA))]) (yieldsIf_move rfl _ rfl _ rfl) hS ?_
      simp only [Act.put, List.setIfInBounds_toArray, List.set_cons_zero, List.set_cons_succ]
      refine wpSeq_yield (S := Facts [.blk (g7r9) 23 (Iv .u8 (keyOf 0)), .long vp V, .blk (w.heap.size) 23 (Iv .u8 (keyOf NA))]) (yieldsIf_not rfl _ _ rfl false rfl) hS ?_
      simp only [Act.put, List.setIfInBounds_toArray, List.set_cons_zero, List.set_cons_succ]
      refine wpSeq_yield (S := Facts [.blk (g7r9) 23 (Iv .u8 (keyOf 0)), .long vp V, .blk (w.heap.size) 23 (Iv .u8 (keyOf NA))]) (yieldsIf_move rfl _ rfl _ rfl) hS ?_
      simp only [Act.put, List.setIfInBounds_toArray, List.set_cons_zero, List.set_cons_succ]
      refine wpSeq_yield (S := Facts [.blk (g7r9) 23 (Iv .u8 (keyOf 0)), .long vp V, .blk (w.heap.size) 23 (Iv .u8 (keyOf NA))]) (show YieldsIf _ _ _ _ (Key (keyOf 0)) _ from yieldsIf_load rfl 23 _ rfl (g7r9) rfl 23 _ _ (.head _) Try.underlying23 rfl (info_key _ (keyOf_length _))) hS ?_
      simp only [Act.put, List.setIfInBounds_toArray, List.set_cons_zero, List.set_cons_succ]
      refine wpSeq_yield (S := Facts [.blk (g7r9) 23 (Iv .u8 (keyOf 0)), .long vp V, .blk (w.heap.size) 23 (Iv .u8 (keyOf NA))]) (yieldsIf_key0 rfl rfl) hS ?_
      simp only [Act.put, List.setIfInBounds_toArray, List.set_cons_zero, List.set_cons_succ]
      refine wpSeq_yield (S := Facts [.blk (g7r9) 23 (Iv .u8 (keyOf 0)), .long vp V, .blk (w.heap.size) 23 (Iv .u8 (keyOf NA))]) (yieldsIf_eqlk rfl _ _ rfl 0 0 rfl rfl true (by decide) (by decide) (decide_eq_true rfl)) hS ?_
      simp only [Act.put, List.setIfInBounds_toArray, List.set_cons_zero, List.set_cons_succ]
      refine wpSeq_yield (S := Facts [.blk (g7r9) 23 (Iv .u8 (keyOf 0)), .long vp V, .blk (w.heap.size) 23 (Iv .u8 (keyOf NA))]) (yieldsIf_pick rfl _ _ _ rfl true rfl _ rfl) hS ?_
      simp only [Act.put, List.setIfInBounds_toArray, List.set_cons_zero, List.set_cons_succ]
      refine wpSeq_yield (S := Facts [.blk (g7r9) 23 (Iv .u8 (keyOf 0)), .long vp V, .blk (w.heap.size) 23 (Iv .u8 (keyOf NA))]) (yieldsIf_assign rfl _ rfl _ rfl) hS ?_
      simp only [Act.put, List.setIfInBounds_toArray, List.set_cons_zero, List.set_cons_succ]
      refine wpSeq_nil ?_
      go_wp2
      exact bodyPost_ret (results_tmp rfl _ _ _) rfl ⟨rfl, hB⟩
theorem small_k (l0 : List Int) (f0 : Nat → Nat) (hl0 : Bytes32 l0 f0) (k : Nat) (hk : k < 256) (w : World) :
    Calls Try.prog 6 #[Key l0, .int .u8 (k : Int)] w fun e w' => e = .returned (.bool true) ∧ Below w.heap.size w w' := by
  rw [key_of_bytes hl0]
  exact small_n _ k hk w
end Go.Proofs.Ytgdhlafggdaipaa
