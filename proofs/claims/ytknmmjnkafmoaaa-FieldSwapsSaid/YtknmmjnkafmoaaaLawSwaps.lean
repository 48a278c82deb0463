/- The law FieldSwaps: both, or changed for one another. -/
import Derived.Test.YtknmmjnkafmoaaaLl
namespace Go.Proofs.Ytknmmjnkafmoaaa
open Go.RowKit

set_option maxHeartbeats 4000000 in
set_option maxRecDepth 100000 in
theorem swaps_odd (n0 : Nat) (hn0 : n0 < 18446744073709551616) (hq : n0 % 2 = 1) (l0 l1 : List Int) (f0 f1 : Nat → Nat) (hl0 : Bytes32 l0 f0) (hl1 : Bytes32 l1 f1) (w : World) :
    Calls Try.prog 10 #[.int .u64 (n0 : Int), Key l0, Key l1] w fun e w' => e = .returned (.bool true) ∧ Below w.heap.size w w' := by
  obtain ⟨E0, hE0⟩ : ∃ r, r = leTo f0 32 % 57896044618658097711785492504343953926634992332820282019728792003956564819968 % pp := ⟨_, rfl⟩
  have lE0 : E0 < pp := hE0 ▸ Nat.mod_lt _ pp_pos
  have HE0 := Lib.hid hE0
  clear hE0
  obtain ⟨E1, hE1⟩ : ∃ r, r = leTo f1 32 % 57896044618658097711785492504343953926634992332820282019728792003956564819968 % pp := ⟨_, rfl⟩
  have lE1 : E1 < pp := hE1 ▸ Nat.mod_lt _ pp_pos
  have HE1 := Lib.hid hE1
  clear hE1
  obtain ⟨E2, hE2⟩ : ∃ r, r = swapped n0 E0 E1 := ⟨_, rfl⟩
  have lE2 : E2 < pp := hE2 ▸ swapped_lt _ _ _ lE0 lE1
  have HE2 := Lib.hid hE2
  clear hE2
  obtain ⟨E3, hE3⟩ : ∃ r, r = swapped n0 E1 E0 := ⟨_, rfl⟩
  have lE3 : E3 < pp := hE3 ▸ swapped_lt _ _ _ lE1 lE0
  have HE3 := Lib.hid hE3
  clear hE3
  have hq1 : ((n0 : Int)).tmod 2 = 1 := by rw [Int.tmod_eq_emod_of_nonneg (by omega)]; omega
  unfold Key
  go_enter Try.func10, Try.ntmps10
  go_wp2_with fail
  refine (awake_any _).mono ?_
  rintro e w1 ⟨rfl, b⟩
  have hS : Facts [.blk (w.heap.size) 23 (Iv .u8 l0), .blk (w.heap.size + 1) 23 (Iv .u8 l1)] w1 := Facts.below (Facts.cons ((Blk.new w _ _).alloc _) (Facts.cons (Blk.new' (by simp) _ _) Facts.nil)) b
  have hB : Below w.heap.size w w1 := (((Below.refl w.heap.size w).alloc (Nat.le_refl _) _).alloc (by simp) _).trans (b.mono (by simp; omega))
  clear b
  go_upto_region 3 with fail
  replace hS := hS.drew
  replace hB := below_drew hB
  refine wp_region_Z (S := Facts [.blk (w.heap.size) 23 (Iv .u8 l0), .blk (w.heap.size + 1) 23 (Iv .u8 l1)]) 12 (by kernel_rfl) ?_
  refine wpAnyZ_takeL 0 rfl (by kernel_rfl) (by kernel_rfl) (by kernel_rfl) (by kernel_rfl) (by kernel_rfl) (fun _ _ _ h => h) (yieldsIf_move rfl _ rfl _ rfl) hS ?_
  simp only [Act.put, List.setIfInBounds_toArray, List.set_cons_zero, List.set_cons_succ]
  refine wpAnyZ_takeL 1 rfl (by kernel_rfl) (by kernel_rfl) (by kernel_rfl) (by kernel_rfl) (by kernel_rfl) (fun _ _ _ h => h) (show YieldsIf _ _ _ _ (Key l0) _ from yieldsIf_load rfl 23 _ rfl (w.heap.size) rfl 23 _ _ (.head _) Try.underlying23 rfl (info_key _ hl0.len)) hS ?_
  simp only [Act.put, List.setIfInBounds_toArray, List.set_cons_zero, List.set_cons_succ]
  refine wpAnyZ_takeL 3 rfl (by kernel_rfl) (by kernel_rfl) (by kernel_rfl) (by kernel_rfl) (by kernel_rfl) (fun _ _ _ h => h) (show YieldsIf _ _ _ _ (Key l1) _ from yieldsIf_load rfl 23 _ rfl (w.heap.size + 1) rfl 23 _ _ (.tail _ (.head _)) Try.underlying23 rfl (info_key _ hl1.len)) hS ?_
  simp only [Act.put, List.setIfInBounds_toArray, List.set_cons_zero, List.set_cons_succ]
  refine wpAnyZ_jobsL [(⟨2, 14⟩, .is (El E0)), (⟨4, 16⟩, .is (El E1)), (⟨5, 17⟩, .is (.tuple #[(El E2), (El E3)])), (⟨6, 11⟩, .is (.tuple #[(El E2), (El E3)])), (⟨7, 18⟩, .is (El E2)), (⟨8, 19⟩, .is (El E3)), (⟨9, 7⟩, .rel (fun v w' => ∃ g, v = .pointer (some ⟨g, 0, none⟩) ∧ Blk w' g 29 (El_cells 0))), (⟨10, 8⟩, .rel (fun v w' => ∃ g, v = .pointer (some ⟨g, 0, none⟩) ∧ Blk w' g 29 (El_cells 0)))] [8] 2 _ _ _ (by kernel_rfl) (fun _ _ _ _ _ h => h) ?_ (fun _ _ _ _ _ h => h) (fun _ _ h hb => h.below hb) hS ?_ ?_ ?_
  · intro j hj hl
    simp only [List.map_cons, List.map_nil, List.mem_cons, List.not_mem_nil, or_false] at hj
    rcases hj with rfl | rfl | rfl | rfl | rfl | rfl | rfl | rfl
    · exact absurd hl (by decide)
    · exact absurd hl (by decide)
    · exact absurd hl (by decide)
    · exact absurd hl (by decide)
    · exact absurd hl (by decide)
    · refine ⟨_, rfl, yields_frame [⟨6, 11⟩] (by kernel_rfl) ?_, fun _ => rfl, (block_agg _)⟩
      show YieldsIf _ _ _ _ (El E3) (Act.put _ (some 11) (.tuple #[(El E2), (El E3)]))
      simp only [Act.put, List.setIfInBounds_toArray, List.set_cons_zero, List.set_cons_succ]
      exact (show YieldsIf _ _ _ _ (El E3) _ from yieldsIf_extract rfl _ _ rfl _ rfl _ rfl)
    · exact absurd hl (by decide)
    · exact absurd hl (by decide)
  · intro j hj
    simp only [List.map_cons, List.map_nil, List.mem_cons, List.not_mem_nil, or_false] at hj
    rcases hj with rfl | rfl | rfl | rfl | rfl | rfl | rfl | rfl
    · exact fun _ _ _ h _ => h
    · exact fun _ _ _ h _ => h
    · exact fun _ _ _ h _ => h
    · exact fun _ _ _ h _ => h
    · exact fun _ _ _ h _ => h
    · exact fun _ _ _ h _ => h
    · intro v w1 w2 h hb
      obtain ⟨g, e, H⟩ : ∃ g, v = .pointer (some ⟨g, 0, none⟩) ∧ Blk w1 g 29 (El_cells 0) := h
      exact ⟨g, e, H.below' hb⟩
    · intro v w1 w2 h hb
      obtain ⟨g, e, H⟩ : ∃ g, v = .pointer (some ⟨g, 0, none⟩) ∧ Blk w1 g 29 (El_cells 0) := h
      exact ⟨g, e, H.below' hb⟩
  · intro j hj
    simp only [List.map_cons, List.map_nil, List.mem_cons, List.not_mem_nil, or_false] at hj
    rcases hj with rfl | rfl | rfl | rfl | rfl | rfl | rfl | rfl
    · refine job_frame [] (by kernel_rfl) ?_
      show JobAt _ _ _ _ _ _ _
      intro W K hS' hK
      unfold wpOp
      go_simp
      left
      refine (of_v l0 f0 hl0 E0 HE0.out _).mono ?_
      rintro e v ⟨rfl, b⟩
      exact hK _ _ rfl b (fun g hg => ((block_agg _) g hg).elim)
    · refine job_frame [] (by kernel_rfl) ?_
      show JobAt _ _ _ _ _ _ _
      intro W K hS' hK
      unfold wpOp
      go_simp
      left
      refine (of_v l1 f1 hl1 E1 HE1.out _).mono ?_
      rintro e v ⟨rfl, b⟩
      exact hK _ _ rfl b (fun g hg => ((block_agg _) g hg).elim)
    · refine job_frame [⟨2, 14⟩, ⟨4, 16⟩] (by kernel_rfl) ?_
      show JobAt _ _ _ _ (Act.put (Act.put _ (some 16) (El E1)) (some 14) (El E0)) _ _
      simp only [Act.put, List.setIfInBounds_toArray, List.set_cons_zero, List.set_cons_succ]
      intro W K hS' hK
      unfold wpOp
      go_simp
      left
      refine (swap_v n0 E0 E1 E2 E3 _ hn0 lE0 lE1 HE2.out HE3.out).mono ?_
      rintro e v ⟨rfl, b⟩
      exact hK _ _ rfl b (fun g hg => ((block_tuple _) g hg).elim)
    · refine job_frame [⟨5, 17⟩] (by kernel_rfl) ?_
      show JobAt _ _ _ _ (Act.put _ (some 17) (.tuple #[(El E2), (El E3)])) _ _
      simp only [Act.put, List.setIfInBounds_toArray, List.set_cons_zero, List.set_cons_succ]
      exact job_yield rfl rfl (.tuple #[(El E2), (El E3)]) (block_tuple _) (yieldsIf_move rfl _ rfl _ rfl)
    · refine job_frame [⟨6, 11⟩] (by kernel_rfl) ?_
      show JobAt _ _ _ _ (Act.put _ (some 11) (.tuple #[(El E2), (El E3)])) _ _
      simp only [Act.put, List.setIfInBounds_toArray, List.set_cons_zero, List.set_cons_succ]
      exact job_yield rfl rfl (El E2) (block_agg _) (show YieldsIf _ _ _ _ (El E2) _ from yieldsIf_extract rfl _ _ rfl _ rfl _ rfl)
    · refine job_frame [⟨6, 11⟩] (by kernel_rfl) ?_
      show JobAt _ _ _ _ (Act.put _ (some 11) (.tuple #[(El E2), (El E3)])) _ _
      simp only [Act.put, List.setIfInBounds_toArray, List.set_cons_zero, List.set_cons_succ]
      exact job_yield rfl rfl (El E3) (block_agg _) (show YieldsIf _ _ _ _ (El E3) _ from yieldsIf_extract rfl _ _ rfl _ rfl _ rfl)
    · refine job_frame [] (by kernel_rfl) ?_
      show JobAt _ _ _ _ _ _ _
      exact job_alloc 29 (El_cells 0) _ _ rfl rfl rfl (fun W => by go_simp; rfl)
    · refine job_frame [] (by kernel_rfl) ?_
      show JobAt _ _ _ _ _ _ _
      exact job_alloc 29 (El_cells 0) _ _ rfl rfl rfl (fun W => by go_simp; rfl)
  · intro f W hS2 hB1 hR hF hA
    have e2 : f 2 = (El E0) := hR ⟨2, 14⟩ (by simp)
    have e4 : f 4 = (El E1) := hR ⟨4, 16⟩ (by simp)
    have e5 : f 5 = (.tuple #[(El E2), (El E3)]) := hR ⟨5, 17⟩ (by simp)
    have e6 : f 6 = (.tuple #[(El E2), (El E3)]) := hR ⟨6, 11⟩ (by simp)
    have e7 : f 7 = (El E2) := hR ⟨7, 18⟩ (by simp)
    have e8 : f 8 = (El E3) := hR ⟨8, 19⟩ (by simp)
    obtain ⟨g9, e9, A9⟩ : ∃ g, f 9 = .pointer (some ⟨g, 0, none⟩) ∧ Blk W g 29 (El_cells 0) := hR ⟨9, 7⟩ (by simp)
    have n9 : _ ≤ g9 := (hF ⟨9, 7⟩ (by simp) g9 (by show blockOf (f 9) = _; rw [e9]; rfl)).1
    obtain ⟨g10, e10, A10⟩ : ∃ g, f 10 = .pointer (some ⟨g, 0, none⟩) ∧ Blk W g 29 (El_cells 0) := hR ⟨10, 8⟩ (by simp)
    have n10 : _ ≤ g10 := (hF ⟨10, 8⟩ (by simp) g10 (by show blockOf (f 10) = _; rw [e10]; rfl)).1
    have d9_10 : g9 ≠ g10 := fun h => hA ⟨9, 7⟩ (by simp) ⟨10, 8⟩ (by simp) (by decide) g9 (by show blockOf (f 9) = _; rw [e9]; rfl) (by show blockOf (f 10) = _; rw [e10, h]; rfl)
    clear hA hF hR
    simp only [setAll, putAll, List.map_cons, List.map_nil, List.foldr_cons, List.foldr_nil, Act.put, List.setIfInBounds_toArray, List.set_cons_zero, List.set_cons_succ, e2, e4, e5, e6, e7, e8, e9, e10]
    clear e2 e4 e5 e6 e7 e8 e9 e10
    have hBs := hB1
    replace hB1 := below_setRow hB1 n9 (El_cells E2)
    refine wpAnyZ_store_row 11 rfl (by kernel_rfl) rfl _ _ _ rfl g9 (El_cells E2) rfl rfl _ _ A9 (info_El _) rfl (El_one _) (hS.below hB1) ?_
    try simp only [Act.put, List.setIfInBounds_toArray, List.set_cons_zero, List.set_cons_succ]
    replace A10 := A10.rowFar (Ne.symm d9_10) (El_cells E2)
    replace A9 := A9.row (El_cells E2)
    replace hB1 := below_setRow hB1 n10 (El_cells E3)
    refine wpAnyZ_store_row 12 rfl (by kernel_rfl) rfl _ _ _ rfl g10 (El_cells E3) rfl rfl _ _ A10 (info_El _) rfl (El_one _) (hS.below hB1) ?_
    try simp only [Act.put, List.setIfInBounds_toArray, List.set_cons_zero, List.set_cons_succ]
    replace A9 := A9.rowFar d9_10 (El_cells E3)
    replace A10 := A10.row (El_cells E3)
    refine wpAnyZ_done (by kernel_rfl) ?_ _
    have hS3 := hS.below hB1
    replace hB := hB.trans (hB1.mono hB.size)
    clear hS hS2 hB1 hBs
    have hS : Facts [.blk (g9) 29 (El_cells E2), .blk (g10) 29 (El_cells E3), .blk (w.heap.size) 23 (Iv .u8 l0), .blk (w.heap.size + 1) 23 (Iv .u8 l1)] _ := Facts.cons (f := .blk g9 29 (El_cells E2)) A9 (Facts.cons (f := .blk g10 29 (El_cells E3)) A10 (hS3))
    clear hS3
    try clear n9 n10
    clear A9 A10
    generalize hWn : World.setRow _ _ _ = Wn at *
    clear hWn
    go_upto_region 5 with fail
    refine wp_region_seq ?_
    refine wpSeq_yield (S := Facts [.blk (g9) 29 (El_cells E2), .blk (g10) 29 (El_cells E3), .blk (w.heap.size) 23 (Iv .u8 l0), .blk (w.heap.size + 1) 23 (Iv .u8 l1)]) (show YieldsIf _ _ _ _ (Key l1) _ from yieldsIf_load rfl 23 _ rfl (w.heap.size + 1) rfl 23 _ _ (.tail _ (.tail _ (.tail _ (.head _)))) Try.underlying23 rfl (info_key _ hl1.len)) hS ?_
    simp only [Act.put, List.setIfInBounds_toArray, List.set_cons_zero, List.set_cons_succ]
    refine wpSeq_yield (S := Facts [.blk (g9) 29 (El_cells E2), .blk (g10) 29 (El_cells E3), .blk (w.heap.size) 23 (Iv .u8 l0), .blk (w.heap.size + 1) 23 (Iv .u8 l1)]) (show YieldsIf _ _ _ _ (Key l0) _ from yieldsIf_load rfl 23 _ rfl (w.heap.size) rfl 23 _ _ (.tail _ (.tail _ (.head _))) Try.underlying23 rfl (info_key _ hl0.len)) hS ?_
    simp only [Act.put, List.setIfInBounds_toArray, List.set_cons_zero, List.set_cons_succ]
    refine wpSeq_store_row rfl 23 _ _ rfl (w.heap.size) (Iv .u8 l1) rfl rfl _ _ (hS.blkAt (w.heap.size) 23 (Iv .u8 l0) (.tail _ (.tail _ (.head _)))) (info_key _ hl1.len) (by rw [Iv_size, Iv_size, hl0.len, hl1.len]) (Iv_one _ _) ?_
    simp only [Act.put, List.setIfInBounds_toArray, List.set_cons_zero, List.set_cons_succ]
    replace hB := below_setRow hB (g := w.heap.size) (by omega) (Iv .u8 l1)
    replace hS : Facts [.blk (g9) 29 (El_cells E2), .blk (g10) 29 (El_cells E3), .blk (w.heap.size) 23 (Iv .u8 l1), .blk (w.heap.size + 1) 23 (Iv .u8 l1)] _ := Facts.cons (f := .blk (g9) 29 (El_cells E2)) ((hS.blkAt (g9) 29 (El_cells E2) (.head _)).rowFar (blk_ne (hS.blkAt _ _ _ (.head _)) (hS.blkAt _ _ _ (.tail _ (.tail _ (.head _)))) (by decide)) _) (Facts.cons (f := .blk (g10) 29 (El_cells E3)) ((hS.blkAt (g10) 29 (El_cells E3) (.tail _ (.head _))).rowFar (blk_ne (hS.blkAt _ _ _ (.tail _ (.head _))) (hS.blkAt _ _ _ (.tail _ (.tail _ (.head _)))) (by decide)) _) (Facts.cons (f := .blk (w.heap.size) 23 (Iv .u8 l1)) ((hS.blkAt (w.heap.size) 23 (Iv .u8 l0) (.tail _ (.tail _ (.head _)))).row _) (Facts.cons (f := .blk (w.heap.size + 1) 23 (Iv .u8 l1)) ((hS.blkAt (w.heap.size + 1) 23 (Iv .u8 l1) (.tail _ (.tail _ (.tail _ (.head _))))).rowFar (by omega) _) (Facts.nil))))
    generalize hWn : World.setRow _ _ _ = Wn at *
    clear hWn
    refine wpSeq_store_row rfl 23 _ _ rfl (w.heap.size + 1) (Iv .u8 l0) rfl rfl _ _ (hS.blkAt (w.heap.size + 1) 23 (Iv .u8 l1) (.tail _ (.tail _ (.tail _ (.head _))))) (info_key _ hl0.len) (by rw [Iv_size, Iv_size, hl1.len, hl0.len]) (Iv_one _ _) ?_
    simp only [Act.put, List.setIfInBounds_toArray, List.set_cons_zero, List.set_cons_succ]
    replace hB := below_setRow hB (g := w.heap.size + 1) (by omega) (Iv .u8 l0)
    replace hS : Facts [.blk (g9) 29 (El_cells E2), .blk (g10) 29 (El_cells E3), .blk (w.heap.size) 23 (Iv .u8 l1), .blk (w.heap.size + 1) 23 (Iv .u8 l0)] _ := Facts.cons (f := .blk (g9) 29 (El_cells E2)) ((hS.blkAt (g9) 29 (El_cells E2) (.head _)).rowFar (blk_ne (hS.blkAt _ _ _ (.head _)) (hS.blkAt _ _ _ (.tail _ (.tail _ (.tail _ (.head _))))) (by decide)) _) (Facts.cons (f := .blk (g10) 29 (El_cells E3)) ((hS.blkAt (g10) 29 (El_cells E3) (.tail _ (.head _))).rowFar (blk_ne (hS.blkAt _ _ _ (.tail _ (.head _))) (hS.blkAt _ _ _ (.tail _ (.tail _ (.tail _ (.head _))))) (by decide)) _) (Facts.cons (f := .blk (w.heap.size) 23 (Iv .u8 l1)) ((hS.blkAt (w.heap.size) 23 (Iv .u8 l1) (.tail _ (.tail _ (.head _)))).rowFar (by omega) _) (Facts.cons (f := .blk (w.heap.size + 1) 23 (Iv .u8 l0)) ((hS.blkAt (w.heap.size + 1) 23 (Iv .u8 l1) (.tail _ (.tail _ (.tail _ (.head _))))).row _) (Facts.nil))))
    generalize hWn : World.setRow _ _ _ = Wn at *
    clear hWn
    refine wpSeq_nil ?_
    go_upto_region 6 with fail
    replace hS := hS.drew
    replace hB := below_drew hB
    refine wp_region_Z (S := Facts [.blk (g9) 29 (El_cells E2), .blk (g10) 29 (El_cells E3), .blk (w.heap.size) 23 (Iv .u8 l1), .blk (w.heap.size + 1) 23 (Iv .u8 l0)]) 10 (by kernel_rfl) ?_
    refine wpAnyZ_takeL 0 rfl (by kernel_rfl) (by kernel_rfl) (by kernel_rfl) (by kernel_rfl) (by kernel_rfl) (fun _ _ _ h => h) (show YieldsIf _ _ _ _ (El E2) _ from yieldsIf_load rfl 29 _ rfl (g9) rfl 29 _ _ (.head _) Try.underlying29 rfl (info_El _)) hS ?_
    simp only [Act.put, List.setIfInBounds_toArray, List.set_cons_zero, List.set_cons_succ]
    refine wpAnyZ_takeL 1 rfl (by kernel_rfl) (by kernel_rfl) (by kernel_rfl) (by kernel_rfl) (by kernel_rfl) (fun _ _ _ h => h) (show YieldsIf _ _ _ _ (Key l1) _ from yieldsIf_load rfl 23 _ rfl (w.heap.size) rfl 23 _ _ (.tail _ (.tail _ (.head _))) Try.underlying23 rfl (info_key _ hl1.len)) hS ?_
    simp only [Act.put, List.setIfInBounds_toArray, List.set_cons_zero, List.set_cons_succ]
    refine wpAnyZ_one (i := 2) (by kernel_rfl) ?_
    unfold wpOp
    go_simp
    left
    refine (of_v l1 f1 hl1 E1 HE1.out _).mono ?_
    rintro e v1 ⟨rfl, b⟩
    replace hB := hB.trans (b.mono hB.size)
    replace hS := hS.below b
    clear b
    refine ⟨hS, ?_⟩
    refine wpAnyZ_one (i := 3) (by kernel_rfl) ?_
    unfold wpOp
    go_simp
    left
    refine (same_v E2 E1 true _ (decide_eq_true (by rw [HE2.out, swapped, if_pos hq]))).mono ?_
    rintro e v2 ⟨rfl, b⟩
    replace hB := hB.trans (b.mono hB.size)
    replace hS := hS.below b
    clear b
    refine ⟨hS, ?_⟩
    refine wpAnyZ_takeL 4 rfl (by kernel_rfl) (by kernel_rfl) (by kernel_rfl) (by kernel_rfl) (by kernel_rfl) (fun _ _ _ h => h) (yieldsIf_move rfl _ rfl _ rfl) hS ?_
    simp only [Act.put, List.setIfInBounds_toArray, List.set_cons_zero, List.set_cons_succ]
    refine wpAnyZ_takeL 5 rfl (by kernel_rfl) (by kernel_rfl) (by kernel_rfl) (by kernel_rfl) (by kernel_rfl) (fun _ _ _ h => h) (show YieldsIf _ _ _ _ (El E3) _ from yieldsIf_load rfl 29 _ rfl (g10) rfl 29 _ _ (.tail _ (.head _)) Try.underlying29 rfl (info_El _)) hS ?_
    simp only [Act.put, List.setIfInBounds_toArray, List.set_cons_zero, List.set_cons_succ]
    refine wpAnyZ_takeL 6 rfl (by kernel_rfl) (by kernel_rfl) (by kernel_rfl) (by kernel_rfl) (by kernel_rfl) (fun _ _ _ h => h) (show YieldsIf _ _ _ _ (Key l0) _ from yieldsIf_load rfl 23 _ rfl (w.heap.size + 1) rfl 23 _ _ (.tail _ (.tail _ (.tail _ (.head _)))) Try.underlying23 rfl (info_key _ hl0.len)) hS ?_
    simp only [Act.put, List.setIfInBounds_toArray, List.set_cons_zero, List.set_cons_succ]
    refine wpAnyZ_one (i := 7) (by kernel_rfl) ?_
    unfold wpOp
    go_simp
    left
    refine (of_v l0 f0 hl0 E0 HE0.out _).mono ?_
    rintro e v3 ⟨rfl, b⟩
    replace hB := hB.trans (b.mono hB.size)
    replace hS := hS.below b
    clear b
    refine ⟨hS, ?_⟩
    refine wpAnyZ_one (i := 8) (by kernel_rfl) ?_
    unfold wpOp
    go_simp
    left
    refine (same_v E3 E0 true _ (decide_eq_true (by rw [HE3.out, swapped, if_pos hq]))).mono ?_
    rintro e v4 ⟨rfl, b⟩
    replace hB := hB.trans (b.mono hB.size)
    replace hS := hS.below b
    clear b
    refine ⟨hS, ?_⟩
    refine wpAnyZ_takeL 9 rfl (by kernel_rfl) (by kernel_rfl) (by kernel_rfl) (by kernel_rfl) (by kernel_rfl) (fun _ _ _ h => h) (yieldsIf_pick rfl _ _ _ rfl true rfl _ rfl) hS ?_
    simp only [Act.put, List.setIfInBounds_toArray, List.set_cons_zero, List.set_cons_succ]
    refine wpAnyZ_one (i := 10) (by kernel_rfl) ?_
    unfold wpOp
    go_simp
    left
    refine wpAnyZ_done (by kernel_rfl) ?_ _
    go_wp2
    go_ret
    exact ⟨rfl, hB⟩

set_option maxHeartbeats 4000000 in
set_option maxRecDepth 100000 in
theorem swaps_even (n0 : Nat) (hn0 : n0 < 18446744073709551616) (hq : ¬ n0 % 2 = 1) (l0 l1 : List Int) (f0 f1 : Nat → Nat) (hl0 : Bytes32 l0 f0) (hl1 : Bytes32 l1 f1) (w : World) :
    Calls Try.prog 10 #[.int .u64 (n0 : Int), Key l0, Key l1] w fun e w' => e = .returned (.bool true) ∧ Below w.heap.size w w' := by
  obtain ⟨E0, hE0⟩ : ∃ r, r = leTo f0 32 % 57896044618658097711785492504343953926634992332820282019728792003956564819968 % pp := ⟨_, rfl⟩
  have lE0 : E0 < pp := hE0 ▸ Nat.mod_lt _ pp_pos
  have HE0 := Lib.hid hE0
  clear hE0
  obtain ⟨E1, hE1⟩ : ∃ r, r = leTo f1 32 % 57896044618658097711785492504343953926634992332820282019728792003956564819968 % pp := ⟨_, rfl⟩
  have lE1 : E1 < pp := hE1 ▸ Nat.mod_lt _ pp_pos
  have HE1 := Lib.hid hE1
  clear hE1
  obtain ⟨E2, hE2⟩ : ∃ r, r = swapped n0 E0 E1 := ⟨_, rfl⟩
  have lE2 : E2 < pp := hE2 ▸ swapped_lt _ _ _ lE0 lE1
  have HE2 := Lib.hid hE2
  clear hE2
  obtain ⟨E3, hE3⟩ : ∃ r, r = swapped n0 E1 E0 := ⟨_, rfl⟩
  have lE3 : E3 < pp := hE3 ▸ swapped_lt _ _ _ lE1 lE0
  have HE3 := Lib.hid hE3
  clear hE3
  have hq1 : ((n0 : Int)).tmod 2 = 0 := by rw [Int.tmod_eq_emod_of_nonneg (by omega)]; omega
  unfold Key
  go_enter Try.func10, Try.ntmps10
  go_wp2_with fail
  refine (awake_any _).mono ?_
  rintro e w1 ⟨rfl, b⟩
  have hS : Facts [.blk (w.heap.size) 23 (Iv .u8 l0), .blk (w.heap.size + 1) 23 (Iv .u8 l1)] w1 := Facts.below (Facts.cons ((Blk.new w _ _).alloc _) (Facts.cons (Blk.new' (by simp) _ _) Facts.nil)) b
  have hB : Below w.heap.size w w1 := (((Below.refl w.heap.size w).alloc (Nat.le_refl _) _).alloc (by simp) _).trans (b.mono (by simp; omega))
  clear b
  go_upto_region 3 with fail
  replace hS := hS.drew
  replace hB := below_drew hB
  refine wp_region_Z (S := Facts [.blk (w.heap.size) 23 (Iv .u8 l0), .blk (w.heap.size + 1) 23 (Iv .u8 l1)]) 12 (by kernel_rfl) ?_
  refine wpAnyZ_takeL 0 rfl (by kernel_rfl) (by kernel_rfl) (by kernel_rfl) (by kernel_rfl) (by kernel_rfl) (fun _ _ _ h => h) (yieldsIf_move rfl _ rfl _ rfl) hS ?_
  simp only [Act.put, List.setIfInBounds_toArray, List.set_cons_zero, List.set_cons_succ]
  refine wpAnyZ_takeL 1 rfl (by kernel_rfl) (by kernel_rfl) (by kernel_rfl) (by kernel_rfl) (by kernel_rfl) (fun _ _ _ h => h) (show YieldsIf _ _ _ _ (Key l0) _ from yieldsIf_load rfl 23 _ rfl (w.heap.size) rfl 23 _ _ (.head _) Try.underlying23 rfl (info_key _ hl0.len)) hS ?_
  simp only [Act.put, List.setIfInBounds_toArray, List.set_cons_zero, List.set_cons_succ]
  refine wpAnyZ_takeL 3 rfl (by kernel_rfl) (by kernel_rfl) (by kernel_rfl) (by kernel_rfl) (by kernel_rfl) (fun _ _ _ h => h) (show YieldsIf _ _ _ _ (Key l1) _ from yieldsIf_load rfl 23 _ rfl (w.heap.size + 1) rfl 23 _ _ (.tail _ (.head _)) Try.underlying23 rfl (info_key _ hl1.len)) hS ?_
  simp only [Act.put, List.setIfInBounds_toArray, List.set_cons_zero, List.set_cons_succ]
  refine wpAnyZ_jobsL [(⟨2, 14⟩, .is (El E0)), (⟨4, 16⟩, .is (El E1)), (⟨5, 17⟩, .is (.tuple #[(El E2), (El E3)])), (⟨6, 11⟩, .is (.tuple #[(El E2), (El E3)])), (⟨7, 18⟩, .is (El E2)), (⟨8, 19⟩, .is (El E3)), (⟨9, 7⟩, .rel (fun v w' => ∃ g, v = .pointer (some ⟨g, 0, none⟩) ∧ Blk w' g 29 (El_cells 0))), (⟨10, 8⟩, .rel (fun v w' => ∃ g, v = .pointer (some ⟨g, 0, none⟩) ∧ Blk w' g 29 (El_cells 0)))] [8] 2 _ _ _ (by kernel_rfl) (fun _ _ _ _ _ h => h) ?_ (fun _ _ _ _ _ h => h) (fun _ _ h hb => h.below hb) hS ?_ ?_ ?_
  · intro j hj hl
    simp only [List.map_cons, List.map_nil, List.mem_cons, List.not_mem_nil, or_false] at hj
    rcases hj with rfl | rfl | rfl | rfl | rfl | rfl | rfl | rfl
    · exact absurd hl (by decide)
    · exact absurd hl (by decide)
    · exact absurd hl (by decide)
    · exact absurd hl (by decide)
    · exact absurd hl (by decide)
    · refine ⟨_, rfl, yields_frame [⟨6, 11⟩] (by kernel_rfl) ?_, fun _ => rfl, (block_agg _)⟩
      show YieldsIf _ _ _ _ (El E3) (Act.put _ (some 11) (.tuple #[(El E2), (El E3)]))
      simp only [Act.put, List.setIfInBounds_toArray, List.set_cons_zero, List.set_cons_succ]
      exact (show YieldsIf _ _ _ _ (El E3) _ from yieldsIf_extract rfl _ _ rfl _ rfl _ rfl)
    · exact absurd hl (by decide)
    · exact absurd hl (by decide)
  · intro j hj
    simp only [List.map_cons, List.map_nil, List.mem_cons, List.not_mem_nil, or_false] at hj
    rcases hj with rfl | rfl | rfl | rfl | rfl | rfl | rfl | rfl
    · exact fun _ _ _ h _ => h
    · exact fun _ _ _ h _ => h
    · exact fun _ _ _ h _ => h
    · exact fun _ _ _ h _ => h
    · exact fun _ _ _ h _ => h
    · exact fun _ _ _ h _ => h
    · intro v w1 w2 h hb
      obtain ⟨g, e, H⟩ : ∃ g, v = .pointer (some ⟨g, 0, none⟩) ∧ Blk w1 g 29 (El_cells 0) := h
      exact ⟨g, e, H.below' hb⟩
    · intro v w1 w2 h hb
      obtain ⟨g, e, H⟩ : ∃ g, v = .pointer (some ⟨g, 0, none⟩) ∧ Blk w1 g 29 (El_cells 0) := h
      exact ⟨g, e, H.below' hb⟩
  · intro j hj
    simp only [List.map_cons, List.map_nil, List.mem_cons, List.not_mem_nil, or_false] at hj
    rcases hj with rfl | rfl | rfl | rfl | rfl | rfl | rfl | rfl
    · refine job_frame [] (by kernel_rfl) ?_
      show JobAt _ _ _ _ _ _ _
      intro W K hS' hK
      unfold wpOp
      go_simp
      left
      refine (of_v l0 f0 hl0 E0 HE0.out _).mono ?_
      rintro e v ⟨rfl, b⟩
      exact hK _ _ rfl b (fun g hg => ((block_agg _) g hg).elim)
    · refine job_frame [] (by kernel_rfl) ?_
      show JobAt _ _ _ _ _ _ _
      intro W K hS' hK
      unfold wpOp
      go_simp
      left
      refine (of_v l1 f1 hl1 E1 HE1.out _).mono ?_
      rintro e v ⟨rfl, b⟩
      exact hK _ _ rfl b (fun g hg => ((block_agg _) g hg).elim)
    · refine job_frame [⟨2, 14⟩, ⟨4, 16⟩] (by kernel_rfl) ?_
      show JobAt _ _ _ _ (Act.put (Act.put _ (some 16) (El E1)) (some 14) (El E0)) _ _
      simp only [Act.put, List.setIfInBounds_toArray, List.set_cons_zero, List.set_cons_succ]
      intro W K hS' hK
      unfold wpOp
      go_simp
      left
      refine (swap_v n0 E0 E1 E2 E3 _ hn0 lE0 lE1 HE2.out HE3.out).mono ?_
      rintro e v ⟨rfl, b⟩
      exact hK _ _ rfl b (fun g hg => ((block_tuple _) g hg).elim)
    · refine job_frame [⟨5, 17⟩] (by kernel_rfl) ?_
      show JobAt _ _ _ _ (Act.put _ (some 17) (.tuple #[(El E2), (El E3)])) _ _
      simp only [Act.put, List.setIfInBounds_toArray, List.set_cons_zero, List.set_cons_succ]
      exact job_yield rfl rfl (.tuple #[(El E2), (El E3)]) (block_tuple _) (yieldsIf_move rfl _ rfl _ rfl)
    · refine job_frame [⟨6, 11⟩] (by kernel_rfl) ?_
      show JobAt _ _ _ _ (Act.put _ (some 11) (.tuple #[(El E2), (El E3)])) _ _
      simp only [Act.put, List.setIfInBounds_toArray, List.set_cons_zero, List.set_cons_succ]
      exact job_yield rfl rfl (El E2) (block_agg _) (show YieldsIf _ _ _ _ (El E2) _ from yieldsIf_extract rfl _ _ rfl _ rfl _ rfl)
    · refine job_frame [⟨6, 11⟩] (by kernel_rfl) ?_
      show JobAt _ _ _ _ (Act.put _ (some 11) (.tuple #[(El E2), (El E3)])) _ _
      simp only [Act.put, List.setIfInBounds_toArray, List.set_cons_zero, List.set_cons_succ]
      exact job_yield rfl rfl (El E3) (block_agg _) (show YieldsIf _ _ _ _ (El E3) _ from yieldsIf_extract rfl _ _ rfl _ rfl _ rfl)
    · refine job_frame [] (by kernel_rfl) ?_
      show JobAt _ _ _ _ _ _ _
      exact job_alloc 29 (El_cells 0) _ _ rfl rfl rfl (fun W => by go_simp; rfl)
    · refine job_frame [] (by kernel_rfl) ?_
      show JobAt _ _ _ _ _ _ _
      exact job_alloc 29 (El_cells 0) _ _ rfl rfl rfl (fun W => by go_simp; rfl)
  · intro f W hS2 hB1 hR hF hA
    have e2 : f 2 = (El E0) := hR ⟨2, 14⟩ (by simp)
    have e4 : f 4 = (El E1) := hR ⟨4, 16⟩ (by simp)
    have e5 : f 5 = (.tuple #[(El E2), (El E3)]) := hR ⟨5, 17⟩ (by simp)
    have e6 : f 6 = (.tuple #[(El E2), (El E3)]) := hR ⟨6, 11⟩ (by simp)
    have e7 : f 7 = (El E2) := hR ⟨7, 18⟩ (by simp)
    have e8 : f 8 = (El E3) := hR ⟨8, 19⟩ (by simp)
    obtain ⟨g9, e9, A9⟩ : ∃ g, f 9 = .pointer (some ⟨g, 0, none⟩) ∧ Blk W g 29 (El_cells 0) := hR ⟨9, 7⟩ (by simp)
    have n9 : _ ≤ g9 := (hF ⟨9, 7⟩ (by simp) g9 (by show blockOf (f 9) = _; rw [e9]; rfl)).1
    obtain ⟨g10, e10, A10⟩ : ∃ g, f 10 = .pointer (some ⟨g, 0, none⟩) ∧ Blk W g 29 (El_cells 0) := hR ⟨10, 8⟩ (by simp)
    have n10 : _ ≤ g10 := (hF ⟨10, 8⟩ (by simp) g10 (by show blockOf (f 10) = _; rw [e10]; rfl)).1
    have d9_10 : g9 ≠ g10 := fun h => hA ⟨9, 7⟩ (by simp) ⟨10, 8⟩ (by simp) (by decide) g9 (by show blockOf (f 9) = _; rw [e9]; rfl) (by show blockOf (f 10) = _; rw [e10, h]; rfl)
    clear hA hF hR
    simp only [setAll, putAll, List.map_cons, List.map_nil, List.foldr_cons, List.foldr_nil, Act.put, List.setIfInBounds_toArray, List.set_cons_zero, List.set_cons_succ, e2, e4, e5, e6, e7, e8, e9, e10]
    clear e2 e4 e5 e6 e7 e8 e9 e10
    have hBs := hB1
    replace hB1 := below_setRow hB1 n9 (El_cells E2)
    refine wpAnyZ_store_row 11 rfl (by kernel_rfl) rfl _ _ _ rfl g9 (El_cells E2) rfl rfl _ _ A9 (info_El _) rfl (El_one _) (hS.below hB1) ?_
    try simp only [Act.put, List.setIfInBounds_toArray, List.set_cons_zero, List.set_cons_succ]
    replace A10 := A10.rowFar (Ne.symm d9_10) (El_cells E2)
    replace A9 := A9.row (El_cells E2)
    replace hB1 := below_setRow hB1 n10 (El_cells E3)
    refine wpAnyZ_store_row 12 rfl (by kernel_rfl) rfl _ _ _ rfl g10 (El_cells E3) rfl rfl _ _ A10 (info_El _) rfl (El_one _) (hS.below hB1) ?_
    try simp only [Act.put, List.setIfInBounds_toArray, List.set_cons_zero, List.set_cons_succ]
    replace A9 := A9.rowFar d9_10 (El_cells E3)
    replace A10 := A10.row (El_cells E3)
    refine wpAnyZ_done (by kernel_rfl) ?_ _
    have hS3 := hS.below hB1
    replace hB := hB.trans (hB1.mono hB.size)
    clear hS hS2 hB1 hBs
    have hS : Facts [.blk (g9) 29 (El_cells E2), .blk (g10) 29 (El_cells E3), .blk (w.heap.size) 23 (Iv .u8 l0), .blk (w.heap.size + 1) 23 (Iv .u8 l1)] _ := Facts.cons (f := .blk g9 29 (El_cells E2)) A9 (Facts.cons (f := .blk g10 29 (El_cells E3)) A10 (hS3))
    clear hS3
    try clear n9 n10
    clear A9 A10
    generalize hWn : World.setRow _ _ _ = Wn at *
    clear hWn
    go_upto_region 6 with fail
    replace hS := hS.drew
    replace hB := below_drew hB
    refine wp_region_Z (S := Facts [.blk (g9) 29 (El_cells E2), .blk (g10) 29 (El_cells E3), .blk (w.heap.size) 23 (Iv .u8 l0), .blk (w.heap.size + 1) 23 (Iv .u8 l1)]) 10 (by kernel_rfl) ?_
    refine wpAnyZ_takeL 0 rfl (by kernel_rfl) (by kernel_rfl) (by kernel_rfl) (by kernel_rfl) (by kernel_rfl) (fun _ _ _ h => h) (show YieldsIf _ _ _ _ (El E2) _ from yieldsIf_load rfl 29 _ rfl (g9) rfl 29 _ _ (.head _) Try.underlying29 rfl (info_El _)) hS ?_
    simp only [Act.put, List.setIfInBounds_toArray, List.set_cons_zero, List.set_cons_succ]
    refine wpAnyZ_takeL 1 rfl (by kernel_rfl) (by kernel_rfl) (by kernel_rfl) (by kernel_rfl) (by kernel_rfl) (fun _ _ _ h => h) (show YieldsIf _ _ _ _ (Key l0) _ from yieldsIf_load rfl 23 _ rfl (w.heap.size) rfl 23 _ _ (.tail _ (.tail _ (.head _))) Try.underlying23 rfl (info_key _ hl0.len)) hS ?_
    simp only [Act.put, List.setIfInBounds_toArray, List.set_cons_zero, List.set_cons_succ]
    refine wpAnyZ_one (i := 2) (by kernel_rfl) ?_
    unfold wpOp
    go_simp
    left
    refine (of_v l0 f0 hl0 E0 HE0.out _).mono ?_
    rintro e v1 ⟨rfl, b⟩
    replace hB := hB.trans (b.mono hB.size)
    replace hS := hS.below b
    clear b
    refine ⟨hS, ?_⟩
    refine wpAnyZ_one (i := 3) (by kernel_rfl) ?_
    unfold wpOp
    go_simp
    left
    refine (same_v E2 E0 true _ (decide_eq_true (by rw [HE2.out, swapped, if_neg hq]))).mono ?_
    rintro e v2 ⟨rfl, b⟩
    replace hB := hB.trans (b.mono hB.size)
    replace hS := hS.below b
    clear b
    refine ⟨hS, ?_⟩
    refine wpAnyZ_takeL 4 rfl (by kernel_rfl) (by kernel_rfl) (by kernel_rfl) (by kernel_rfl) (by kernel_rfl) (fun _ _ _ h => h) (yieldsIf_move rfl _ rfl _ rfl) hS ?_
    simp only [Act.put, List.setIfInBounds_toArray, List.set_cons_zero, List.set_cons_succ]
    refine wpAnyZ_takeL 5 rfl (by kernel_rfl) (by kernel_rfl) (by kernel_rfl) (by kernel_rfl) (by kernel_rfl) (fun _ _ _ h => h) (show YieldsIf _ _ _ _ (El E3) _ from yieldsIf_load rfl 29 _ rfl (g10) rfl 29 _ _ (.tail _ (.head _)) Try.underlying29 rfl (info_El _)) hS ?_
    simp only [Act.put, List.setIfInBounds_toArray, List.set_cons_zero, List.set_cons_succ]
    refine wpAnyZ_takeL 6 rfl (by kernel_rfl) (by kernel_rfl) (by kernel_rfl) (by kernel_rfl) (by kernel_rfl) (fun _ _ _ h => h) (show YieldsIf _ _ _ _ (Key l1) _ from yieldsIf_load rfl 23 _ rfl (w.heap.size + 1) rfl 23 _ _ (.tail _ (.tail _ (.tail _ (.head _)))) Try.underlying23 rfl (info_key _ hl1.len)) hS ?_
    simp only [Act.put, List.setIfInBounds_toArray, List.set_cons_zero, List.set_cons_succ]
    refine wpAnyZ_one (i := 7) (by kernel_rfl) ?_
    unfold wpOp
    go_simp
    left
    refine (of_v l1 f1 hl1 E1 HE1.out _).mono ?_
    rintro e v3 ⟨rfl, b⟩
    replace hB := hB.trans (b.mono hB.size)
    replace hS := hS.below b
    clear b
    refine ⟨hS, ?_⟩
    refine wpAnyZ_one (i := 8) (by kernel_rfl) ?_
    unfold wpOp
    go_simp
    left
    refine (same_v E3 E1 true _ (decide_eq_true (by rw [HE3.out, swapped, if_neg hq]))).mono ?_
    rintro e v4 ⟨rfl, b⟩
    replace hB := hB.trans (b.mono hB.size)
    replace hS := hS.below b
    clear b
    refine ⟨hS, ?_⟩
    refine wpAnyZ_takeL 9 rfl (by kernel_rfl) (by kernel_rfl) (by kernel_rfl) (by kernel_rfl) (by kernel_rfl) (fun _ _ _ h => h) (yieldsIf_pick rfl _ _ _ rfl true rfl _ rfl) hS ?_
    simp only [Act.put, List.setIfInBounds_toArray, List.set_cons_zero, List.set_cons_succ]
    refine wpAnyZ_one (i := 10) (by kernel_rfl) ?_
    unfold wpOp
    go_simp
    left
    refine wpAnyZ_done (by kernel_rfl) ?_ _
    go_wp2
    go_ret
    exact ⟨rfl, hB⟩

theorem swaps_any (n0 : Nat) (hn0 : n0 < 18446744073709551616) (l0 l1 : List Int) (f0 f1 : Nat → Nat) (hl0 : Bytes32 l0 f0) (hl1 : Bytes32 l1 f1) (w : World) :
    Calls Try.prog 10 #[.int .u64 (n0 : Int), Key l0, Key l1] w fun e w' => e = .returned (.bool true) ∧ Below w.heap.size w w' := by
  by_cases hq : n0 % 2 = 1
  · exact swaps_odd n0 hn0 hq l0 l1 f0 f1 hl0 hl1 w
  · exact swaps_even n0 hn0 hq l0 l1 f0 f1 hl0 hl1 w
end Go.Proofs.Ytknmmjnkafmoaaa
