/- The law FieldRuns: sums, differences, opposites, products of any numbers. -/
import Derived.Test.YtknmmjnkafmoaaaLl
namespace Go.Proofs.Ytknmmjnkafmoaaa
open Go.RowKit

set_option maxHeartbeats 4000000 in
set_option maxRecDepth 100000 in
theorem runs_any (l0 l1 : List Int) (f0 f1 : Nat → Nat) (hl0 : Bytes32 l0 f0) (hl1 : Bytes32 l1 f1) (w : World) :
    Calls Try.prog 4 #[Key l0, Key l1] w fun e w' => e = .returned (.bool true) ∧ Below w.heap.size w w' := by
  obtain ⟨E0, hE0⟩ : ∃ r, r = leTo f0 32 % 57896044618658097711785492504343953926634992332820282019728792003956564819968 % pp := ⟨_, rfl⟩
  have lE0 : E0 < pp := hE0 ▸ Nat.mod_lt _ pp_pos
  have HE0 := Lib.hid hE0
  clear hE0
  obtain ⟨E1, hE1⟩ : ∃ r, r = leTo f1 32 % 57896044618658097711785492504343953926634992332820282019728792003956564819968 % pp := ⟨_, rfl⟩
  have lE1 : E1 < pp := hE1 ▸ Nat.mod_lt _ pp_pos
  have HE1 := Lib.hid hE1
  clear hE1
  obtain ⟨E2, hE2⟩ : ∃ r, r = 0 := ⟨_, rfl⟩
  have lE2 : E2 < pp := hE2 ▸ by rw [pp_eq]; decide
  have HE2 := Lib.hid hE2
  clear hE2
  obtain ⟨E3, hE3⟩ : ∃ r, r = (E0 + E1) % pp := ⟨_, rfl⟩
  have lE3 : E3 < pp := hE3 ▸ Nat.mod_lt _ pp_pos
  have HE3 := Lib.hid hE3
  clear hE3
  obtain ⟨E4, hE4⟩ : ∃ r, r = (E0 + (pp - E1)) % pp := ⟨_, rfl⟩
  have lE4 : E4 < pp := hE4 ▸ Nat.mod_lt _ pp_pos
  have HE4 := Lib.hid hE4
  clear hE4
  obtain ⟨E5, hE5⟩ : ∃ r, r = (pp - E0) % pp := ⟨_, rfl⟩
  have lE5 : E5 < pp := hE5 ▸ Nat.mod_lt _ pp_pos
  have HE5 := Lib.hid hE5
  clear hE5
  obtain ⟨E6, hE6⟩ : ∃ r, r = (E2 + (pp - E0)) % pp := ⟨_, rfl⟩
  have lE6 : E6 < pp := hE6 ▸ Nat.mod_lt _ pp_pos
  have HE6 := Lib.hid hE6
  clear hE6
  obtain ⟨E7, hE7⟩ : ∃ r, r = E0 * E1 % pp := ⟨_, rfl⟩
  have lE7 : E7 < pp := hE7 ▸ Nat.mod_lt _ pp_pos
  have HE7 := Lib.hid hE7
  clear hE7
  unfold Key
  go_enter Try.func4, Try.ntmps4
  go_wp2_with fail
  refine (awake_any _).mono ?_
  rintro e w1 ⟨rfl, b⟩
  have hS : Facts [.blk (w.heap.size) 23 (Iv .u8 l0), .blk (w.heap.size + 1) 23 (Iv .u8 l1)] w1 := Facts.below (Facts.cons ((Blk.new w _ _).alloc _) (Facts.cons (Blk.new' (by simp) _ _) Facts.nil)) b
  have hB : Below w.heap.size w w1 := (((Below.refl w.heap.size w).alloc (Nat.le_refl _) _).alloc (by simp) _).trans (b.mono (by simp; omega))
  clear b
  go_upto_region 3 with fail
  replace hS := hS.drew
  replace hB := below_drew hB
  refine wp_region_Z (S := Facts [.blk (w.heap.size) 23 (Iv .u8 l0), .blk (w.heap.size + 1) 23 (Iv .u8 l1)]) 7 (by kernel_rfl) ?_
  refine wpAnyZ_takeL 0 rfl (by kernel_rfl) (by kernel_rfl) (by kernel_rfl) (by kernel_rfl) (by kernel_rfl) (fun _ _ _ h => h) (show YieldsIf _ _ _ _ (Key l0) _ from yieldsIf_load rfl 23 _ rfl (w.heap.size) rfl 23 _ _ (.head _) Try.underlying23 rfl (info_key _ hl0.len)) hS ?_
  simp only [Act.put, List.setIfInBounds_toArray, List.set_cons_zero, List.set_cons_succ]
  refine wpAnyZ_takeL 2 rfl (by kernel_rfl) (by kernel_rfl) (by kernel_rfl) (by kernel_rfl) (by kernel_rfl) (fun _ _ _ h => h) (show YieldsIf _ _ _ _ (Key l1) _ from yieldsIf_load rfl 23 _ rfl (w.heap.size + 1) rfl 23 _ _ (.tail _ (.head _)) Try.underlying23 rfl (info_key _ hl1.len)) hS ?_
  simp only [Act.put, List.setIfInBounds_toArray, List.set_cons_zero, List.set_cons_succ]
  refine wpAnyZ_jobsL [(⟨1, 13⟩, .is (El E0)), (⟨3, 15⟩, .is (El E1)), (⟨4, 5⟩, .rel (fun v w' => ∃ g, v = .pointer (some ⟨g, 0, none⟩) ∧ Blk w' g 29 (El_cells 0))), (⟨5, 6⟩, .rel (fun v w' => ∃ g, v = .pointer (some ⟨g, 0, none⟩) ∧ Blk w' g 29 (El_cells 0)))] [] 2 _ _ _ (by kernel_rfl) (fun _ _ _ _ _ h => h) ?_ (fun _ _ _ _ _ h => h) (fun _ _ h hb => h.below hb) hS ?_ ?_ ?_
  · exact fun _ _ h => by cases h
  · intro j hj
    simp only [List.map_cons, List.map_nil, List.mem_cons, List.not_mem_nil, or_false] at hj
    rcases hj with rfl | rfl | rfl | rfl
    · exact fun _ _ _ h _ => h
    · exact fun _ _ _ h _ => h
    · intro v w1 w2 h hb
      obtain ⟨g, e, H⟩ : ∃ g, v = .pointer (some ⟨g, 0, none⟩) ∧ Blk w1 g 29 (El_cells 0) := h
      exact ⟨g, e, H.below' hb⟩
    · intro v w1 w2 h hb
      obtain ⟨g, e, H⟩ : ∃ g, v = .pointer (some ⟨g, 0, none⟩) ∧ Blk w1 g 29 (El_cells 0) := h
      exact ⟨g, e, H.below' hb⟩
  · intro j hj
    simp only [List.map_cons, List.map_nil, List.mem_cons, List.not_mem_nil, or_false] at hj
    rcases hj with rfl | rfl | rfl | rfl
    · refine job_frame [] (by kernel_rfl) ?_
      show JobAt _ _ _ _ _ _ _
      intro W K hS' hK
      unfold wpOp
      go_simp
      left
      refine (of_v l0 f0 hl0 E0 HE0.out _).mono ?_
      rintro e v ⟨rfl, b⟩
      exact hK _ _ rfl b (fun g hg => ((block_agg _) g hg).elim)
    · refine job_frame [] (by kernel_rfl) ?_
      show JobAt _ _ _ _ _ _ _
      intro W K hS' hK
      unfold wpOp
      go_simp
      left
      refine (of_v l1 f1 hl1 E1 HE1.out _).mono ?_
      rintro e v ⟨rfl, b⟩
      exact hK _ _ rfl b (fun g hg => ((block_agg _) g hg).elim)
    · refine job_frame [] (by kernel_rfl) ?_
      show JobAt _ _ _ _ _ _ _
      exact job_alloc 29 (El_cells 0) _ _ rfl rfl rfl (fun W => by go_simp; rfl)
    · refine job_frame [] (by kernel_rfl) ?_
      show JobAt _ _ _ _ _ _ _
      exact job_alloc 29 (El_cells 0) _ _ rfl rfl rfl (fun W => by go_simp; rfl)
  · intro f W hS2 hB1 hR hF hA
    have e1 : f 1 = (El E0) := hR ⟨1, 13⟩ (by simp)
    have e3 : f 3 = (El E1) := hR ⟨3, 15⟩ (by simp)
    obtain ⟨g4, e4, A4⟩ : ∃ g, f 4 = .pointer (some ⟨g, 0, none⟩) ∧ Blk W g 29 (El_cells 0) := hR ⟨4, 5⟩ (by simp)
    have n4 : _ ≤ g4 := (hF ⟨4, 5⟩ (by simp) g4 (by show blockOf (f 4) = _; rw [e4]; rfl)).1
    obtain ⟨g5, e5, A5⟩ : ∃ g, f 5 = .pointer (some ⟨g, 0, none⟩) ∧ Blk W g 29 (El_cells 0) := hR ⟨5, 6⟩ (by simp)
    have n5 : _ ≤ g5 := (hF ⟨5, 6⟩ (by simp) g5 (by show blockOf (f 5) = _; rw [e5]; rfl)).1
    have d4_5 : g4 ≠ g5 := fun h => hA ⟨4, 5⟩ (by simp) ⟨5, 6⟩ (by simp) (by decide) g4 (by show blockOf (f 4) = _; rw [e4]; rfl) (by show blockOf (f 5) = _; rw [e5, h]; rfl)
    clear hA hF hR
    simp only [setAll, putAll, List.map_cons, List.map_nil, List.foldr_cons, List.foldr_nil, Act.put, List.setIfInBounds_toArray, List.set_cons_zero, List.set_cons_succ, e1, e3, e4, e5]
    clear e1 e3 e4 e5
    have hBs := hB1
    replace hB1 := below_setRow hB1 n4 (El_cells E0)
    refine wpAnyZ_store_row 6 rfl (by kernel_rfl) rfl _ _ _ rfl g4 (El_cells E0) rfl rfl _ _ A4 (info_El _) rfl (El_one _) (hS.below hB1) ?_
    try simp only [Act.put, List.setIfInBounds_toArray, List.set_cons_zero, List.set_cons_succ]
    replace A5 := A5.rowFar (Ne.symm d4_5) (El_cells E0)
    replace A4 := A4.row (El_cells E0)
    replace hB1 := below_setRow hB1 n5 (El_cells E1)
    refine wpAnyZ_store_row 7 rfl (by kernel_rfl) rfl _ _ _ rfl g5 (El_cells E1) rfl rfl _ _ A5 (info_El _) rfl (El_one _) (hS.below hB1) ?_
    try simp only [Act.put, List.setIfInBounds_toArray, List.set_cons_zero, List.set_cons_succ]
    replace A4 := A4.rowFar d4_5 (El_cells E1)
    replace A5 := A5.row (El_cells E1)
    refine wpAnyZ_done (by kernel_rfl) ?_ _
    have hS3 := hS.below hB1
    replace hB := hB.trans (hB1.mono hB.size)
    clear hS hS2 hB1 hBs
    have hS : Facts [.blk (g4) 29 (El_cells E0), .blk (g5) 29 (El_cells E1), .blk (w.heap.size) 23 (Iv .u8 l0), .blk (w.heap.size + 1) 23 (Iv .u8 l1)] _ := Facts.cons (f := .blk g4 29 (El_cells E0)) A4 (Facts.cons (f := .blk g5 29 (El_cells E1)) A5 (hS3))
    clear hS3
    try clear n4 n5
    clear A4 A5
    generalize hWn : World.setRow _ _ _ = Wn at *
    clear hWn
    go_upto_region 4 with fail
    replace hS := hS.drew
    replace hB := below_drew hB
    refine wp_region_Z (S := Facts [.blk (g4) 29 (El_cells E0), .blk (g5) 29 (El_cells E1), .blk (w.heap.size) 23 (Iv .u8 l0), .blk (w.heap.size + 1) 23 (Iv .u8 l1)]) 5 (by kernel_rfl) ?_
    refine wpAnyZ_takeL 0 rfl (by kernel_rfl) (by kernel_rfl) (by kernel_rfl) (by kernel_rfl) (by kernel_rfl) (fun _ _ _ h => h) (show YieldsIf _ _ _ _ (Key l0) _ from yieldsIf_load rfl 23 _ rfl (w.heap.size) rfl 23 _ _ (.tail _ (.tail _ (.head _))) Try.underlying23 rfl (info_key _ hl0.len)) hS ?_
    simp only [Act.put, List.setIfInBounds_toArray, List.set_cons_zero, List.set_cons_succ]
    refine wpAnyZ_takeL 2 rfl (by kernel_rfl) (by kernel_rfl) (by kernel_rfl) (by kernel_rfl) (by kernel_rfl) (fun _ _ _ h => h) (show YieldsIf _ _ _ _ (Key l1) _ from yieldsIf_load rfl 23 _ rfl (w.heap.size + 1) rfl 23 _ _ (.tail _ (.tail _ (.tail _ (.head _)))) Try.underlying23 rfl (info_key _ hl1.len)) hS ?_
    simp only [Act.put, List.setIfInBounds_toArray, List.set_cons_zero, List.set_cons_succ]
    refine wpAnyZ_one (i := 1) (by kernel_rfl) ?_
    unfold wpOp
    go_simp
    left
    refine (place_v l0 f0 hl0 E0 HE0.out _).mono ?_
    rintro e v1 ⟨r1, rfl, Hr1, b⟩
    replace hB := hB.trans (b.mono hB.size)
    replace hS := hS.below b
    clear b
    refine ⟨hS, ?_⟩
    refine wpAnyZ_one (i := 3) (by kernel_rfl) ?_
    unfold wpOp
    go_simp
    left
    refine (place_v l1 f1 hl1 E1 HE1.out _).mono ?_
    rintro e v2 ⟨r2, rfl, Hr2, b⟩
    replace hB := hB.trans (b.mono hB.size)
    replace hS := hS.below b
    replace Hr1 := Hr1.below b
    clear b
    refine ⟨hS, ?_⟩
    refine wpAnyZ_takeL 4 rfl (by kernel_rfl) (by kernel_rfl) (by kernel_rfl) (by kernel_rfl) (by kernel_rfl) (fun _ _ _ h => h) (yieldsIf_assign rfl _ rfl _ rfl) hS ?_
    simp only [Act.put, List.setIfInBounds_toArray, List.set_cons_zero, List.set_cons_succ]
    refine wpAnyZ_one (i := 5) (by kernel_rfl) ?_
    unfold wpOp
    go_simp
    left
    refine wpAnyZ_done (by kernel_rfl) ?_ _
    go_upto_region 5 with fail
    refine wp_region_seq ?_
    refine wpSeq_wp rfl ?_
    go_simp
    refine (num_w 0 E2 (by decide) HE2.out _).mono ?_
    rintro e v3 ⟨r3, rfl, Hr3, b⟩
    replace hB := hB.trans (b.mono hB.size)
    replace hS := hS.below b
    replace Hr1 := Hr1.below b
    replace Hr2 := Hr2.below b
    clear b
    show wpSeq _ _ _ _ _ _
    refine wpSeq_yield (S := Facts [.blk (g4) 29 (El_cells E0), .blk (g5) 29 (El_cells E1), .blk (w.heap.size) 23 (Iv .u8 l0), .blk (w.heap.size + 1) 23 (Iv .u8 l1)]) (yieldsIf_assign rfl _ rfl _ rfl) hS ?_
    simp only [Act.put, List.setIfInBounds_toArray, List.set_cons_zero, List.set_cons_succ]
    refine wpSeq_nil ?_
    go_upto_region 6 with fail
    refine wp_region_seq ?_
    refine wpSeq_yield (S := Facts [.blk (g4) 29 (El_cells E0), .blk (g5) 29 (El_cells E1), .blk (w.heap.size) 23 (Iv .u8 l0), .blk (w.heap.size + 1) 23 (Iv .u8 l1)]) (show YieldsIf _ _ _ _ (El E0) _ from yieldsIf_load rfl 29 _ rfl (g4) rfl 29 _ _ (.head _) Try.underlying29 rfl (info_El _)) hS ?_
    simp only [Act.put, List.setIfInBounds_toArray, List.set_cons_zero, List.set_cons_succ]
    refine wpSeq_yield (S := Facts [.blk (g4) 29 (El_cells E0), .blk (g5) 29 (El_cells E1), .blk (w.heap.size) 23 (Iv .u8 l0), .blk (w.heap.size + 1) 23 (Iv .u8 l1)]) (show YieldsIf _ _ _ _ (El E1) _ from yieldsIf_load rfl 29 _ rfl (g5) rfl 29 _ _ (.tail _ (.head _)) Try.underlying29 rfl (info_El _)) hS ?_
    simp only [Act.put, List.setIfInBounds_toArray, List.set_cons_zero, List.set_cons_succ]
    refine wpSeq_wp rfl ?_
    go_simp
    refine (add_v E0 E1 E3 _ lE0 lE1 HE3.out).mono ?_
    rintro e v4 ⟨rfl, b⟩
    replace hB := hB.trans (b.mono hB.size)
    replace hS := hS.below b
    replace Hr1 := Hr1.below b
    replace Hr2 := Hr2.below b
    replace Hr3 := Hr3.below b
    clear b
    show wpSeq _ _ _ _ _ _
    refine wpSeq_wp rfl ?_
    go_simp
    refine (bytes_v E3 _ lE3).mono ?_
    rintro e v5 ⟨rfl, b⟩
    replace hB := hB.trans (b.mono hB.size)
    replace hS := hS.below b
    replace Hr1 := Hr1.below b
    replace Hr2 := Hr2.below b
    replace Hr3 := Hr3.below b
    clear b
    show wpSeq _ _ _ _ _ _
    refine wpSeq_yield (S := Facts [.blk (g4) 29 (El_cells E0), .blk (g5) 29 (El_cells E1), .blk (w.heap.size) 23 (Iv .u8 l0), .blk (w.heap.size + 1) 23 (Iv .u8 l1)]) (yieldsIf_move rfl _ rfl _ rfl) hS ?_
    simp only [Act.put, List.setIfInBounds_toArray, List.set_cons_zero, List.set_cons_succ]
    refine wpSeq_yield (S := Facts [.blk (g4) 29 (El_cells E0), .blk (g5) 29 (El_cells E1), .blk (w.heap.size) 23 (Iv .u8 l0), .blk (w.heap.size + 1) 23 (Iv .u8 l1)]) (yieldsIf_move rfl _ rfl _ rfl) hS ?_
    simp only [Act.put, List.setIfInBounds_toArray, List.set_cons_zero, List.set_cons_succ]
    refine wpSeq_wp rfl ?_
    go_simp
    refine (radd_v _ _ E0 E1 E3 _ Hr1 Hr2 HE3.out).mono ?_
    rintro e v6 ⟨r6, rfl, Hr6, b⟩
    replace hB := hB.trans (b.mono hB.size)
    replace hS := hS.below b
    replace Hr1 := Hr1.below b
    replace Hr2 := Hr2.below b
    replace Hr3 := Hr3.below b
    clear b
    show wpSeq _ _ _ _ _ _
    refine wpSeq_wp rfl ?_
    go_simp
    refine (rkey_v _ E3 _ Hr6).mono ?_
    rintro e v7 ⟨rfl, b⟩
    replace hB := hB.trans (b.mono hB.size)
    replace hS := hS.below b
    replace Hr1 := Hr1.below b
    replace Hr2 := Hr2.below b
    replace Hr3 := Hr3.below b
    replace Hr6 := Hr6.below b
    clear b
    show wpSeq _ _ _ _ _ _
    refine wpSeq_yield (S := Facts [.blk (g4) 29 (El_cells E0), .blk (g5) 29 (El_cells E1), .blk (w.heap.size) 23 (Iv .u8 l0), .blk (w.heap.size + 1) 23 (Iv .u8 l1)]) (yieldsIf_eql rfl 23 _ _ _ rfl _ _ rfl rfl eqg_api_Key true (key_eq _ _ rfl)) hS ?_
    simp only [Act.put, List.setIfInBounds_toArray, List.set_cons_zero, List.set_cons_succ]
    refine wpSeq_yield (S := Facts [.blk (g4) 29 (El_cells E0), .blk (g5) 29 (El_cells E1), .blk (w.heap.size) 23 (Iv .u8 l0), .blk (w.heap.size + 1) 23 (Iv .u8 l1)]) (yieldsIf_move rfl _ rfl _ rfl) hS ?_
    simp only [Act.put, List.setIfInBounds_toArray, List.set_cons_zero, List.set_cons_succ]
    refine wpSeq_yield (S := Facts [.blk (g4) 29 (El_cells E0), .blk (g5) 29 (El_cells E1), .blk (w.heap.size) 23 (Iv .u8 l0), .blk (w.heap.size + 1) 23 (Iv .u8 l1)]) (show YieldsIf _ _ _ _ (El E0) _ from yieldsIf_load rfl 29 _ rfl (g4) rfl 29 _ _ (.head _) Try.underlying29 rfl (info_El _)) hS ?_
    simp only [Act.put, List.setIfInBounds_toArray, List.set_cons_zero, List.set_cons_succ]
    refine wpSeq_yield (S := Facts [.blk (g4) 29 (El_cells E0), .blk (g5) 29 (El_cells E1), .blk (w.heap.size) 23 (Iv .u8 l0), .blk (w.heap.size + 1) 23 (Iv .u8 l1)]) (show YieldsIf _ _ _ _ (El E1) _ from yieldsIf_load rfl 29 _ rfl (g5) rfl 29 _ _ (.tail _ (.head _)) Try.underlying29 rfl (info_El _)) hS ?_
    simp only [Act.put, List.setIfInBounds_toArray, List.set_cons_zero, List.set_cons_succ]
    refine wpSeq_wp rfl ?_
    go_simp
    refine (sub_v E0 E1 E4 _ lE0 lE1 HE4.out).mono ?_
    rintro e v8 ⟨rfl, b⟩
    replace hB := hB.trans (b.mono hB.size)
    replace hS := hS.below b
    replace Hr1 := Hr1.below b
    replace Hr2 := Hr2.below b
    replace Hr3 := Hr3.below b
    replace Hr6 := Hr6.below b
    clear b
    show wpSeq _ _ _ _ _ _
    refine wpSeq_wp rfl ?_
    go_simp
    refine (bytes_v E4 _ lE4).mono ?_
    rintro e v9 ⟨rfl, b⟩
    replace hB := hB.trans (b.mono hB.size)
    replace hS := hS.below b
    replace Hr1 := Hr1.below b
    replace Hr2 := Hr2.below b
    replace Hr3 := Hr3.below b
    replace Hr6 := Hr6.below b
    clear b
    show wpSeq _ _ _ _ _ _
    refine wpSeq_yield (S := Facts [.blk (g4) 29 (El_cells E0), .blk (g5) 29 (El_cells E1), .blk (w.heap.size) 23 (Iv .u8 l0), .blk (w.heap.size + 1) 23 (Iv .u8 l1)]) (yieldsIf_move rfl _ rfl _ rfl) hS ?_
    simp only [Act.put, List.setIfInBounds_toArray, List.set_cons_zero, List.set_cons_succ]
    refine wpSeq_yield (S := Facts [.blk (g4) 29 (El_cells E0), .blk (g5) 29 (El_cells E1), .blk (w.heap.size) 23 (Iv .u8 l0), .blk (w.heap.size + 1) 23 (Iv .u8 l1)]) (yieldsIf_move rfl _ rfl _ rfl) hS ?_
    simp only [Act.put, List.setIfInBounds_toArray, List.set_cons_zero, List.set_cons_succ]
    refine wpSeq_wp rfl ?_
    go_simp
    refine (rsub_v _ _ E0 E1 E4 _ Hr1 Hr2 lE1 HE4.out).mono ?_
    rintro e v10 ⟨r10, rfl, Hr10, b⟩
    replace hB := hB.trans (b.mono hB.size)
    replace hS := hS.below b
    replace Hr1 := Hr1.below b
    replace Hr2 := Hr2.below b
    replace Hr3 := Hr3.below b
    replace Hr6 := Hr6.below b
    clear b
    show wpSeq _ _ _ _ _ _
    refine wpSeq_wp rfl ?_
    go_simp
    refine (rkey_v _ E4 _ Hr10).mono ?_
    rintro e v11 ⟨rfl, b⟩
    replace hB := hB.trans (b.mono hB.size)
    replace hS := hS.below b
    replace Hr1 := Hr1.below b
    replace Hr2 := Hr2.below b
    replace Hr3 := Hr3.below b
    replace Hr6 := Hr6.below b
    replace Hr10 := Hr10.below b
    clear b
    show wpSeq _ _ _ _ _ _
    refine wpSeq_yield (S := Facts [.blk (g4) 29 (El_cells E0), .blk (g5) 29 (El_cells E1), .blk (w.heap.size) 23 (Iv .u8 l0), .blk (w.heap.size + 1) 23 (Iv .u8 l1)]) (yieldsIf_eql rfl 23 _ _ _ rfl _ _ rfl rfl eqg_api_Key true (key_eq _ _ rfl)) hS ?_
    simp only [Act.put, List.setIfInBounds_toArray, List.set_cons_zero, List.set_cons_succ]
    refine wpSeq_yield (S := Facts [.blk (g4) 29 (El_cells E0), .blk (g5) 29 (El_cells E1), .blk (w.heap.size) 23 (Iv .u8 l0), .blk (w.heap.size + 1) 23 (Iv .u8 l1)]) (yieldsIf_pick rfl _ _ _ rfl true rfl _ rfl) hS ?_
    simp only [Act.put, List.setIfInBounds_toArray, List.set_cons_zero, List.set_cons_succ]
    refine wpSeq_yield (S := Facts [.blk (g4) 29 (El_cells E0), .blk (g5) 29 (El_cells E1), .blk (w.heap.size) 23 (Iv .u8 l0), .blk (w.heap.size + 1) 23 (Iv .u8 l1)]) (yieldsIf_move rfl _ rfl _ rfl) hS ?_
    simp only [Act.put, List.setIfInBounds_toArray, List.set_cons_zero, List.set_cons_succ]
    refine wpSeq_yield (S := Facts [.blk (g4) 29 (El_cells E0), .blk (g5) 29 (El_cells E1), .blk (w.heap.size) 23 (Iv .u8 l0), .blk (w.heap.size + 1) 23 (Iv .u8 l1)]) (show YieldsIf _ _ _ _ (El E0) _ from yieldsIf_load rfl 29 _ rfl (g4) rfl 29 _ _ (.head _) Try.underlying29 rfl (info_El _)) hS ?_
    simp only [Act.put, List.setIfInBounds_toArray, List.set_cons_zero, List.set_cons_succ]
    refine wpSeq_wp rfl ?_
    go_simp
    refine (neg_v E0 E5 _ lE0 HE5.out).mono ?_
    rintro e v12 ⟨rfl, b⟩
    replace hB := hB.trans (b.mono hB.size)
    replace hS := hS.below b
    replace Hr1 := Hr1.below b
    replace Hr2 := Hr2.below b
    replace Hr3 := Hr3.below b
    replace Hr6 := Hr6.below b
    replace Hr10 := Hr10.below b
    clear b
    show wpSeq _ _ _ _ _ _
    refine wpSeq_wp rfl ?_
    go_simp
    refine (bytes_v E5 _ lE5).mono ?_
    rintro e v13 ⟨rfl, b⟩
    replace hB := hB.trans (b.mono hB.size)
    replace hS := hS.below b
    replace Hr1 := Hr1.below b
    replace Hr2 := Hr2.below b
    replace Hr3 := Hr3.below b
    replace Hr6 := Hr6.below b
    replace Hr10 := Hr10.below b
    clear b
    show wpSeq _ _ _ _ _ _
    refine wpSeq_yield (S := Facts [.blk (g4) 29 (El_cells E0), .blk (g5) 29 (El_cells E1), .blk (w.heap.size) 23 (Iv .u8 l0), .blk (w.heap.size + 1) 23 (Iv .u8 l1)]) (yieldsIf_move rfl _ rfl _ rfl) hS ?_
    simp only [Act.put, List.setIfInBounds_toArray, List.set_cons_zero, List.set_cons_succ]
    refine wpSeq_yield (S := Facts [.blk (g4) 29 (El_cells E0), .blk (g5) 29 (El_cells E1), .blk (w.heap.size) 23 (Iv .u8 l0), .blk (w.heap.size + 1) 23 (Iv .u8 l1)]) (yieldsIf_move rfl _ rfl _ rfl) hS ?_
    simp only [Act.put, List.setIfInBounds_toArray, List.set_cons_zero, List.set_cons_succ]
    refine wpSeq_wp rfl ?_
    go_simp
    refine (rsub_v _ _ E2 E0 E6 _ Hr3 Hr1 lE0 HE6.out).mono ?_
    rintro e v14 ⟨r14, rfl, Hr14, b⟩
    replace hB := hB.trans (b.mono hB.size)
    replace hS := hS.below b
    replace Hr1 := Hr1.below b
    replace Hr2 := Hr2.below b
    replace Hr3 := Hr3.below b
    replace Hr6 := Hr6.below b
    replace Hr10 := Hr10.below b
    clear b
    show wpSeq _ _ _ _ _ _
    refine wpSeq_wp rfl ?_
    go_simp
    refine (rkey_v _ E6 _ Hr14).mono ?_
    rintro e v15 ⟨rfl, b⟩
    replace hB := hB.trans (b.mono hB.size)
    replace hS := hS.below b
    replace Hr1 := Hr1.below b
    replace Hr2 := Hr2.below b
    replace Hr3 := Hr3.below b
    replace Hr6 := Hr6.below b
    replace Hr10 := Hr10.below b
    replace Hr14 := Hr14.below b
    clear b
    show wpSeq _ _ _ _ _ _
    refine wpSeq_yield (S := Facts [.blk (g4) 29 (El_cells E0), .blk (g5) 29 (El_cells E1), .blk (w.heap.size) 23 (Iv .u8 l0), .blk (w.heap.size + 1) 23 (Iv .u8 l1)]) (yieldsIf_eql rfl 23 _ _ _ rfl _ _ rfl rfl eqg_api_Key true (key_eq _ _ (by rw [HE5.out, HE6.out, HE2.out, Nat.zero_add]))) hS ?_
    simp only [Act.put, List.setIfInBounds_toArray, List.set_cons_zero, List.set_cons_succ]
    refine wpSeq_yield (S := Facts [.blk (g4) 29 (El_cells E0), .blk (g5) 29 (El_cells E1), .blk (w.heap.size) 23 (Iv .u8 l0), .blk (w.heap.size + 1) 23 (Iv .u8 l1)]) (yieldsIf_pick rfl _ _ _ rfl true rfl _ rfl) hS ?_
    simp only [Act.put, List.setIfInBounds_toArray, List.set_cons_zero, List.set_cons_succ]
    refine wpSeq_yield (S := Facts [.blk (g4) 29 (El_cells E0), .blk (g5) 29 (El_cells E1), .blk (w.heap.size) 23 (Iv .u8 l0), .blk (w.heap.size + 1) 23 (Iv .u8 l1)]) (yieldsIf_move rfl _ rfl _ rfl) hS ?_
    simp only [Act.put, List.setIfInBounds_toArray, List.set_cons_zero, List.set_cons_succ]
    refine wpSeq_yield (S := Facts [.blk (g4) 29 (El_cells E0), .blk (g5) 29 (El_cells E1), .blk (w.heap.size) 23 (Iv .u8 l0), .blk (w.heap.size + 1) 23 (Iv .u8 l1)]) (show YieldsIf _ _ _ _ (El E0) _ from yieldsIf_load rfl 29 _ rfl (g4) rfl 29 _ _ (.head _) Try.underlying29 rfl (info_El _)) hS ?_
    simp only [Act.put, List.setIfInBounds_toArray, List.set_cons_zero, List.set_cons_succ]
    refine wpSeq_yield (S := Facts [.blk (g4) 29 (El_cells E0), .blk (g5) 29 (El_cells E1), .blk (w.heap.size) 23 (Iv .u8 l0), .blk (w.heap.size + 1) 23 (Iv .u8 l1)]) (show YieldsIf _ _ _ _ (El E1) _ from yieldsIf_load rfl 29 _ rfl (g5) rfl 29 _ _ (.tail _ (.head _)) Try.underlying29 rfl (info_El _)) hS ?_
    simp only [Act.put, List.setIfInBounds_toArray, List.set_cons_zero, List.set_cons_succ]
    refine wpSeq_wp rfl ?_
    go_simp
    refine (mul_v E0 E1 E7 _ lE0 lE1 HE7.out).mono ?_
    rintro e v16 ⟨rfl, b⟩
    replace hB := hB.trans (b.mono hB.size)
    replace hS := hS.below b
    replace Hr1 := Hr1.below b
    replace Hr2 := Hr2.below b
    replace Hr3 := Hr3.below b
    replace Hr6 := Hr6.below b
    replace Hr10 := Hr10.below b
    replace Hr14 := Hr14.below b
    clear b
    show wpSeq _ _ _ _ _ _
    refine wpSeq_wp rfl ?_
    go_simp
    refine (bytes_v E7 _ lE7).mono ?_
    rintro e v17 ⟨rfl, b⟩
    replace hB := hB.trans (b.mono hB.size)
    replace hS := hS.below b
    replace Hr1 := Hr1.below b
    replace Hr2 := Hr2.below b
    replace Hr3 := Hr3.below b
    replace Hr6 := Hr6.below b
    replace Hr10 := Hr10.below b
    replace Hr14 := Hr14.below b
    clear b
    show wpSeq _ _ _ _ _ _
    refine wpSeq_yield (S := Facts [.blk (g4) 29 (El_cells E0), .blk (g5) 29 (El_cells E1), .blk (w.heap.size) 23 (Iv .u8 l0), .blk (w.heap.size + 1) 23 (Iv .u8 l1)]) (yieldsIf_move rfl _ rfl _ rfl) hS ?_
    simp only [Act.put, List.setIfInBounds_toArray, List.set_cons_zero, List.set_cons_succ]
    refine wpSeq_yield (S := Facts [.blk (g4) 29 (El_cells E0), .blk (g5) 29 (El_cells E1), .blk (w.heap.size) 23 (Iv .u8 l0), .blk (w.heap.size + 1) 23 (Iv .u8 l1)]) (yieldsIf_move rfl _ rfl _ rfl) hS ?_
    simp only [Act.put, List.setIfInBounds_toArray, List.set_cons_zero, List.set_cons_succ]
    refine wpSeq_wp rfl ?_
    go_simp
    refine (rmul_v _ _ E0 E1 E7 _ Hr1 Hr2 HE7.out).mono ?_
    rintro e v18 ⟨r18, rfl, Hr18, b⟩
    replace hB := hB.trans (b.mono hB.size)
    replace hS := hS.below b
    replace Hr1 := Hr1.below b
    replace Hr2 := Hr2.below b
    replace Hr3 := Hr3.below b
    replace Hr6 := Hr6.below b
    replace Hr10 := Hr10.below b
    replace Hr14 := Hr14.below b
    clear b
    show wpSeq _ _ _ _ _ _
    refine wpSeq_wp rfl ?_
    go_simp
    refine (rkey_v _ E7 _ Hr18).mono ?_
    rintro e v19 ⟨rfl, b⟩
    replace hB := hB.trans (b.mono hB.size)
    replace hS := hS.below b
    replace Hr1 := Hr1.below b
    replace Hr2 := Hr2.below b
    replace Hr3 := Hr3.below b
    replace Hr6 := Hr6.below b
    replace Hr10 := Hr10.below b
    replace Hr14 := Hr14.below b
    replace Hr18 := Hr18.below b
    clear b
    show wpSeq _ _ _ _ _ _
    refine wpSeq_yield (S := Facts [.blk (g4) 29 (El_cells E0), .blk (g5) 29 (El_cells E1), .blk (w.heap.size) 23 (Iv .u8 l0), .blk (w.heap.size + 1) 23 (Iv .u8 l1)]) (yieldsIf_eql rfl 23 _ _ _ rfl _ _ rfl rfl eqg_api_Key true (key_eq _ _ rfl)) hS ?_
    simp only [Act.put, List.setIfInBounds_toArray, List.set_cons_zero, List.set_cons_succ]
    refine wpSeq_yield (S := Facts [.blk (g4) 29 (El_cells E0), .blk (g5) 29 (El_cells E1), .blk (w.heap.size) 23 (Iv .u8 l0), .blk (w.heap.size + 1) 23 (Iv .u8 l1)]) (yieldsIf_pick rfl _ _ _ rfl true rfl _ rfl) hS ?_
    simp only [Act.put, List.setIfInBounds_toArray, List.set_cons_zero, List.set_cons_succ]
    refine wpSeq_yield (S := Facts [.blk (g4) 29 (El_cells E0), .blk (g5) 29 (El_cells E1), .blk (w.heap.size) 23 (Iv .u8 l0), .blk (w.heap.size + 1) 23 (Iv .u8 l1)]) (yieldsIf_assign rfl _ rfl _ rfl) hS ?_
    simp only [Act.put, List.setIfInBounds_toArray, List.set_cons_zero, List.set_cons_succ]
    refine wpSeq_nil ?_
    go_wp2
    go_ret
    exact ⟨rfl, hB⟩
end Go.Proofs.Ytknmmjnkafmoaaa
