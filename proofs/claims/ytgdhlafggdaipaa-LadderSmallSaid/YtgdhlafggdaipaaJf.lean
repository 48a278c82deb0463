/- The contract of ladder.Mul (printed by lawmul.py). -/
import Derived.Test.YtgdhlafggdaipaaJd
import Derived.Test.YtgdhlafggdaipaaJe
namespace Go.Proofs.Ytgdhlafggdaipaa
open Go.RowKit

set_option maxHeartbeats 8000000 in
set_option maxRecDepth 100000 in
theorem mul_key (l0 l1 : List Int) (f0 f1 : Nat → Nat) (hl0 : Bytes32 l0 f0) (hl1 : Bytes32 l1 f1) (w : World) :
    Calls Try.prog 11 #[Key l0, Key l1] w fun e w' => e = .returned (Key (keyOf (ladN (leTo (clF f0) 32) (leTo f1 32 % 57896044618658097711785492504343953926634992332820282019728792003956564819968 % pp)))) ∧ Below w.heap.size w w' := by
  have cc := fun W => clamp_any l0 f0 hl0 W
  have hcl := clL_bytes hl0
  obtain ⟨CL, hCL⟩ : ∃ r, r = clL l0 f0 := ⟨_, rfl⟩
  rw [← hCL] at cc hcl
  have CC := Lib.hid cc
  have len_CL := hcl.len
  clear cc hCL
  obtain ⟨E0, hE0⟩ : ∃ r, r = leTo f1 32 % 57896044618658097711785492504343953926634992332820282019728792003956564819968 % pp := ⟨_, rfl⟩
  have lE0 : E0 < pp := hE0 ▸ Nat.mod_lt _ pp_pos
  have HE0 := Lib.hid hE0
  clear hE0
  obtain ⟨E1, hE1⟩ : ∃ r, r = 1 := ⟨_, rfl⟩
  have lE1 : E1 < pp := hE1 ▸ by rw [pp_eq]; decide
  have HE1 := Lib.hid hE1
  clear hE1
  rw [← HE0.out]
  unfold Key
  go_enter Try.func11, Try.ntmps11
  go_upto_region 1 with fail
  generalize hW : World.alloc (World.alloc (World.alloc w _) _) _ = W
  have hB : Below w.heap.size w W := hW ▸ (((Below.refl w.heap.size w).alloc (Nat.le_refl _) _).alloc (by simp) _).alloc (by simp; omega) _
  have K0 : Blk W (w.heap.size) 23 (Iv .u8 l0) := hW ▸ ((Blk.new' (by simp) _ _).alloc _).alloc _
  have K1 : Blk W (w.heap.size + 1) 23 (Iv .u8 l1) := hW ▸ ((Blk.new' (by simp) _ _).alloc _)
  have K2 : Blk W (w.heap.size + 1 + 1) 23 (Iv .u8 (List.replicate 32 0)) := hW ▸ (Blk.new' (by simp) _ _)
  have hS : Facts [.blk (w.heap.size) 23 (Iv .u8 l0), .blk (w.heap.size + 1) 23 (Iv .u8 l1)] W := Facts.cons (f := .blk (w.heap.size) 23 (Iv .u8 l0)) K0 (Facts.cons (f := .blk (w.heap.size + 1) 23 (Iv .u8 l1)) K1 (Facts.nil))
  clear hW K0 K1
  replace hS := hS.drew
  replace hB := below_drew hB
  replace K2 := K2.drew
  refine wp_region_Z (S := Facts [.blk (w.heap.size) 23 (Iv .u8 l0), .blk (w.heap.size + 1) 23 (Iv .u8 l1)]) 7 (by kernel_rfl) ?_
  refine wpAnyZ_takeL 0 rfl (by kernel_rfl) (by kernel_rfl) (by kernel_rfl) (by kernel_rfl) (by kernel_rfl) (fun _ _ _ h => h) (show YieldsIf _ _ _ _ (Key l0) _ from yieldsIf_load rfl 23 _ rfl (w.heap.size) rfl 23 _ _ (.head _) Try.underlying23 rfl (info_key _ hl0.len)) hS ?_
  simp only [Act.put, List.setIfInBounds_toArray, List.set_cons_zero, List.set_cons_succ]
  refine wpAnyZ_takeL 2 rfl (by kernel_rfl) (by kernel_rfl) (by kernel_rfl) (by kernel_rfl) (by kernel_rfl) (fun _ _ _ h => h) (show YieldsIf _ _ _ _ (Key l1) _ from yieldsIf_load rfl 23 _ rfl (w.heap.size + 1) rfl 23 _ _ (.tail _ (.head _)) Try.underlying23 rfl (info_key _ hl1.len)) hS ?_
  simp only [Act.put, List.setIfInBounds_toArray, List.set_cons_zero, List.set_cons_succ]
  refine wpAnyZ_jobsL [(⟨1, 12⟩, .is (Key CL)), (⟨3, 14⟩, .is (El E0)), (⟨4, 5⟩, .rel (fun v w' => ∃ g, v = .pointer (some ⟨g, 0, none⟩) ∧ Blk w' g 23 (Iv .u8 (List.replicate 32 0)))), (⟨5, 6⟩, .rel (fun v w' => ∃ g, v = .pointer (some ⟨g, 0, none⟩) ∧ Blk w' g 46 (El_cells 0)))] [] 2 _ _ _ (by kernel_rfl) (fun _ _ _ _ _ h => h) ?_ (fun _ _ _ _ _ h => h) (fun _ _ h hb => h.below hb) hS ?_ ?_ ?_
  · exact fun _ _ h => by cases h
  · intro j hj
    simp only [List.map_cons, List.map_nil, List.mem_cons, List.not_mem_nil, or_false] at hj
    rcases hj with rfl | rfl | rfl | rfl
    · exact fun _ _ _ h _ => h
    · exact fun _ _ _ h _ => h
    · intro v w1 w2 h hb
      obtain ⟨g, e, H⟩ : ∃ g, v = .pointer (some ⟨g, 0, none⟩) ∧ Blk w1 g 23 (Iv .u8 (List.replicate 32 0)) := h
      exact ⟨g, e, H.below' hb⟩
    · intro v w1 w2 h hb
      obtain ⟨g, e, H⟩ : ∃ g, v = .pointer (some ⟨g, 0, none⟩) ∧ Blk w1 g 46 (El_cells 0) := h
      exact ⟨g, e, H.below' hb⟩
  · intro j hj
    simp only [List.map_cons, List.map_nil, List.mem_cons, List.not_mem_nil, or_false] at hj
    rcases hj with rfl | rfl | rfl | rfl
    · refine job_frame [] (by kernel_rfl) ?_
      show JobAt _ _ _ _ _ _ _
      simp only [putAll, List.foldr_nil]
      intro W K hS' hK
      unfold wpOp
      go_simp
      left
      refine (CC.out _).mono ?_
      rintro e v ⟨rfl, b⟩
      exact hK _ _ rfl b (fun g hg => ((block_agg _) g hg).elim)
    · refine job_frame [] (by kernel_rfl) ?_
      show JobAt _ _ _ _ _ _ _
      simp only [putAll, List.foldr_nil]
      intro W K hS' hK
      unfold wpOp
      go_simp
      left
      refine (of_v l1 f1 hl1 E0 HE0.out _).mono ?_
      rintro e v ⟨rfl, b⟩
      exact hK _ _ rfl b (fun g hg => ((block_agg _) g hg).elim)
    · refine job_frame [] (by kernel_rfl) ?_
      show JobAt _ _ _ _ _ _ _
      exact job_alloc 23 (Iv .u8 (List.replicate 32 0)) _ _ rfl rfl rfl (fun W => by go_simp; rfl)
    · refine job_frame [] (by kernel_rfl) ?_
      show JobAt _ _ _ _ _ _ _
      exact job_alloc 46 (El_cells 0) _ _ rfl rfl rfl (fun W => by go_simp; rfl)
  · intro f W hS2 hB1 hR hF hA
    have e1 : f 1 = (Key CL) := hR ⟨1, 12⟩ (by simp)
    have e3 : f 3 = (El E0) := hR ⟨3, 14⟩ (by simp)
    obtain ⟨g4r1, e4, A4⟩ : ∃ g, f 4 = .pointer (some ⟨g, 0, none⟩) ∧ Blk W g 23 (Iv .u8 (List.replicate 32 0)) := hR ⟨4, 5⟩ (by simp)
    have n4 : _ ≤ g4r1 := (hF ⟨4, 5⟩ (by simp) g4r1 (by show blockOf (f 4) = _; rw [e4]; rfl)).1
    have m4 : w.heap.size ≤ g4r1 := Nat.le_trans hB.size n4
    have u4 := Nat.lt_of_lt_of_le K2.lt n4
    obtain ⟨g5r1, e5, A5⟩ : ∃ g, f 5 = .pointer (some ⟨g, 0, none⟩) ∧ Blk W g 46 (El_cells 0) := hR ⟨5, 6⟩ (by simp)
    have n5 : _ ≤ g5r1 := (hF ⟨5, 6⟩ (by simp) g5r1 (by show blockOf (f 5) = _; rw [e5]; rfl)).1
    have m5 : w.heap.size ≤ g5r1 := Nat.le_trans hB.size n5
    have u5 := Nat.lt_of_lt_of_le K2.lt n5
    have d4_5 : g4r1 ≠ g5r1 := fun h => hA ⟨4, 5⟩ (by simp) ⟨5, 6⟩ (by simp) (by decide) g4r1 (by show blockOf (f 4) = _; rw [e4]; rfl) (by show blockOf (f 5) = _; rw [e5, h]; rfl)
    clear hA hF hR
    simp only [setAll, putAll, List.map_cons, List.map_nil, List.foldr_cons, List.foldr_nil, Act.put, List.setIfInBounds_toArray, List.set_cons_zero, List.set_cons_succ, e1, e3, e4, e5]
    clear e1 e3 e4 e5
    have hBs := hB1
    replace hB1 := below_setRow hB1 n4 (Iv .u8 CL)
    refine wpAnyZ_store_row 6 rfl (by kernel_rfl) rfl _ _ _ rfl g4r1 (Iv .u8 CL) rfl rfl _ _ A4 (info_key _ len_CL) (by rw [Iv_size, Iv_size, len_CL]; rfl) (Iv_one _ _) (hS.below hB1) ?_
    try simp only [Act.put, List.setIfInBounds_toArray, List.set_cons_zero, List.set_cons_succ]
    replace A5 := A5.rowFar (Ne.symm d4_5) (Iv .u8 CL)
    replace A4 := A4.row (Iv .u8 CL)
    replace hB1 := below_setRow hB1 n5 (El_cells E0)
    refine wpAnyZ_store_row 7 rfl (by kernel_rfl) rfl _ _ _ rfl g5r1 (El_cells E0) rfl rfl _ _ A5 (info_El _) rfl (El_one _) (hS.below hB1) ?_
    try simp only [Act.put, List.setIfInBounds_toArray, List.set_cons_zero, List.set_cons_succ]
    replace A4 := A4.rowFar d4_5 (El_cells E0)
    replace A5 := A5.row (El_cells E0)
    refine wpAnyZ_done (by kernel_rfl) ?_ _
    replace K2 := K2.below' hB1
    have hS3 := hS.below hB1
    replace hB := hB.trans (hB1.mono hB.size)
    clear hS hS2 hB1 hBs
    have hS : Facts [.blk (g4r1) 23 (Iv .u8 CL), .blk (g5r1) 46 (El_cells E0), .blk (w.heap.size) 23 (Iv .u8 l0), .blk (w.heap.size + 1) 23 (Iv .u8 l1)] _ := Facts.cons (f := .blk g4r1 23 (Iv .u8 CL)) A4 (Facts.cons (f := .blk g5r1 46 (El_cells E0)) A5 (hS3))
    clear hS3
    try clear n4 n5
    clear A4 A5
    generalize hWn : World.setRow _ _ _ = Wn at *
    clear hWn
    go_upto_region 2 with fail
    replace hS := hS.drew
    replace hB := below_drew hB
    replace K2 := K2.drew
    refine wp_region_Z (S := Facts [.blk (g4r1) 23 (Iv .u8 CL), .blk (g5r1) 46 (El_cells E0), .blk (w.heap.size) 23 (Iv .u8 l0), .blk (w.heap.size + 1) 23 (Iv .u8 l1)]) 8 (by kernel_rfl) ?_
    refine wpAnyZ_takeL 2 rfl (by kernel_rfl) (by kernel_rfl) (by kernel_rfl) (by kernel_rfl) (by kernel_rfl) (fun _ _ _ h => h) (show YieldsIf _ _ _ _ (El E0) _ from yieldsIf_load rfl 46 _ rfl (g5r1) rfl 46 _ _ (.tail _ (.head _)) Try.underlying46 rfl (info_El _)) hS ?_
    simp only [Act.put, List.setIfInBounds_toArray, List.set_cons_zero, List.set_cons_succ]
    refine wpAnyZ_jobsL [(⟨0, 15⟩, .is (El E1)), (⟨1, 16⟩, .is (RV E1 0)), (⟨3, 18⟩, .is (El E1)), (⟨4, 19⟩, .is (RV E0 E1)), (⟨5, 7⟩, .rel (fun v w' => ∃ g, v = .pointer (some ⟨g, 0, none⟩) ∧ Blk w' g 50 (Rt 0 0))), (⟨6, 8⟩, .rel (fun v w' => ∃ g, v = .pointer (some ⟨g, 0, none⟩) ∧ Blk w' g 50 (Rt 0 0)))] [4] 2 _ _ _ (by kernel_rfl) (fun _ _ _ _ _ h => h) ?_ (fun _ _ _ _ _ h => h) (fun _ _ h hb => h.below hb) hS ?_ ?_ ?_
    · intro j hj hl
      simp only [List.map_cons, List.map_nil, List.mem_cons, List.not_mem_nil, or_false] at hj
      rcases hj with rfl | rfl | rfl | rfl | rfl | rfl
      · exact absurd hl (by decide)
      · exact absurd hl (by decide)
      · exact absurd hl (by decide)
      · refine ⟨_, rfl, yields_frame [⟨3, 18⟩] (by kernel_rfl) ?_, fun _ => rfl, (block_agg _)⟩
        show YieldsIf _ _ _ _ (RV E0 E1) (Act.put _ (some 18) (El E1))
        simp only [Act.put, List.setIfInBounds_toArray, List.set_cons_zero, List.set_cons_succ]
        exact (yieldsIf_rt rfl _ _ rfl E0 E1 rfl rfl)
      · exact absurd hl (by decide)
      · exact absurd hl (by decide)
    · intro j hj
      simp only [List.map_cons, List.map_nil, List.mem_cons, List.not_mem_nil, or_false] at hj
      rcases hj with rfl | rfl | rfl | rfl | rfl | rfl
      · exact fun _ _ _ h _ => h
      · exact fun _ _ _ h _ => h
      · exact fun _ _ _ h _ => h
      · exact fun _ _ _ h _ => h
      · intro v w1 w2 h hb
        obtain ⟨g, e, H⟩ : ∃ g, v = .pointer (some ⟨g, 0, none⟩) ∧ Blk w1 g 50 (Rt 0 0) := h
        exact ⟨g, e, H.below' hb⟩
      · intro v w1 w2 h hb
        obtain ⟨g, e, H⟩ : ∃ g, v = .pointer (some ⟨g, 0, none⟩) ∧ Blk w1 g 50 (Rt 0 0) := h
        exact ⟨g, e, H.below' hb⟩
    · intro j hj
      simp only [List.map_cons, List.map_nil, List.mem_cons, List.not_mem_nil, or_false] at hj
      rcases hj with rfl | rfl | rfl | rfl | rfl | rfl
      · refine job_frame [] (by kernel_rfl) ?_
        show JobAt _ _ _ _ _ _ _
        simp only [putAll, List.foldr_nil]
        intro W K hS' hK
        unfold wpOp
        go_simp
        left
        refine (small_v 1 E1 _ (by decide) HE1.out).mono ?_
        rintro e v ⟨rfl, b⟩
        exact hK _ _ rfl b (fun g hg => ((block_agg _) g hg).elim)
      · refine job_frame [⟨0, 15⟩] (by kernel_rfl) ?_
        show JobAt _ _ _ _ (Act.put _ (some 15) (El E1)) _ _
        simp only [Act.put, List.setIfInBounds_toArray, List.set_cons_zero, List.set_cons_succ]
        exact job_yield rfl rfl (RV E1 0) (block_agg _) (yieldsIf_rt1 rfl _ rfl E1 rfl)
      · refine job_frame [] (by kernel_rfl) ?_
        show JobAt _ _ _ _ _ _ _
        simp only [putAll, List.foldr_nil]
        intro W K hS' hK
        unfold wpOp
        go_simp
        left
        refine (small_v 1 E1 _ (by decide) HE1.out).mono ?_
        rintro e v ⟨rfl, b⟩
        exact hK _ _ rfl b (fun g hg => ((block_agg _) g hg).elim)
      · refine job_frame [⟨3, 18⟩] (by kernel_rfl) ?_
        show JobAt _ _ _ _ (Act.put _ (some 18) (El E1)) _ _
        simp only [Act.put, List.setIfInBounds_toArray, List.set_cons_zero, List.set_cons_succ]
        exact job_yield rfl rfl (RV E0 E1) (block_agg _) (yieldsIf_rt rfl _ _ rfl E0 E1 rfl rfl)
      · refine job_frame [] (by kernel_rfl) ?_
        show JobAt _ _ _ _ _ _ _
        exact job_alloc 50 (Rt 0 0) _ _ rfl rfl rfl (fun W => by go_simp; rfl)
      · refine job_frame [] (by kernel_rfl) ?_
        show JobAt _ _ _ _ _ _ _
        exact job_alloc 50 (Rt 0 0) _ _ rfl rfl rfl (fun W => by go_simp; rfl)
    · intro f W hS2 hB1 hR hF hA
      have e0 : f 0 = (El E1) := hR ⟨0, 15⟩ (by simp)
      have e1 : f 1 = (RV E1 0) := hR ⟨1, 16⟩ (by simp)
      have e3 : f 3 = (El E1) := hR ⟨3, 18⟩ (by simp)
      have e4 : f 4 = (RV E0 E1) := hR ⟨4, 19⟩ (by simp)
      obtain ⟨g5r2, e5, A5⟩ : ∃ g, f 5 = .pointer (some ⟨g, 0, none⟩) ∧ Blk W g 50 (Rt 0 0) := hR ⟨5, 7⟩ (by simp)
      have n5 : _ ≤ g5r2 := (hF ⟨5, 7⟩ (by simp) g5r2 (by show blockOf (f 5) = _; rw [e5]; rfl)).1
      have m5 : w.heap.size ≤ g5r2 := Nat.le_trans hB.size n5
      have u5 := Nat.lt_of_lt_of_le K2.lt n5
      obtain ⟨g6r2, e6, A6⟩ : ∃ g, f 6 = .pointer (some ⟨g, 0, none⟩) ∧ Blk W g 50 (Rt 0 0) := hR ⟨6, 8⟩ (by simp)
      have n6 : _ ≤ g6r2 := (hF ⟨6, 8⟩ (by simp) g6r2 (by show blockOf (f 6) = _; rw [e6]; rfl)).1
      have m6 : w.heap.size ≤ g6r2 := Nat.le_trans hB.size n6
      have u6 := Nat.lt_of_lt_of_le K2.lt n6
      have d5_6 : g5r2 ≠ g6r2 := fun h => hA ⟨5, 7⟩ (by simp) ⟨6, 8⟩ (by simp) (by decide) g5r2 (by show blockOf (f 5) = _; rw [e5]; rfl) (by show blockOf (f 6) = _; rw [e6, h]; rfl)
      clear hA hF hR
      simp only [setAll, putAll, List.map_cons, List.map_nil, List.foldr_cons, List.foldr_nil, Act.put, List.setIfInBounds_toArray, List.set_cons_zero, List.set_cons_succ, e0, e1, e3, e4, e5, e6]
      clear e0 e1 e3 e4 e5 e6
      have hBs := hB1
      replace hB1 := below_setRow hB1 n5 (Rt E1 0)
      refine wpAnyZ_store_row 7 rfl (by kernel_rfl) rfl _ _ _ rfl g5r2 (Rt E1 0) rfl rfl _ _ A5 (info_Rt _ _) rfl (Rt_one _ _) (hS.below hB1) ?_
      try simp only [Act.put, List.setIfInBounds_toArray, List.set_cons_zero, List.set_cons_succ]
      replace A6 := A6.rowFar (Ne.symm d5_6) (Rt E1 0)
      replace A5 := A5.row (Rt E1 0)
      replace hB1 := below_setRow hB1 n6 (Rt E0 E1)
      refine wpAnyZ_store_row 8 rfl (by kernel_rfl) rfl _ _ _ rfl g6r2 (Rt E0 E1) rfl rfl _ _ A6 (info_Rt _ _) rfl (Rt_one _ _) (hS.below hB1) ?_
      try simp only [Act.put, List.setIfInBounds_toArray, List.set_cons_zero, List.set_cons_succ]
      replace A5 := A5.rowFar d5_6 (Rt E0 E1)
      replace A6 := A6.row (Rt E0 E1)
      refine wpAnyZ_done (by kernel_rfl) ?_ _
      replace K2 := K2.below' hB1
      have hS3 := hS.below hB1
      replace hB := hB.trans (hB1.mono hB.size)
      clear hS hS2 hB1 hBs
      have hS : Facts [.blk (g5r2) 50 (Rt E1 0), .blk (g6r2) 50 (Rt E0 E1), .blk (g4r1) 23 (Iv .u8 CL), .blk (g5r1) 46 (El_cells E0), .blk (w.heap.size) 23 (Iv .u8 l0), .blk (w.heap.size + 1) 23 (Iv .u8 l1)] _ := Facts.cons (f := .blk g5r2 50 (Rt E1 0)) A5 (Facts.cons (f := .blk g6r2 50 (Rt E0 E1)) A6 (hS3))
      clear hS3
      try clear n5 n6
      clear A5 A6
      generalize hWn : World.setRow _ _ _ = Wn at *
      clear hWn
      go_upto_region 3 with fail
      generalize hVV : leTo (clF f0) 32 = V at *
      have HVV := Lib.hid hVV
      clear hVV
      have X1 : E1 = 1 := HE1.out
      subst X1
      go_wp2_with fail
      go_loopw [20] (fun i wr => ∃ k : Nat, k ≤ 255 ∧ i = .int .i64 k ∧ Below w.heap.size w wr ∧ Blk wr (w.heap.size + 1 + 1) 23 (Iv .u8 (List.replicate 32 0)) ∧ Facts [.blk (g5r2) 50 (Rt (lad V E0 k).a (lad V E0 k).b), .blk (g6r2) 50 (Rt (lad V E0 k).c (lad V E0 k).d), .blk (g4r1) 23 (Iv .u8 CL), .blk (g5r1) 46 (El_cells E0), .blk (w.heap.size) 23 (Iv .u8 l0), .blk (w.heap.size + 1) 23 (Iv .u8 l1)] wr) (fun i _ => 255 - (intOf i).toNat)
      case atStart => exact ⟨0, by omega, rfl, hB, K2, hS⟩
      case round =>
        obtain ⟨k, hk, rfl, hB, K2, hS⟩ := hrel
        by_cases hlt : k < 255
        · have lok := lad_ok V E0 lE0 k
          have hnext : lad V E0 (k + 1) = lswap (V / 2 ^ (254 - k)) (lstep E0 (lswap (V / 2 ^ (254 - k)) (lad V E0 k))) := rfl
          have lPA := lok.a
          have lPB := lok.b
          have lQA := lok.c
          have lQB := lok.d
          generalize lad V E0 k = s at *
          obtain ⟨PA, PB, QA, QB⟩ := s
          simp only at lPA lPB lQA lQB hS
          clear lok
          obtain ⟨j, hj⟩ : ∃ j, j = 254 - k := ⟨_, rfl⟩
          have i0 : (254 : Int) - (k : Int) = (j : Int) := by omega
          have i1 : IntKind.i64.wrap (j : Int) = (j : Int) := by rw [IntKind.wrap_i64]; omega
          have hj256 : j < 256 := by omega
          have hbyte := hcl.lt (j / 8)
          have hbt : clF f0 (j / 8) / 2 ^ (j % 8) < 18446744073709551616 := Nat.lt_of_le_of_lt (Nat.div_le_self _ _) (by omega)
          have hbm := leTo_bit (clF f0) hcl.lt 32 j (by omega)
          rw [HVV.out] at hbm
          have cB := fun W => bitOf_any CL (clF f0) hcl j hj256 W
          rw [← hj, ← lswap_mod hbm, ← lswap_mod hbm] at hnext
          clear hj hbyte hbm
          generalize clF f0 (j / 8) / 2 ^ (j % 8) = BT at *
          unfold lswap lstep at hnext
          simp only at hnext
          have HN := Lib.hid hnext
          clear hnext
          have CB := Lib.hid cB
          clear cB
          have lS1 := swapped_lt BT _ _ lPA lQA
          have lS2 := swapped_lt BT _ _ lPB lQB
          have lS3 := swapped_lt BT _ _ lQA lPA
          have lS4 := swapped_lt BT _ _ lQB lPB
          have c7 := fun W => rswap_any BT PA PB QA QB hbt lPA lPB lQA lQB W
          obtain ⟨S1, hS1⟩ : ∃ r, r = swapped BT PA QA := ⟨_, rfl⟩
          obtain ⟨S2, hS2⟩ : ∃ r, r = swapped BT PB QB := ⟨_, rfl⟩
          obtain ⟨S3, hS3⟩ : ∃ r, r = swapped BT QA PA := ⟨_, rfl⟩
          obtain ⟨S4, hS4⟩ : ∃ r, r = swapped BT QB PB := ⟨_, rfl⟩
          have hn := HN.out
          rw [← hS1, ← hS2, ← hS3, ← hS4] at hn c7
          rw [← hS1] at lS1
          rw [← hS2] at lS2
          rw [← hS3] at lS3
          rw [← hS4] at lS4
          have C7 := Lib.hid c7
          clear c7 hS1 hS2 hS3 hS4 HN
          have c8 := fun W => rstep_any E0 S1 S2 S3 S4 lE0 lS1 lS2 lS3 lS4 W
          have lT1 : lx2 S1 S2 < pp := fm_lt _ _
          have lT2 : lz2 S1 S2 < pp := fm_lt _ _
          have lT3 : lx3 S1 S2 S3 S4 < pp := fm_lt _ _
          have lT4 : lz3 E0 S1 S2 S3 S4 < pp := fm_lt _ _
          generalize lx2 S1 S2 = T1 at *
          generalize lz2 S1 S2 = T2 at *
          generalize lx3 S1 S2 S3 S4 = T3 at *
          generalize lz3 E0 S1 S2 S3 S4 = T4 at *
          have C8 := Lib.hid c8
          clear c8
          have c9 := fun W => rswap_any BT T1 T2 T3 T4 hbt lT1 lT2 lT3 lT4 W
          generalize swapped BT T1 T3 = U1 at *
          generalize swapped BT T2 T4 = U2 at *
          generalize swapped BT T3 T1 = U3 at *
          generalize swapped BT T4 T2 = U4 at *
          have C9 := Lib.hid c9
          clear c9
          have HN := Lib.hid hn
          clear hn
          go_upto_region 6 with fail
          refine wp_region_seq ?_
          refine wpSeq_yield (S := Facts [.blk (g5r2) 50 (Rt PA PB), .blk (g6r2) 50 (Rt QA QB), .blk (g4r1) 23 (Iv .u8 CL), .blk (g5r1) 46 (El_cells E0), .blk (w.heap.size) 23 (Iv .u8 l0), .blk (w.heap.size + 1) 23 (Iv .u8 l1)]) (show YieldsIf _ _ _ _ (Key CL) _ from yieldsIf_load rfl 23 _ rfl (g4r1) rfl 23 _ _ (.tail _ (.tail _ (.head _))) Try.underlying23 rfl (info_key _ len_CL)) hS ?_
          simp only [Act.put, List.setIfInBounds_toArray, List.set_cons_zero, List.set_cons_succ]
          refine wpSeq_yield (S := Facts [.blk (g5r2) 50 (Rt PA PB), .blk (g6r2) 50 (Rt QA QB), .blk (g4r1) 23 (Iv .u8 CL), .blk (g5r1) 46 (El_cells E0), .blk (w.heap.size) 23 (Iv .u8 l0), .blk (w.heap.size + 1) 23 (Iv .u8 l1)]) (yieldsIf_move rfl _ rfl _ rfl) hS ?_
          simp only [Act.put, List.setIfInBounds_toArray, List.set_cons_zero, List.set_cons_succ]
          refine wpSeq_yield (S := Facts [.blk (g5r2) 50 (Rt PA PB), .blk (g6r2) 50 (Rt QA QB), .blk (g4r1) 23 (Iv .u8 CL), .blk (g5r1) 46 (El_cells E0), .blk (w.heap.size) 23 (Iv .u8 l0), .blk (w.heap.size + 1) 23 (Iv .u8 l1)]) (v := (.int .i64 (j : Int))) (Or.inl ⟨by rfl, ?_⟩) hS ?_
          · intro w' _
            go_simp
          simp only [Act.put, List.setIfInBounds_toArray, List.set_cons_zero, List.set_cons_succ]
          refine wpSeq_wp rfl ?_
          go_simp
          refine (CB.out _).mono ?_
          rintro e v1 ⟨rfl, b⟩
          replace hB := hB.trans (b.mono hB.size)
          replace hS := hS.below b
          replace K2 := K2.below' b
          clear b
          show wpSeq _ _ _ _ _ _
          refine wpSeq_yield (S := Facts [.blk (g5r2) 50 (Rt PA PB), .blk (g6r2) 50 (Rt QA QB), .blk (g4r1) 23 (Iv .u8 CL), .blk (g5r1) 46 (El_cells E0), .blk (w.heap.size) 23 (Iv .u8 l0), .blk (w.heap.size + 1) 23 (Iv .u8 l1)]) (yieldsIf_assign rfl _ rfl _ rfl) hS ?_
          simp only [Act.put, List.setIfInBounds_toArray, List.set_cons_zero, List.set_cons_succ]
          refine wpSeq_nil ?_
          go_upto_region 7 with fail
          refine wp_region_seq ?_
          refine wpSeq_yield (S := Facts [.blk (g5r2) 50 (Rt PA PB), .blk (g6r2) 50 (Rt QA QB), .blk (g4r1) 23 (Iv .u8 CL), .blk (g5r1) 46 (El_cells E0), .blk (w.heap.size) 23 (Iv .u8 l0), .blk (w.heap.size + 1) 23 (Iv .u8 l1)]) (yieldsIf_move rfl _ rfl _ rfl) hS ?_
          simp only [Act.put, List.setIfInBounds_toArray, List.set_cons_zero, List.set_cons_succ]
          refine wpSeq_yield (S := Facts [.blk (g5r2) 50 (Rt PA PB), .blk (g6r2) 50 (Rt QA QB), .blk (g4r1) 23 (Iv .u8 CL), .blk (g5r1) 46 (El_cells E0), .blk (w.heap.size) 23 (Iv .u8 l0), .blk (w.heap.size + 1) 23 (Iv .u8 l1)]) (show YieldsIf _ _ _ _ (RV PA PB) _ from yieldsIf_load rfl 50 _ rfl (g5r2) rfl 50 _ _ (.head _) Try.underlying50 rfl (info_Rt _ _)) hS ?_
          simp only [Act.put, List.setIfInBounds_toArray, List.set_cons_zero, List.set_cons_succ]
          refine wpSeq_yield (S := Facts [.blk (g5r2) 50 (Rt PA PB), .blk (g6r2) 50 (Rt QA QB), .blk (g4r1) 23 (Iv .u8 CL), .blk (g5r1) 46 (El_cells E0), .blk (w.heap.size) 23 (Iv .u8 l0), .blk (w.heap.size + 1) 23 (Iv .u8 l1)]) (show YieldsIf _ _ _ _ (RV QA QB) _ from yieldsIf_load rfl 50 _ rfl (g6r2) rfl 50 _ _ (.tail _ (.head _)) Try.underlying50 rfl (info_Rt _ _)) hS ?_
          simp only [Act.put, List.setIfInBounds_toArray, List.set_cons_zero, List.set_cons_succ]
          refine wpSeq_wp rfl ?_
          go_simp
          refine (C7.out _).mono ?_
          rintro e v2 ⟨rfl, b⟩
          replace hB := hB.trans (b.mono hB.size)
          replace hS := hS.below b
          replace K2 := K2.below' b
          clear b
          show wpSeq _ _ _ _ _ _
          refine wpSeq_yield (S := Facts [.blk (g5r2) 50 (Rt PA PB), .blk (g6r2) 50 (Rt QA QB), .blk (g4r1) 23 (Iv .u8 CL), .blk (g5r1) 46 (El_cells E0), .blk (w.heap.size) 23 (Iv .u8 l0), .blk (w.heap.size + 1) 23 (Iv .u8 l1)]) (yieldsIf_move rfl _ rfl _ rfl) hS ?_
          simp only [Act.put, List.setIfInBounds_toArray, List.set_cons_zero, List.set_cons_succ]
          refine wpSeq_yield (S := Facts [.blk (g5r2) 50 (Rt PA PB), .blk (g6r2) 50 (Rt QA QB), .blk (g4r1) 23 (Iv .u8 CL), .blk (g5r1) 46 (El_cells E0), .blk (w.heap.size) 23 (Iv .u8 l0), .blk (w.heap.size + 1) 23 (Iv .u8 l1)]) (show YieldsIf _ _ _ _ (RV S1 S2) _ from yieldsIf_extract rfl _ _ rfl _ rfl _ rfl) hS ?_
          simp only [Act.put, List.setIfInBounds_toArray, List.set_cons_zero, List.set_cons_succ]
          refine wpSeq_yield (S := Facts [.blk (g5r2) 50 (Rt PA PB), .blk (g6r2) 50 (Rt QA QB), .blk (g4r1) 23 (Iv .u8 CL), .blk (g5r1) 46 (El_cells E0), .blk (w.heap.size) 23 (Iv .u8 l0), .blk (w.heap.size + 1) 23 (Iv .u8 l1)]) (show YieldsIf _ _ _ _ (RV S3 S4) _ from yieldsIf_extract rfl _ _ rfl _ rfl _ rfl) hS ?_
          simp only [Act.put, List.setIfInBounds_toArray, List.set_cons_zero, List.set_cons_succ]
          refine wpSeq_store_row rfl 50 _ _ rfl (g5r2) (Rt S1 S2) rfl rfl _ _ (hS.blkAt (g5r2) 50 (Rt PA PB) (.head _)) (info_Rt _ _) rfl (Rt_one _ _) ?_
          try simp only [Act.put, List.setIfInBounds_toArray, List.set_cons_zero, List.set_cons_succ]
          replace K2 := K2.rowFar (k := g5r2) (blk_ne K2 (hS.blkAt _ _ _ (.head _)) (by decide)) (Rt S1 S2)
          replace hB := below_setRow hB (g := g5r2) (by omega) (Rt S1 S2)
          replace hS : Facts [.blk (g5r2) 50 (Rt S1 S2), .blk (g6r2) 50 (Rt QA QB), .blk (g4r1) 23 (Iv .u8 CL), .blk (g5r1) 46 (El_cells E0), .blk (w.heap.size) 23 (Iv .u8 l0), .blk (w.heap.size + 1) 23 (Iv .u8 l1)] _ := Facts.cons (f := .blk (g5r2) 50 (Rt S1 S2)) ((hS.blkAt (g5r2) 50 (Rt PA PB) (.head _)).row _) (Facts.cons (f := .blk (g6r2) 50 (Rt QA QB)) ((hS.blkAt (g6r2) 50 (Rt QA QB) (.tail _ (.head _))).rowFar (k := g5r2) (by first | omega | exact blk_ne (hS.blkAt _ _ _ (.tail _ (.head _))) (hS.blkAt _ _ _ (.head _)) (by decide)) _) (Facts.cons (f := .blk (g4r1) 23 (Iv .u8 CL)) ((hS.blkAt (g4r1) 23 (Iv .u8 CL) (.tail _ (.tail _ (.head _)))).rowFar (k := g5r2) (blk_ne (hS.blkAt _ _ _ (.tail _ (.tail _ (.head _)))) (hS.blkAt _ _ _ (.head _)) (by decide)) _) (Facts.cons (f := .blk (g5r1) 46 (El_cells E0)) ((hS.blkAt (g5r1) 46 (El_cells E0) (.tail _ (.tail _ (.tail _ (.head _))))).rowFar (k := g5r2) (blk_ne (hS.blkAt _ _ _ (.tail _ (.tail _ (.tail _ (.head _))))) (hS.blkAt _ _ _ (.head _)) (by decide)) _) (Facts.cons (f := .blk (w.heap.size) 23 (Iv .u8 l0)) ((hS.blkAt (w.heap.size) 23 (Iv .u8 l0) (.tail _ (.tail _ (.tail _ (.tail _ (.head _)))))).rowFar (k := g5r2) (blk_ne (hS.blkAt _ _ _ (.tail _ (.tail _ (.tail _ (.tail _ (.head _)))))) (hS.blkAt _ _ _ (.head _)) (by decide)) _) (Facts.cons (f := .blk (w.heap.size + 1) 23 (Iv .u8 l1)) ((hS.blkAt (w.heap.size + 1) 23 (Iv .u8 l1) (.tail _ (.tail _ (.tail _ (.tail _ (.tail _ (.head _))))))).rowFar (k := g5r2) (blk_ne (hS.blkAt _ _ _ (.tail _ (.tail _ (.tail _ (.tail _ (.tail _ (.head _))))))) (hS.blkAt _ _ _ (.head _)) (by decide)) _) (Facts.nil))))))
          generalize hWn : World.setRow _ _ _ = Wn at *
          clear hWn
          refine wpSeq_store_row rfl 50 _ _ rfl (g6r2) (Rt S3 S4) rfl rfl _ _ (hS.blkAt (g6r2) 50 (Rt QA QB) (.tail _ (.head _))) (info_Rt _ _) rfl (Rt_one _ _) ?_
          try simp only [Act.put, List.setIfInBounds_toArray, List.set_cons_zero, List.set_cons_succ]
          replace K2 := K2.rowFar (k := g6r2) (blk_ne K2 (hS.blkAt _ _ _ (.tail _ (.head _))) (by decide)) (Rt S3 S4)
          replace hB := below_setRow hB (g := g6r2) (by omega) (Rt S3 S4)
          replace hS : Facts [.blk (g5r2) 50 (Rt S1 S2), .blk (g6r2) 50 (Rt S3 S4), .blk (g4r1) 23 (Iv .u8 CL), .blk (g5r1) 46 (El_cells E0), .blk (w.heap.size) 23 (Iv .u8 l0), .blk (w.heap.size + 1) 23 (Iv .u8 l1)] _ := Facts.cons (f := .blk (g5r2) 50 (Rt S1 S2)) ((hS.blkAt (g5r2) 50 (Rt S1 S2) (.head _)).rowFar (k := g6r2) (by first | omega | exact blk_ne (hS.blkAt _ _ _ (.head _)) (hS.blkAt _ _ _ (.tail _ (.head _))) (by decide)) _) (Facts.cons (f := .blk (g6r2) 50 (Rt S3 S4)) ((hS.blkAt (g6r2) 50 (Rt QA QB) (.tail _ (.head _))).row _) (Facts.cons (f := .blk (g4r1) 23 (Iv .u8 CL)) ((hS.blkAt (g4r1) 23 (Iv .u8 CL) (.tail _ (.tail _ (.head _)))).rowFar (k := g6r2) (blk_ne (hS.blkAt _ _ _ (.tail _ (.tail _ (.head _)))) (hS.blkAt _ _ _ (.tail _ (.head _))) (by decide)) _) (Facts.cons (f := .blk (g5r1) 46 (El_cells E0)) ((hS.blkAt (g5r1) 46 (El_cells E0) (.tail _ (.tail _ (.tail _ (.head _))))).rowFar (k := g6r2) (blk_ne (hS.blkAt _ _ _ (.tail _ (.tail _ (.tail _ (.head _))))) (hS.blkAt _ _ _ (.tail _ (.head _))) (by decide)) _) (Facts.cons (f := .blk (w.heap.size) 23 (Iv .u8 l0)) ((hS.blkAt (w.heap.size) 23 (Iv .u8 l0) (.tail _ (.tail _ (.tail _ (.tail _ (.head _)))))).rowFar (k := g6r2) (blk_ne (hS.blkAt _ _ _ (.tail _ (.tail _ (.tail _ (.tail _ (.head _)))))) (hS.blkAt _ _ _ (.tail _ (.head _))) (by decide)) _) (Facts.cons (f := .blk (w.heap.size + 1) 23 (Iv .u8 l1)) ((hS.blkAt (w.heap.size + 1) 23 (Iv .u8 l1) (.tail _ (.tail _ (.tail _ (.tail _ (.tail _ (.head _))))))).rowFar (k := g6r2) (blk_ne (hS.blkAt _ _ _ (.tail _ (.tail _ (.tail _ (.tail _ (.tail _ (.head _))))))) (hS.blkAt _ _ _ (.tail _ (.head _))) (by decide)) _) (Facts.nil))))))
          generalize hWn : World.setRow _ _ _ = Wn at *
          clear hWn
          refine wpSeq_nil ?_
          go_upto_region 8 with fail
          refine wp_region_seq ?_
          refine wpSeq_yield (S := Facts [.blk (g5r2) 50 (Rt S1 S2), .blk (g6r2) 50 (Rt S3 S4), .blk (g4r1) 23 (Iv .u8 CL), .blk (g5r1) 46 (El_cells E0), .blk (w.heap.size) 23 (Iv .u8 l0), .blk (w.heap.size + 1) 23 (Iv .u8 l1)]) (show YieldsIf _ _ _ _ (El E0) _ from yieldsIf_load rfl 46 _ rfl (g5r1) rfl 46 _ _ (.tail _ (.tail _ (.tail _ (.head _)))) Try.underlying46 rfl (info_El _)) hS ?_
          simp only [Act.put, List.setIfInBounds_toArray, List.set_cons_zero, List.set_cons_succ]
          refine wpSeq_yield (S := Facts [.blk (g5r2) 50 (Rt S1 S2), .blk (g6r2) 50 (Rt S3 S4), .blk (g4r1) 23 (Iv .u8 CL), .blk (g5r1) 46 (El_cells E0), .blk (w.heap.size) 23 (Iv .u8 l0), .blk (w.heap.size + 1) 23 (Iv .u8 l1)]) (show YieldsIf _ _ _ _ (RV S1 S2) _ from yieldsIf_load rfl 50 _ rfl (g5r2) rfl 50 _ _ (.head _) Try.underlying50 rfl (info_Rt _ _)) hS ?_
          simp only [Act.put, List.setIfInBounds_toArray, List.set_cons_zero, List.set_cons_succ]
          refine wpSeq_yield (S := Facts [.blk (g5r2) 50 (Rt S1 S2), .blk (g6r2) 50 (Rt S3 S4), .blk (g4r1) 23 (Iv .u8 CL), .blk (g5r1) 46 (El_cells E0), .blk (w.heap.size) 23 (Iv .u8 l0), .blk (w.heap.size + 1) 23 (Iv .u8 l1)]) (show YieldsIf _ _ _ _ (RV S3 S4) _ from yieldsIf_load rfl 50 _ rfl (g6r2) rfl 50 _ _ (.tail _ (.head _)) Try.underlying50 rfl (info_Rt _ _)) hS ?_
          simp only [Act.put, List.setIfInBounds_toArray, List.set_cons_zero, List.set_cons_succ]
          refine wpSeq_wp rfl ?_
          go_simp
          refine (C8.out _).mono ?_
          rintro e v3 ⟨rfl, b⟩
          replace hB := hB.trans (b.mono hB.size)
          replace hS := hS.below b
          replace K2 := K2.below' b
          clear b
          show wpSeq _ _ _ _ _ _
          refine wpSeq_yield (S := Facts [.blk (g5r2) 50 (Rt S1 S2), .blk (g6r2) 50 (Rt S3 S4), .blk (g4r1) 23 (Iv .u8 CL), .blk (g5r1) 46 (El_cells E0), .blk (w.heap.size) 23 (Iv .u8 l0), .blk (w.heap.size + 1) 23 (Iv .u8 l1)]) (yieldsIf_move rfl _ rfl _ rfl) hS ?_
          simp only [Act.put, List.setIfInBounds_toArray, List.set_cons_zero, List.set_cons_succ]
          refine wpSeq_yield (S := Facts [.blk (g5r2) 50 (Rt S1 S2), .blk (g6r2) 50 (Rt S3 S4), .blk (g4r1) 23 (Iv .u8 CL), .blk (g5r1) 46 (El_cells E0), .blk (w.heap.size) 23 (Iv .u8 l0), .blk (w.heap.size + 1) 23 (Iv .u8 l1)]) (show YieldsIf _ _ _ _ (RV T1 T2) _ from yieldsIf_extract rfl _ _ rfl _ rfl _ rfl) hS ?_
          simp only [Act.put, List.setIfInBounds_toArray, List.set_cons_zero, List.set_cons_succ]
          refine wpSeq_yield (S := Facts [.blk (g5r2) 50 (Rt S1 S2), .blk (g6r2) 50 (Rt S3 S4), .blk (g4r1) 23 (Iv .u8 CL), .blk (g5r1) 46 (El_cells E0), .blk (w.heap.size) 23 (Iv .u8 l0), .blk (w.heap.size + 1) 23 (Iv .u8 l1)]) (show YieldsIf _ _ _ _ (RV T3 T4) _ from yieldsIf_extract rfl _ _ rfl _ rfl _ rfl) hS ?_
          simp only [Act.put, List.setIfInBounds_toArray, List.set_cons_zero, List.set_cons_succ]
          refine wpSeq_store_row rfl 50 _ _ rfl (g5r2) (Rt T1 T2) rfl rfl _ _ (hS.blkAt (g5r2) 50 (Rt S1 S2) (.head _)) (info_Rt _ _) rfl (Rt_one _ _) ?_
          try simp only [Act.put, List.setIfInBounds_toArray, List.set_cons_zero, List.set_cons_succ]
          replace K2 := K2.rowFar (k := g5r2) (blk_ne K2 (hS.blkAt _ _ _ (.head _)) (by decide)) (Rt T1 T2)
          replace hB := below_setRow hB (g := g5r2) (by omega) (Rt T1 T2)
          replace hS : Facts [.blk (g5r2) 50 (Rt T1 T2), .blk (g6r2) 50 (Rt S3 S4), .blk (g4r1) 23 (Iv .u8 CL), .blk (g5r1) 46 (El_cells E0), .blk (w.heap.size) 23 (Iv .u8 l0), .blk (w.heap.size + 1) 23 (Iv .u8 l1)] _ := Facts.cons (f := .blk (g5r2) 50 (Rt T1 T2)) ((hS.blkAt (g5r2) 50 (Rt S1 S2) (.head _)).row _) (Facts.cons (f := .blk (g6r2) 50 (Rt S3 S4)) ((hS.blkAt (g6r2) 50 (Rt S3 S4) (.tail _ (.head _))).rowFar (k := g5r2) (by first | omega | exact blk_ne (hS.blkAt _ _ _ (.tail _ (.head _))) (hS.blkAt _ _ _ (.head _)) (by decide)) _) (Facts.cons (f := .blk (g4r1) 23 (Iv .u8 CL)) ((hS.blkAt (g4r1) 23 (Iv .u8 CL) (.tail _ (.tail _ (.head _)))).rowFar (k := g5r2) (blk_ne (hS.blkAt _ _ _ (.tail _ (.tail _ (.head _)))) (hS.blkAt _ _ _ (.head _)) (by decide)) _) (Facts.cons (f := .blk (g5r1) 46 (El_cells E0)) ((hS.blkAt (g5r1) 46 (El_cells E0) (.tail _ (.tail _ (.tail _ (.head _))))).rowFar (k := g5r2) (blk_ne (hS.blkAt _ _ _ (.tail _ (.tail _ (.tail _ (.head _))))) (hS.blkAt _ _ _ (.head _)) (by decide)) _) (Facts.cons (f := .blk (w.heap.size) 23 (Iv .u8 l0)) ((hS.blkAt (w.heap.size) 23 (Iv .u8 l0) (.tail _ (.tail _ (.tail _ (.tail _ (.head _)))))).rowFar (k := g5r2) (blk_ne (hS.blkAt _ _ _ (.tail _ (.tail _ (.tail _ (.tail _ (.head _)))))) (hS.blkAt _ _ _ (.head _)) (by decide)) _) (Facts.cons (f := .blk (w.heap.size + 1) 23 (Iv .u8 l1)) ((hS.blkAt (w.heap.size + 1) 23 (Iv .u8 l1) (.tail _ (.tail _ (.tail _ (.tail _ (.tail _ (.head _))))))).rowFar (k := g5r2) (blk_ne (hS.blkAt _ _ _ (.tail _ (.tail _ (.tail _ (.tail _ (.tail _ (.head _))))))) (hS.blkAt _ _ _ (.head _)) (by decide)) _) (Facts.nil))))))
          generalize hWn : World.setRow _ _ _ = Wn at *
          clear hWn
          refine wpSeq_store_row rfl 50 _ _ rfl (g6r2) (Rt T3 T4) rfl rfl _ _ (hS.blkAt (g6r2) 50 (Rt S3 S4) (.tail _ (.head _))) (info_Rt _ _) rfl (Rt_one _ _) ?_
          try simp only [Act.put, List.setIfInBounds_toArray, List.set_cons_zero, List.set_cons_succ]
          replace K2 := K2.rowFar (k := g6r2) (blk_ne K2 (hS.blkAt _ _ _ (.tail _ (.head _))) (by decide)) (Rt T3 T4)
          replace hB := below_setRow hB (g := g6r2) (by omega) (Rt T3 T4)
          replace hS : Facts [.blk (g5r2) 50 (Rt T1 T2), .blk (g6r2) 50 (Rt T3 T4), .blk (g4r1) 23 (Iv .u8 CL), .blk (g5r1) 46 (El_cells E0), .blk (w.heap.size) 23 (Iv .u8 l0), .blk (w.heap.size + 1) 23 (Iv .u8 l1)] _ := Facts.cons (f := .blk (g5r2) 50 (Rt T1 T2)) ((hS.blkAt (g5r2) 50 (Rt T1 T2) (.head _)).rowFar (k := g6r2) (by first | omega | exact blk_ne (hS.blkAt _ _ _ (.head _)) (hS.blkAt _ _ _ (.tail _ (.head _))) (by decide)) _) (Facts.cons (f := .blk (g6r2) 50 (Rt T3 T4)) ((hS.blkAt (g6r2) 50 (Rt S3 S4) (.tail _ (.head _))).row _) (Facts.cons (f := .blk (g4r1) 23 (Iv .u8 CL)) ((hS.blkAt (g4r1) 23 (Iv .u8 CL) (.tail _ (.tail _ (.head _)))).rowFar (k := g6r2) (blk_ne (hS.blkAt _ _ _ (.tail _ (.tail _ (.head _)))) (hS.blkAt _ _ _ (.tail _ (.head _))) (by decide)) _) (Facts.cons (f := .blk (g5r1) 46 (El_cells E0)) ((hS.blkAt (g5r1) 46 (El_cells E0) (.tail _ (.tail _ (.tail _ (.head _))))).rowFar (k := g6r2) (blk_ne (hS.blkAt _ _ _ (.tail _ (.tail _ (.tail _ (.head _))))) (hS.blkAt _ _ _ (.tail _ (.head _))) (by decide)) _) (Facts.cons (f := .blk (w.heap.size) 23 (Iv .u8 l0)) ((hS.blkAt (w.heap.size) 23 (Iv .u8 l0) (.tail _ (.tail _ (.tail _ (.tail _ (.head _)))))).rowFar (k := g6r2) (blk_ne (hS.blkAt _ _ _ (.tail _ (.tail _ (.tail _ (.tail _ (.head _)))))) (hS.blkAt _ _ _ (.tail _ (.head _))) (by decide)) _) (Facts.cons (f := .blk (w.heap.size + 1) 23 (Iv .u8 l1)) ((hS.blkAt (w.heap.size + 1) 23 (Iv .u8 l1) (.tail _ (.tail _ (.tail _ (.tail _ (.tail _ (.head _))))))).rowFar (k := g6r2) (blk_ne (hS.blkAt _ _ _ (.tail _ (.tail _ (.tail _ (.tail _ (.tail _ (.head _))))))) (hS.blkAt _ _ _ (.tail _ (.head _))) (by decide)) _) (Facts.nil))))))
          generalize hWn : World.setRow _ _ _ = Wn at *
          clear hWn
          refine wpSeq_nil ?_
          go_upto_region 9 with fail
          refine wp_region_seq ?_
          refine wpSeq_yield (S := Facts [.blk (g5r2) 50 (Rt T1 T2), .blk (g6r2) 50 (Rt T3 T4), .blk (g4r1) 23 (Iv .u8 CL), .blk (g5r1) 46 (El_cells E0), .blk (w.heap.size) 23 (Iv .u8 l0), .blk (w.heap.size + 1) 23 (Iv .u8 l1)]) (yieldsIf_move rfl _ rfl _ rfl) hS ?_
          simp only [Act.put, List.setIfInBounds_toArray, List.set_cons_zero, List.set_cons_succ]
          refine wpSeq_yield (S := Facts [.blk (g5r2) 50 (Rt T1 T2), .blk (g6r2) 50 (Rt T3 T4), .blk (g4r1) 23 (Iv .u8 CL), .blk (g5r1) 46 (El_cells E0), .blk (w.heap.size) 23 (Iv .u8 l0), .blk (w.heap.size + 1) 23 (Iv .u8 l1)]) (show YieldsIf _ _ _ _ (RV T1 T2) _ from yieldsIf_load rfl 50 _ rfl (g5r2) rfl 50 _ _ (.head _) Try.underlying50 rfl (info_Rt _ _)) hS ?_
          simp only [Act.put, List.setIfInBounds_toArray, List.set_cons_zero, List.set_cons_succ]
          refine wpSeq_yield (S := Facts [.blk (g5r2) 50 (Rt T1 T2), .blk (g6r2) 50 (Rt T3 T4), .blk (g4r1) 23 (Iv .u8 CL), .blk (g5r1) 46 (El_cells E0), .blk (w.heap.size) 23 (Iv .u8 l0), .blk (w.heap.size + 1) 23 (Iv .u8 l1)]) (show YieldsIf _ _ _ _ (RV T3 T4) _ from yieldsIf_load rfl 50 _ rfl (g6r2) rfl 50 _ _ (.tail _ (.head _)) Try.underlying50 rfl (info_Rt _ _)) hS ?_
          simp only [Act.put, List.setIfInBounds_toArray, List.set_cons_zero, List.set_cons_succ]
          refine wpSeq_wp rfl ?_
          go_simp
          refine (C9.out _).mono ?_
          rintro e v4 ⟨rfl, b⟩
          replace hB := hB.trans (b.mono hB.size)
          replace hS := hS.below b
          replace K2 := K2.below' b
          clear b
          show wpSeq _ _ _ _ _ _
          refine wpSeq_yield (S := Facts [.blk (g5r2) 50 (Rt T1 T2), .blk (g6r2) 50 (Rt T3 T4), .blk (g4r1) 23 (Iv .u8 CL), .blk (g5r1) 46 (El_cells E0), .blk (w.heap.size) 23 (Iv .u8 l0), .blk (w.heap.size + 1) 23 (Iv .u8 l1)]) (yieldsIf_move rfl _ rfl _ rfl) hS ?_
          simp only [Act.put, List.setIfInBounds_toArray, List.set_cons_zero, List.set_cons_succ]
          refine wpSeq_yield (S := Facts [.blk (g5r2) 50 (Rt T1 T2), .blk (g6r2) 50 (Rt T3 T4), .blk (g4r1) 23 (Iv .u8 CL), .blk (g5r1) 46 (El_cells E0), .blk (w.heap.size) 23 (Iv .u8 l0), .blk (w.heap.size + 1) 23 (Iv .u8 l1)]) (show YieldsIf _ _ _ _ (RV U1 U2) _ from yieldsIf_extract rfl _ _ rfl _ rfl _ rfl) hS ?_
          simp only [Act.put, List.setIfInBounds_toArray, List.set_cons_zero, List.set_cons_succ]
          refine wpSeq_yield (S := Facts [.blk (g5r2) 50 (Rt T1 T2), .blk (g6r2) 50 (Rt T3 T4), .blk (g4r1) 23 (Iv .u8 CL), .blk (g5r1) 46 (El_cells E0), .blk (w.heap.size) 23 (Iv .u8 l0), .blk (w.heap.size + 1) 23 (Iv .u8 l1)]) (show YieldsIf _ _ _ _ (RV U3 U4) _ from yieldsIf_extract rfl _ _ rfl _ rfl _ rfl) hS ?_
          simp only [Act.put, List.setIfInBounds_toArray, List.set_cons_zero, List.set_cons_succ]
          refine wpSeq_store_row rfl 50 _ _ rfl (g5r2) (Rt U1 U2) rfl rfl _ _ (hS.blkAt (g5r2) 50 (Rt T1 T2) (.head _)) (info_Rt _ _) rfl (Rt_one _ _) ?_
          try simp only [Act.put, List.setIfInBounds_toArray, List.set_cons_zero, List.set_cons_succ]
          replace K2 := K2.rowFar (k := g5r2) (blk_ne K2 (hS.blkAt _ _ _ (.head _)) (by decide)) (Rt U1 U2)
          replace hB := below_setRow hB (g := g5r2) (by omega) (Rt U1 U2)
          replace hS : Facts [.blk (g5r2) 50 (Rt U1 U2), .blk (g6r2) 50 (Rt T3 T4), .blk (g4r1) 23 (Iv .u8 CL), .blk (g5r1) 46 (El_cells E0), .blk (w.heap.size) 23 (Iv .u8 l0), .blk (w.heap.size + 1) 23 (Iv .u8 l1)] _ := Facts.cons (f := .blk (g5r2) 50 (Rt U1 U2)) ((hS.blkAt (g5r2) 50 (Rt T1 T2) (.head _)).row _) (Facts.cons (f := .blk (g6r2) 50 (Rt T3 T4)) ((hS.blkAt (g6r2) 50 (Rt T3 T4) (.tail _ (.head _))).rowFar (k := g5r2) (by first | omega | exact blk_ne (hS.blkAt _ _ _ (.tail _ (.head _))) (hS.blkAt _ _ _ (.head _)) (by decide)) _) (Facts.cons (f := .blk (g4r1) 23 (Iv .u8 CL)) ((hS.blkAt (g4r1) 23 (Iv .u8 CL) (.tail _ (.tail _ (.head _)))).rowFar (k := g5r2) (blk_ne (hS.blkAt _ _ _ (.tail _ (.tail _ (.head _)))) (hS.blkAt _ _ _ (.head _)) (by decide)) _) (Facts.cons (f := .blk (g5r1) 46 (El_cells E0)) ((hS.blkAt (g5r1) 46 (El_cells E0) (.tail _ (.tail _ (.tail _ (.head _))))).rowFar (k := g5r2) (blk_ne (hS.blkAt _ _ _ (.tail _ (.tail _ (.tail _ (.head _))))) (hS.blkAt _ _ _ (.head _)) (by decide)) _) (Facts.cons (f := .blk (w.heap.size) 23 (Iv .u8 l0)) ((hS.blkAt (w.heap.size) 23 (Iv .u8 l0) (.tail _ (.tail _ (.tail _ (.tail _ (.head _)))))).rowFar (k := g5r2) (blk_ne (hS.blkAt _ _ _ (.tail _ (.tail _ (.tail _ (.tail _ (.head _)))))) (hS.blkAt _ _ _ (.head _)) (by decide)) _) (Facts.cons (f := .blk (w.heap.size + 1) 23 (Iv .u8 l1)) ((hS.blkAt (w.heap.size + 1) 23 (Iv .u8 l1) (.tail _ (.tail _ (.tail _ (.tail _ (.tail _ (.head _))))))).rowFar (k := g5r2) (blk_ne (hS.blkAt _ _ _ (.tail _ (.tail _ (.tail _ (.tail _ (.tail _ (.head _))))))) (hS.blkAt _ _ _ (.head _)) (by decide)) _) (Facts.nil))))))
          generalize hWn : World.setRow _ _ _ = Wn at *
          clear hWn
          refine wpSeq_store_row rfl 50 _ _ rfl (g6r2) (Rt U3 U4) rfl rfl _ _ (hS.blkAt (g6r2) 50 (Rt T3 T4) (.tail _ (.head _))) (info_Rt _ _) rfl (Rt_one _ _) ?_
          try simp only [Act.put, List.setIfInBounds_toArray, List.set_cons_zero, List.set_cons_succ]
          replace K2 := K2.rowFar (k := g6r2) (blk_ne K2 (hS.blkAt _ _ _ (.tail _ (.head _))) (by decide)) (Rt U3 U4)
          replace hB := below_setRow hB (g := g6r2) (by omega) (Rt U3 U4)
          replace hS : Facts [.blk (g5r2) 50 (Rt U1 U2), .blk (g6r2) 50 (Rt U3 U4), .blk (g4r1) 23 (Iv .u8 CL), .blk (g5r1) 46 (El_cells E0), .blk (w.heap.size) 23 (Iv .u8 l0), .blk (w.heap.size + 1) 23 (Iv .u8 l1)] _ := Facts.cons (f := .blk (g5r2) 50 (Rt U1 U2)) ((hS.blkAt (g5r2) 50 (Rt U1 U2) (.head _)).rowFar (k := g6r2) (by first | omega | exact blk_ne (hS.blkAt _ _ _ (.head _)) (hS.blkAt _ _ _ (.tail _ (.head _))) (by decide)) _) (Facts.cons (f := .blk (g6r2) 50 (Rt U3 U4)) ((hS.blkAt (g6r2) 50 (Rt T3 T4) (.tail _ (.head _))).row _) (Facts.cons (f := .blk (g4r1) 23 (Iv .u8 CL)) ((hS.blkAt (g4r1) 23 (Iv .u8 CL) (.tail _ (.tail _ (.head _)))).rowFar (k := g6r2) (blk_ne (hS.blkAt _ _ _ (.tail _ (.tail _ (.head _)))) (hS.blkAt _ _ _ (.tail _ (.head _))) (by decide)) _) (Facts.cons (f := .blk (g5r1) 46 (El_cells E0)) ((hS.blkAt (g5r1) 46 (El_cells E0) (.tail _ (.tail _ (.tail _ (.head _))))).rowFar (k := g6r2) (blk_ne (hS.blkAt _ _ _ (.tail _ (.tail _ (.tail _ (.head _))))) (hS.blkAt _ _ _ (.tail _ (.head _))) (by decide)) _) (Facts.cons (f := .blk (w.heap.size) 23 (Iv .u8 l0)) ((hS.blkAt (w.heap.size) 23 (Iv .u8 l0) (.tail _ (.tail _ (.tail _ (.tail _ (.head _)))))).rowFar (k := g6r2) (blk_ne (hS.blkAt _ _ _ (.tail _ (.tail _ (.tail _ (.tail _ (.head _)))))) (hS.blkAt _ _ _ (.tail _ (.head _))) (by decide)) _) (Facts.cons (f := .blk (w.heap.size + 1) 23 (Iv .u8 l1)) ((hS.blkAt (w.heap.size + 1) 23 (Iv .u8 l1) (.tail _ (.tail _ (.tail _ (.tail _ (.tail _ (.head _))))))).rowFar (k := g6r2) (blk_ne (hS.blkAt _ _ _ (.tail _ (.tail _ (.tail _ (.tail _ (.tail _ (.head _))))))) (hS.blkAt _ _ _ (.tail _ (.head _))) (by decide)) _) (Facts.nil))))))
          generalize hWn : World.setRow _ _ _ = Wn at *
          clear hWn
          refine wpSeq_nil ?_
          go_wp2
          exact ⟨⟨k + 1, by omega, by go_num, hB, K2, by rw [HN.out]; exact hS⟩, by simp [intOf]; omega⟩
        · obtain rfl : k = 255 := by omega
          have lok := lad_ok V E0 lE0 255
          have lPA := lok.a
          have lPB := lok.b
          have hfin : ladN V E0 = fm (lad V E0 255).a (mpow (lad V E0 255).b 57896044618658097711785492504343953926634992332820282019728792003956564819947) := rfl
          generalize lad V E0 255 = s at *
          obtain ⟨PA, PB, QA, QB⟩ := s
          simp only at lPA lPB hS hfin
          clear lok
          obtain ⟨E2, hE2⟩ : ∃ r, r = mpow PB 57896044618658097711785492504343953926634992332820282019728792003956564819947 := ⟨_, rfl⟩
          have lE2 : E2 < pp := hE2 ▸ mpow_lt _ _
          have HE2 := Lib.hid hE2
          clear hE2
          obtain ⟨E3, hE3⟩ : ∃ r, r = PA * E2 % pp := ⟨_, rfl⟩
          have lE3 : E3 < pp := hE3 ▸ Nat.mod_lt _ pp_pos
          have HE3 := Lib.hid hE3
          clear hE3
          have hf2 : ladN V E0 = E3 := by rw [hfin]; simp only [fm, HE2.out, HE3.out]
          have HF := Lib.hid hf2
          clear hf2 hfin
          go_upto_region 11 with fail
          replace hS := hS.drew
          replace hB := below_drew hB
          replace K2 := K2.drew
          refine wp_region_Z (S := Facts [.blk (g5r2) 50 (Rt PA PB), .blk (g6r2) 50 (Rt QA QB), .blk (g4r1) 23 (Iv .u8 CL), .blk (g5r1) 46 (El_cells E0), .blk (w.heap.size) 23 (Iv .u8 l0), .blk (w.heap.size + 1) 23 (Iv .u8 l1)]) 7 (by kernel_rfl) ?_
          refine wpAnyZ_takeL 0 rfl (by kernel_rfl) (by kernel_rfl) (by kernel_rfl) (by kernel_rfl) (by kernel_rfl) (fun _ _ _ h => h) (show YieldsIf _ _ _ _ (.pointer (some ⟨g5r2, 0, none⟩)) _ from yieldsIf_fa0 rfl _ rfl (g5r2) rfl) hS ?_
          simp only [Act.put, List.setIfInBounds_toArray, List.set_cons_zero, List.set_cons_succ]
          refine wpAnyZ_takeL 1 rfl (by kernel_rfl) (by kernel_rfl) (by kernel_rfl) (by kernel_rfl) (by kernel_rfl) (fun _ _ _ h => h) (show YieldsIf _ _ _ _ (El PA) _ from yieldsIf_part0 rfl _ rfl (g5r2) rfl 50 _ _ (.head _)) hS ?_
          simp only [Act.put, List.setIfInBounds_toArray, List.set_cons_zero, List.set_cons_succ]
          refine wpAnyZ_takeL 2 rfl (by kernel_rfl) (by kernel_rfl) (by kernel_rfl) (by kernel_rfl) (by kernel_rfl) (fun _ _ _ h => h) (show YieldsIf _ _ _ _ (.pointer (some ⟨g5r2, 5, none⟩)) _ from yieldsIf_fa5 rfl _ rfl (g5r2) rfl) hS ?_
          simp only [Act.put, List.setIfInBounds_toArray, List.set_cons_zero, List.set_cons_succ]
          refine wpAnyZ_takeL 3 rfl (by kernel_rfl) (by kernel_rfl) (by kernel_rfl) (by kernel_rfl) (by kernel_rfl) (fun _ _ _ h => h) (show YieldsIf _ _ _ _ (El PB) _ from yieldsIf_part5 rfl _ rfl (g5r2) rfl 50 _ _ (.head _)) hS ?_
          simp only [Act.put, List.setIfInBounds_toArray, List.set_cons_zero, List.set_cons_succ]
          refine wpAnyZ_one (i := 4) (by kernel_rfl) ?_
          unfold wpOp
          go_simp
          left
          refine (inv_v PB E2 _ lPB HE2.out).mono ?_
          rintro e v5 ⟨rfl, b⟩
          replace hB := hB.trans (b.mono hB.size)
          replace hS := hS.below b
          replace K2 := K2.below' b
          clear b
          refine ⟨hS, ?_⟩
          refine wpAnyZ_one (i := 5) (by kernel_rfl) ?_
          unfold wpOp
          go_simp
          left
          refine (mul_v PA E2 E3 _ lPA lE2 HE3.out).mono ?_
          rintro e v6 ⟨rfl, b⟩
          replace hB := hB.trans (b.mono hB.size)
          replace hS := hS.below b
          replace K2 := K2.below' b
          clear b
          refine ⟨hS, ?_⟩
          refine wpAnyZ_one (i := 6) (by kernel_rfl) ?_
          unfold wpOp
          go_simp
          left
          refine (bytes_v E3 _ lE3).mono ?_
          rintro e v7 ⟨rfl, b⟩
          replace hB := hB.trans (b.mono hB.size)
          replace hS := hS.below b
          replace K2 := K2.below' b
          clear b
          refine ⟨hS, ?_⟩
          refine wpAnyZ_store_last 7 rfl (by kernel_rfl) rfl _ _ _ rfl (w.heap.size + 1 + 1) (Iv .u8 (keyOf E3)) rfl rfl _ _ K2 (info_key _ (keyOf_length _)) (by rw [Iv_size, Iv_size, keyOf_length]; rfl) (Iv_one _ _) (by kernel_rfl) ?_
          try simp only [Act.put, List.setIfInBounds_toArray, List.set_cons_zero, List.set_cons_succ]
          replace hB := below_setRow hB (g := w.heap.size + 1 + 1) (by omega) (Iv .u8 (keyOf E3))
          replace hS : Facts [.blk (g5r2) 50 (Rt PA PB), .blk (g6r2) 50 (Rt QA QB), .blk (g4r1) 23 (Iv .u8 CL), .blk (g5r1) 46 (El_cells E0), .blk (w.heap.size) 23 (Iv .u8 l0), .blk (w.heap.size + 1) 23 (Iv .u8 l1)] _ := Facts.cons (f := .blk (g5r2) 50 (Rt PA PB)) ((hS.blkAt (g5r2) 50 (Rt PA PB) (.head _)).rowFar (k := w.heap.size + 1 + 1) (blk_ne (hS.blkAt (g5r2) 50 (Rt PA PB) (.head _)) K2 (by decide)) (Iv .u8 (keyOf E3))) (Facts.cons (f := .blk (g6r2) 50 (Rt QA QB)) ((hS.blkAt (g6r2) 50 (Rt QA QB) (.tail _ (.head _))).rowFar (k := w.heap.size + 1 + 1) (blk_ne (hS.blkAt (g6r2) 50 (Rt QA QB) (.tail _ (.head _))) K2 (by decide)) (Iv .u8 (keyOf E3))) (Facts.cons (f := .blk (g4r1) 23 (Iv .u8 CL)) ((hS.blkAt (g4r1) 23 (Iv .u8 CL) (.tail _ (.tail _ (.head _)))).rowFar (k := w.heap.size + 1 + 1) (by omega) (Iv .u8 (keyOf E3))) (Facts.cons (f := .blk (g5r1) 46 (El_cells E0)) ((hS.blkAt (g5r1) 46 (El_cells E0) (.tail _ (.tail _ (.tail _ (.head _))))).rowFar (k := w.heap.size + 1 + 1) (blk_ne (hS.blkAt (g5r1) 46 (El_cells E0) (.tail _ (.tail _ (.tail _ (.head _))))) K2 (by decide)) (Iv .u8 (keyOf E3))) (Facts.cons (f := .blk (w.heap.size) 23 (Iv .u8 l0)) ((hS.blkAt (w.heap.size) 23 (Iv .u8 l0) (.tail _ (.tail _ (.tail _ (.tail _ (.head _)))))).rowFar (k := w.heap.size + 1 + 1) (by omega) (Iv .u8 (keyOf E3))) (Facts.cons (f := .blk (w.heap.size + 1) 23 (Iv .u8 l1)) ((hS.blkAt (w.heap.size + 1) 23 (Iv .u8 l1) (.tail _ (.tail _ (.tail _ (.tail _ (.tail _ (.head _))))))).rowFar (k := w.heap.size + 1 + 1) (by omega) (Iv .u8 (keyOf E3))) (Facts.nil))))))
          replace K2 := K2.row (Iv .u8 (keyOf E3))
          generalize hWn : World.setRow _ _ _ = Wn at *
          clear hWn
          refine wpAnyZ_done (by kernel_rfl) ?_ _
          go_wp2
          exact bodyPost_ret (results_cell_row rfl _ _ _ 23 _ (0, 0) _ rfl K2 Try.underlying23 rfl (info_key _ (keyOf_length _))) rfl ⟨by rw [HVV.out, HF.out], hB⟩
end Go.Proofs.Ytgdhlafggdaipaa
