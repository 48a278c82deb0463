/- The law FieldRoots, a case: B. -/
import Derived.Test.YtknmmjnkafmoaaaLp
import Derived.Test.YtknmmjnkafmoaaaFn
import Derived.Test.YtknmmjnkafmoaaaRn
namespace Go.Proofs.Ytknmmjnkafmoaaa
open Go.RowKit

theorem root_wB (I X Y R : Nat) (c : Bool) (w : World) (hI : IOk I) (lX : X < pp) (lY : Y < pp) (hR : R = rV I X Y) (hc : rOk X Y = c) :
    Calls Try.prog 34 #[El X, El Y] w fun e w' => e = .returned (.tuple #[El R, .bool c]) ∧ Below w.heap.size w w' := by
  subst hR hc
  exact root_v I X Y hI lX lY w
theorem sq_twiceB {s y x : Nat} (h : s * s % pp * (y * y % pp) % pp = x) : s * s % pp * y % pp * y % pp = x := by
  rw [← h]
  simp only [Nat.mod_mul_mod, Nat.mul_mod_mod, Nat.mul_assoc]

set_option maxHeartbeats 8000000 in
set_option maxRecDepth 100000 in
theorem roots_B (l0 l1 : List Int) (f0 f1 : Nat → Nat) (hl0 : Bytes32 l0 f0) (hl1 : Bytes32 l1 f1) (hx : leTo f0 32 % 57896044618658097711785492504343953926634992332820282019728792003956564819968 % pp = 0) (hy : ¬ leTo f1 32 % 57896044618658097711785492504343953926634992332820282019728792003956564819968 % pp = 0) (w : World) :
    Calls Try.prog 9 #[Key l0, Key l1] w fun e w' => e = .returned (.bool true) ∧ Below w.heap.size w w' := by
  obtain ⟨I, hI⟩ := has_I
  obtain ⟨E0, hE0⟩ : ∃ r, r = leTo f0 32 % 57896044618658097711785492504343953926634992332820282019728792003956564819968 % pp := ⟨_, rfl⟩
  have lE0 : E0 < pp := hE0 ▸ Nat.mod_lt _ pp_pos
  rw [← hE0] at hx
  have HE0 := Lib.hid hE0
  clear hE0
  obtain ⟨E1, hE1⟩ : ∃ r, r = leTo f1 32 % 57896044618658097711785492504343953926634992332820282019728792003956564819968 % pp := ⟨_, rfl⟩
  have lE1 : E1 < pp := hE1 ▸ Nat.mod_lt _ pp_pos
  rw [← hE1] at hy
  have HE1 := Lib.hid hE1
  clear hE1
  obtain ⟨E2, hE2⟩ : ∃ r, r = rV I E0 E1 := ⟨_, rfl⟩
  have lE2 : E2 < pp := hE2 ▸ rV_lt I E0 E1
  have HE2 := Lib.hid hE2
  clear hE2
  obtain ⟨E3, hE3⟩ : ∃ r, r = E2 * E2 % pp := ⟨_, rfl⟩
  have lE3 : E3 < pp := hE3 ▸ Nat.mod_lt _ pp_pos
  have HE3 := Lib.hid hE3
  clear hE3
  obtain ⟨E4, hE4⟩ : ∃ r, r = E3 * E1 % pp := ⟨_, rfl⟩
  have lE4 : E4 < pp := hE4 ▸ Nat.mod_lt _ pp_pos
  have HE4 := Lib.hid hE4
  clear hE4
  obtain ⟨E5, hE5⟩ : ∃ r, r = E0 * E0 % pp := ⟨_, rfl⟩
  have lE5 : E5 < pp := hE5 ▸ Nat.mod_lt _ pp_pos
  have HE5 := Lib.hid hE5
  clear hE5
  obtain ⟨E6, hE6⟩ : ∃ r, r = E1 * E1 % pp := ⟨_, rfl⟩
  have lE6 : E6 < pp := hE6 ▸ Nat.mod_lt _ pp_pos
  have HE6 := Lib.hid hE6
  clear hE6
  obtain ⟨E7, hE7⟩ : ∃ r, r = rV I E5 E6 := ⟨_, rfl⟩
  have lE7 : E7 < pp := hE7 ▸ rV_lt I E5 E6
  have HE7 := Lib.hid hE7
  clear hE7
  obtain ⟨E8, hE8⟩ : ∃ r, r = E7 * E7 % pp := ⟨_, rfl⟩
  have lE8 : E8 < pp := hE8 ▸ Nat.mod_lt _ pp_pos
  have HE8 := Lib.hid hE8
  clear hE8
  obtain ⟨E9, hE9⟩ : ∃ r, r = E8 * E1 % pp := ⟨_, rfl⟩
  have lE9 : E9 < pp := hE9 ▸ Nat.mod_lt _ pp_pos
  have HE9 := Lib.hid hE9
  clear hE9
  obtain ⟨E10, hE10⟩ : ∃ r, r = E9 * E1 % pp := ⟨_, rfl⟩
  have lE10 : E10 < pp := hE10 ▸ Nat.mod_lt _ pp_pos
  have HE10 := Lib.hid hE10
  clear hE10
  have hx' := Lib.hid hx
  have hy' := Lib.hid hy
  have hok' : Hid (rOk E0 E1 = true) := Lib.hid (by rw [hx]; exact rOk_zero _)
  clear hx hy
  unfold Key
  go_enter Try.func9, Try.ntmps9
  go_wp2_with fail
  refine (awake_any _).mono ?_
  rintro e w1 ⟨rfl, b⟩
  have hS : Facts [.blk (w.heap.size) 23 (Iv .u8 l0), .blk (w.heap.size + 1) 23 (Iv .u8 l1)] w1 := Facts.below (Facts.cons ((Blk.new w _ _).alloc _) (Facts.cons (Blk.new' (by simp) _ _) Facts.nil)) b
  have hB : Below w.heap.size w w1 := (((Below.refl w.heap.size w).alloc (Nat.le_refl _) _).alloc (by simp) _).trans (b.mono (by simp; omega))
  clear b
  go_upto_region 3 with fail
  replace hS := hS.drew
  replace hB := below_drew hB
  refine wp_region_Z (S := Facts [.blk (w.heap.size) 23 (Iv .u8 l0), .blk (w.heap.size + 1) 23 (Iv .u8 l1)]) 7 (by kernel_rfl) ?_
  refine wpAnyZ_takeL 0 rfl (by kernel_rfl) (by kernel_rfl) (by kernel_rfl) (by kernel_rfl) (by kernel_rfl) (fun _ _ _ h => h) (show YieldsIf _ _ _ _ (Key l0) _ from yieldsIf_load rfl 23 _ rfl (w.heap.size) rfl 23 _ _ (.head _) Try.underlying23 rfl (info_key _ hl0.len)) hS ?_
  simp only [Act.put, List.setIfInBounds_toArray, List.set_cons_zero, List.set_cons_succ]
  refine wpAnyZ_takeL 2 rfl (by kernel_rfl) (by kernel_rfl) (by kernel_rfl) (by kernel_rfl) (by kernel_rfl) (fun _ _ _ h => h) (show YieldsIf _ _ _ _ (Key l1) _ from yieldsIf_load rfl 23 _ rfl (w.heap.size + 1) rfl 23 _ _ (.tail _ (.head _)) Try.underlying23 rfl (info_key _ hl1.len)) hS ?_
  simp only [Act.put, List.setIfInBounds_toArray, List.set_cons_zero, List.set_cons_succ]
  refine wpAnyZ_jobsL [(⟨1, 17⟩, .is (El E0)), (⟨3, 19⟩, .is (El E1)), (⟨4, 5⟩, .rel (fun v w' => ∃ g, v = .pointer (some ⟨g, 0, none⟩) ∧ Blk w' g 29 (El_cells 0))), (⟨5, 6⟩, .rel (fun v w' => ∃ g, v = .pointer (some ⟨g, 0, none⟩) ∧ Blk w' g 29 (El_cells 0)))] [] 2 _ _ _ (by kernel_rfl) (fun _ _ _ _ _ h => h) ?_ (fun _ _ _ _ _ h => h) (fun _ _ h hb => h.below hb) hS ?_ ?_ ?_
  · exact fun _ _ h => by cases h
  · intro j hj
    simp only [List.map_cons, List.map_nil, List.mem_cons, List.not_mem_nil, or_false] at hj
    rcases hj with rfl | rfl | rfl | rfl
    · exact fun _ _ _ h _ => h
    · exact fun _ _ _ h _ => h
    · intro v w1 w2 h hb
      obtain ⟨g, e, H⟩ : ∃ g, v = .pointer (some ⟨g, 0, none⟩) ∧ Blk w1 g 29 (El_cells 0) := h
      exact ⟨g, e, H.below' hb⟩
    · intro v w1 w2 h hb
      obtain ⟨g, e, H⟩ : ∃ g, v = .pointer (some ⟨g, 0, none⟩) ∧ Blk w1 g 29 (El_cells 0) := h
      exact ⟨g, e, H.below' hb⟩
  · intro j hj
    simp only [List.map_cons, List.map_nil, List.mem_cons, List.not_mem_nil, or_false] at hj
    rcases hj with rfl | rfl | rfl | rfl
    · refine job_frame [] (by kernel_rfl) ?_
      show JobAt _ _ _ _ _ _ _
      intro W K hS' hK
      unfold wpOp
      go_simp
      left
      refine (of_v l0 f0 hl0 E0 HE0.out _).mono ?_
      rintro e v ⟨rfl, b⟩
      exact hK _ _ rfl b (fun g hg => ((block_agg _) g hg).elim)
    · refine job_frame [] (by kernel_rfl) ?_
      show JobAt _ _ _ _ _ _ _
      intro W K hS' hK
      unfold wpOp
      go_simp
      left
      refine (of_v l1 f1 hl1 E1 HE1.out _).mono ?_
      rintro e v ⟨rfl, b⟩
      exact hK _ _ rfl b (fun g hg => ((block_agg _) g hg).elim)
    · refine job_frame [] (by kernel_rfl) ?_
      show JobAt _ _ _ _ _ _ _
      exact job_alloc 29 (El_cells 0) _ _ rfl rfl rfl (fun W => by go_simp; rfl)
    · refine job_frame [] (by kernel_rfl) ?_
      show JobAt _ _ _ _ _ _ _
      exact job_alloc 29 (El_cells 0) _ _ rfl rfl rfl (fun W => by go_simp; rfl)
  · intro f W hS2 hB1 hR hF hA
    have e1 : f 1 = (El E0) := hR ⟨1, 17⟩ (by simp)
    have e3 : f 3 = (El E1) := hR ⟨3, 19⟩ (by simp)
    obtain ⟨g4r3, e4, A4⟩ : ∃ g, f 4 = .pointer (some ⟨g, 0, none⟩) ∧ Blk W g 29 (El_cells 0) := hR ⟨4, 5⟩ (by simp)
    have n4 : _ ≤ g4r3 := (hF ⟨4, 5⟩ (by simp) g4r3 (by show blockOf (f 4) = _; rw [e4]; rfl)).1
    obtain ⟨g5r3, e5, A5⟩ : ∃ g, f 5 = .pointer (some ⟨g, 0, none⟩) ∧ Blk W g 29 (El_cells 0) := hR ⟨5, 6⟩ (by simp)
    have n5 : _ ≤ g5r3 := (hF ⟨5, 6⟩ (by simp) g5r3 (by show blockOf (f 5) = _; rw [e5]; rfl)).1
    have d4_5 : g4r3 ≠ g5r3 := fun h => hA ⟨4, 5⟩ (by simp) ⟨5, 6⟩ (by simp) (by decide) g4r3 (by show blockOf (f 4) = _; rw [e4]; rfl) (by show blockOf (f 5) = _; rw [e5, h]; rfl)
    clear hA hF hR
    simp only [setAll, putAll, List.map_cons, List.map_nil, List.foldr_cons, List.foldr_nil, Act.put, List.setIfInBounds_toArray, List.set_cons_zero, List.set_cons_succ, e1, e3, e4, e5]
    clear e1 e3 e4 e5
    have hBs := hB1
    replace hB1 := below_setRow hB1 n4 (El_cells E0)
    refine wpAnyZ_store_row 6 rfl (by kernel_rfl) rfl _ _ _ rfl g4r3 (El_cells E0) rfl rfl _ _ A4 (info_El _) rfl (El_one _) (hS.below hB1) ?_
    try simp only [Act.put, List.setIfInBounds_toArray, List.set_cons_zero, List.set_cons_succ]
    replace A5 := A5.rowFar (Ne.symm d4_5) (El_cells E0)
    replace A4 := A4.row (El_cells E0)
    replace hB1 := below_setRow hB1 n5 (El_cells E1)
    refine wpAnyZ_store_row 7 rfl (by kernel_rfl) rfl _ _ _ rfl g5r3 (El_cells E1) rfl rfl _ _ A5 (info_El _) rfl (El_one _) (hS.below hB1) ?_
    try simp only [Act.put, List.setIfInBounds_toArray, List.set_cons_zero, List.set_cons_succ]
    replace A4 := A4.rowFar d4_5 (El_cells E1)
    replace A5 := A5.row (El_cells E1)
    refine wpAnyZ_done (by kernel_rfl) ?_ _
    have hS3 := hS.below hB1
    replace hB := hB.trans (hB1.mono hB.size)
    clear hS hS2 hB1 hBs
    have hS : Facts [.blk (g4r3) 29 (El_cells E0), .blk (g5r3) 29 (El_cells E1), .blk (w.heap.size) 23 (Iv .u8 l0), .blk (w.heap.size + 1) 23 (Iv .u8 l1)] _ := Facts.cons (f := .blk g4r3 29 (El_cells E0)) A4 (Facts.cons (f := .blk g5r3 29 (El_cells E1)) A5 (hS3))
    clear hS3
    try clear n4 n5
    clear A4 A5
    generalize hWn : World.setRow _ _ _ = Wn at *
    clear hWn
    go_upto_region 4 with fail
    refine wp_region_seq ?_
    refine wpSeq_yield (S := Facts [.blk (g4r3) 29 (El_cells E0), .blk (g5r3) 29 (El_cells E1), .blk (w.heap.size) 23 (Iv .u8 l0), .blk (w.heap.size + 1) 23 (Iv .u8 l1)]) (show YieldsIf _ _ _ _ (El E0) _ from yieldsIf_load rfl 29 _ rfl (g4r3) rfl 29 _ _ (.head _) Try.underlying29 rfl (info_El _)) hS ?_
    simp only [Act.put, List.setIfInBounds_toArray, List.set_cons_zero, List.set_cons_succ]
    refine wpSeq_yield (S := Facts [.blk (g4r3) 29 (El_cells E0), .blk (g5r3) 29 (El_cells E1), .blk (w.heap.size) 23 (Iv .u8 l0), .blk (w.heap.size + 1) 23 (Iv .u8 l1)]) (show YieldsIf _ _ _ _ (El E1) _ from yieldsIf_load rfl 29 _ rfl (g5r3) rfl 29 _ _ (.tail _ (.head _)) Try.underlying29 rfl (info_El _)) hS ?_
    simp only [Act.put, List.setIfInBounds_toArray, List.set_cons_zero, List.set_cons_succ]
    refine wpSeq_wp rfl ?_
    go_simp
    refine (root_wB I E0 E1 E2 true _ hI lE0 lE1 HE2.out (hok'.out)).mono ?_
    rintro e v1 ⟨rfl, b⟩
    replace hB := hB.trans (b.mono hB.size)
    replace hS := hS.below b
    clear b
    show wpSeq _ _ _ _ _ _
    refine wpSeq_yield (S := Facts [.blk (g4r3) 29 (El_cells E0), .blk (g5r3) 29 (El_cells E1), .blk (w.heap.size) 23 (Iv .u8 l0), .blk (w.heap.size + 1) 23 (Iv .u8 l1)]) (yieldsIf_move rfl _ rfl _ rfl) hS ?_
    simp only [Act.put, List.setIfInBounds_toArray, List.set_cons_zero, List.set_cons_succ]
    refine wpSeq_yield (S := Facts [.blk (g4r3) 29 (El_cells E0), .blk (g5r3) 29 (El_cells E1), .blk (w.heap.size) 23 (Iv .u8 l0), .blk (w.heap.size + 1) 23 (Iv .u8 l1)]) (show YieldsIf _ _ _ _ (El E2) _ from yieldsIf_extract rfl _ _ rfl _ rfl _ rfl) hS ?_
    simp only [Act.put, List.setIfInBounds_toArray, List.set_cons_zero, List.set_cons_succ]
    refine wpSeq_yield (S := Facts [.blk (g4r3) 29 (El_cells E0), .blk (g5r3) 29 (El_cells E1), .blk (w.heap.size) 23 (Iv .u8 l0), .blk (w.heap.size + 1) 23 (Iv .u8 l1)]) (show YieldsIf _ _ _ _ (.bool true) _ from yieldsIf_extract rfl _ _ rfl _ rfl _ rfl) hS ?_
    simp only [Act.put, List.setIfInBounds_toArray, List.set_cons_zero, List.set_cons_succ]
    refine wpSeq_alloc 29 (El_cells 0) rfl (fun W => by go_simp; rfl) ?_
    simp only [Act.put, List.setIfInBounds_toArray, List.set_cons_zero, List.set_cons_succ]
    refine wpSeq_store_row rfl 29 _ _ rfl (v1.heap.size) (El_cells E2) rfl rfl _ _ (Blk.new _ _ _) (info_El _) rfl (El_one _) ?_
    try simp only [Act.put, List.setIfInBounds_toArray, List.set_cons_zero, List.set_cons_succ]
    have hb := below_setRow ((Below.refl v1.heap.size v1).alloc (Nat.le_refl _) (.cells (El_cells 0) 29)) (Nat.le_refl v1.heap.size) (El_cells E2)
    have A := (Blk.new v1 29 (El_cells 0)).row (El_cells E2)
    replace hB := hB.trans (hb.mono hB.size)
    replace hS := hS.below hb
    clear hb
    generalize hWn : World.setRow _ _ _ = Wn at *
    clear hWn
    generalize v1.heap.size = G1 at *
    replace hS : Facts [.blk (G1) 29 (El_cells E2), .blk (g4r3) 29 (El_cells E0), .blk (g5r3) 29 (El_cells E1), .blk (w.heap.size) 23 (Iv .u8 l0), .blk (w.heap.size + 1) 23 (Iv .u8 l1)] _ := Facts.cons (f := .blk G1 29 (El_cells E2)) A hS
    clear A
    refine wpSeq_yield (S := Facts [.blk (G1) 29 (El_cells E2), .blk (g4r3) 29 (El_cells E0), .blk (g5r3) 29 (El_cells E1), .blk (w.heap.size) 23 (Iv .u8 l0), .blk (w.heap.size + 1) 23 (Iv .u8 l1)]) (yieldsIf_assign rfl _ rfl _ rfl) hS ?_
    simp only [Act.put, List.setIfInBounds_toArray, List.set_cons_zero, List.set_cons_succ]
    refine wpSeq_nil ?_
    go_upto_region 5 with fail
    replace hS := hS.drew
    replace hB := below_drew hB
    refine wp_region_Z (S := Facts [.blk (G1) 29 (El_cells E2), .blk (g4r3) 29 (El_cells E0), .blk (g5r3) 29 (El_cells E1), .blk (w.heap.size) 23 (Iv .u8 l0), .blk (w.heap.size + 1) 23 (Iv .u8 l1)]) 5 (by kernel_rfl) ?_
    refine wpAnyZ_takeL 0 rfl (by kernel_rfl) (by kernel_rfl) (by kernel_rfl) (by kernel_rfl) (by kernel_rfl) (fun _ _ _ h => h) (show YieldsIf _ _ _ _ (Key l0) _ from yieldsIf_load rfl 23 _ rfl (w.heap.size) rfl 23 _ _ (.tail _ (.tail _ (.tail _ (.head _)))) Try.underlying23 rfl (info_key _ hl0.len)) hS ?_
    simp only [Act.put, List.setIfInBounds_toArray, List.set_cons_zero, List.set_cons_succ]
    refine wpAnyZ_takeL 2 rfl (by kernel_rfl) (by kernel_rfl) (by kernel_rfl) (by kernel_rfl) (by kernel_rfl) (fun _ _ _ h => h) (show YieldsIf _ _ _ _ (Key l1) _ from yieldsIf_load rfl 23 _ rfl (w.heap.size + 1) rfl 23 _ _ (.tail _ (.tail _ (.tail _ (.tail _ (.head _))))) Try.underlying23 rfl (info_key _ hl1.len)) hS ?_
    simp only [Act.put, List.setIfInBounds_toArray, List.set_cons_zero, List.set_cons_succ]
    refine wpAnyZ_one (i := 1) (by kernel_rfl) ?_
    unfold wpOp
    go_simp
    left
    refine (place_v l0 f0 hl0 E0 HE0.out _).mono ?_
    rintro e v2 ⟨r2, rfl, Hr2, b⟩
    replace hB := hB.trans (b.mono hB.size)
    replace hS := hS.below b
    clear b
    refine ⟨hS, ?_⟩
    refine wpAnyZ_one (i := 3) (by kernel_rfl) ?_
    unfold wpOp
    go_simp
    left
    refine (place_v l1 f1 hl1 E1 HE1.out _).mono ?_
    rintro e v3 ⟨r3, rfl, Hr3, b⟩
    replace hB := hB.trans (b.mono hB.size)
    replace hS := hS.below b
    replace Hr2 := Hr2.below b
    clear b
    refine ⟨hS, ?_⟩
    refine wpAnyZ_takeL 4 rfl (by kernel_rfl) (by kernel_rfl) (by kernel_rfl) (by kernel_rfl) (by kernel_rfl) (fun _ _ _ h => h) (yieldsIf_assign rfl _ rfl _ rfl) hS ?_
    simp only [Act.put, List.setIfInBounds_toArray, List.set_cons_zero, List.set_cons_succ]
    refine wpAnyZ_one (i := 5) (by kernel_rfl) ?_
    unfold wpOp
    go_simp
    left
    refine wpAnyZ_done (by kernel_rfl) ?_ _
    go_upto_region 6 with fail
    refine wp_region_shut ?_
    refine wpShut_yield (S := Facts [.blk (G1) 29 (El_cells E2), .blk (g4r3) 29 (El_cells E0), .blk (g5r3) 29 (El_cells E1), .blk (w.heap.size) 23 (Iv .u8 l0), .blk (w.heap.size + 1) 23 (Iv .u8 l1)]) (show YieldsIf _ _ _ _ (El E0) _ from yieldsIf_load rfl 29 _ rfl (g4r3) rfl 29 _ _ (.tail _ (.head _)) Try.underlying29 rfl (info_El _)) hS ?_
    simp only [Act.put, List.setIfInBounds_toArray, List.set_cons_zero, List.set_cons_succ]
    refine wpShut_wp rfl ?_
    go_simp
    refine (zero_v E0 true _ (decide_eq_true hx'.out)).mono ?_
    rintro e v4 ⟨rfl, b⟩
    replace hB := hB.trans (b.mono hB.size)
    replace hS := hS.below b
    replace Hr2 := Hr2.below b
    replace Hr3 := Hr3.below b
    clear b
    show wpShut _ _ _ _ _ _
    refine wpShut_yield (S := Facts [.blk (G1) 29 (El_cells E2), .blk (g4r3) 29 (El_cells E0), .blk (g5r3) 29 (El_cells E1), .blk (w.heap.size) 23 (Iv .u8 l0), .blk (w.heap.size + 1) 23 (Iv .u8 l1)]) (yieldsIf_move rfl _ rfl _ rfl) hS ?_
    simp only [Act.put, List.setIfInBounds_toArray, List.set_cons_zero, List.set_cons_succ]
    refine wpShut_yield (S := Facts [.blk (G1) 29 (El_cells E2), .blk (g4r3) 29 (El_cells E0), .blk (g5r3) 29 (El_cells E1), .blk (w.heap.size) 23 (Iv .u8 l0), .blk (w.heap.size + 1) 23 (Iv .u8 l1)]) (yieldsIf_off rfl) hS ?_
    simp only [Act.put, List.setIfInBounds_toArray, List.set_cons_zero, List.set_cons_succ]
    refine wpShut_yield (S := Facts [.blk (G1) 29 (El_cells E2), .blk (g4r3) 29 (El_cells E0), .blk (g5r3) 29 (El_cells E1), .blk (w.heap.size) 23 (Iv .u8 l0), .blk (w.heap.size + 1) 23 (Iv .u8 l1)]) (yieldsIf_off rfl) hS ?_
    simp only [Act.put, List.setIfInBounds_toArray, List.set_cons_zero, List.set_cons_succ]
    refine wpShut_yield (S := Facts [.blk (G1) 29 (El_cells E2), .blk (g4r3) 29 (El_cells E0), .blk (g5r3) 29 (El_cells E1), .blk (w.heap.size) 23 (Iv .u8 l0), .blk (w.heap.size + 1) 23 (Iv .u8 l1)]) (yieldsIf_off rfl) hS ?_
    simp only [Act.put, List.setIfInBounds_toArray, List.set_cons_zero, List.set_cons_succ]
    refine wpShut_yield (S := Facts [.blk (G1) 29 (El_cells E2), .blk (g4r3) 29 (El_cells E0), .blk (g5r3) 29 (El_cells E1), .blk (w.heap.size) 23 (Iv .u8 l0), .blk (w.heap.size + 1) 23 (Iv .u8 l1)]) (yieldsIf_off rfl) hS ?_
    simp only [Act.put, List.setIfInBounds_toArray, List.set_cons_zero, List.set_cons_succ]
    refine wpShut_yield (S := Facts [.blk (G1) 29 (El_cells E2), .blk (g4r3) 29 (El_cells E0), .blk (g5r3) 29 (El_cells E1), .blk (w.heap.size) 23 (Iv .u8 l0), .blk (w.heap.size + 1) 23 (Iv .u8 l1)]) (yieldsIf_off rfl) hS ?_
    simp only [Act.put, List.setIfInBounds_toArray, List.set_cons_zero, List.set_cons_succ]
    refine wpShut_yield (S := Facts [.blk (G1) 29 (El_cells E2), .blk (g4r3) 29 (El_cells E0), .blk (g5r3) 29 (El_cells E1), .blk (w.heap.size) 23 (Iv .u8 l0), .blk (w.heap.size + 1) 23 (Iv .u8 l1)]) (yieldsIf_off rfl) hS ?_
    simp only [Act.put, List.setIfInBounds_toArray, List.set_cons_zero, List.set_cons_succ]
    refine wpShut_yield (S := Facts [.blk (G1) 29 (El_cells E2), .blk (g4r3) 29 (El_cells E0), .blk (g5r3) 29 (El_cells E1), .blk (w.heap.size) 23 (Iv .u8 l0), .blk (w.heap.size + 1) 23 (Iv .u8 l1)]) (yieldsIf_off rfl) hS ?_
    simp only [Act.put, List.setIfInBounds_toArray, List.set_cons_zero, List.set_cons_succ]
    refine wpShut_yield (S := Facts [.blk (G1) 29 (El_cells E2), .blk (g4r3) 29 (El_cells E0), .blk (g5r3) 29 (El_cells E1), .blk (w.heap.size) 23 (Iv .u8 l0), .blk (w.heap.size + 1) 23 (Iv .u8 l1)]) (yieldsIf_off rfl) hS ?_
    simp only [Act.put, List.setIfInBounds_toArray, List.set_cons_zero, List.set_cons_succ]
    refine wpShut_yield (S := Facts [.blk (G1) 29 (El_cells E2), .blk (g4r3) 29 (El_cells E0), .blk (g5r3) 29 (El_cells E1), .blk (w.heap.size) 23 (Iv .u8 l0), .blk (w.heap.size + 1) 23 (Iv .u8 l1)]) (yieldsIf_off rfl) hS ?_
    simp only [Act.put, List.setIfInBounds_toArray, List.set_cons_zero, List.set_cons_succ]
    refine wpShut_yield (S := Facts [.blk (G1) 29 (El_cells E2), .blk (g4r3) 29 (El_cells E0), .blk (g5r3) 29 (El_cells E1), .blk (w.heap.size) 23 (Iv .u8 l0), .blk (w.heap.size + 1) 23 (Iv .u8 l1)]) (yieldsIf_off rfl) hS ?_
    simp only [Act.put, List.setIfInBounds_toArray, List.set_cons_zero, List.set_cons_succ]
    refine wpShut_yield (S := Facts [.blk (G1) 29 (El_cells E2), .blk (g4r3) 29 (El_cells E0), .blk (g5r3) 29 (El_cells E1), .blk (w.heap.size) 23 (Iv .u8 l0), .blk (w.heap.size + 1) 23 (Iv .u8 l1)]) (yieldsIf_pick rfl _ _ _ rfl true rfl _ rfl) hS ?_
    simp only [Act.put, List.setIfInBounds_toArray, List.set_cons_zero, List.set_cons_succ]
    refine wpShut_yield (S := Facts [.blk (G1) 29 (El_cells E2), .blk (g4r3) 29 (El_cells E0), .blk (g5r3) 29 (El_cells E1), .blk (w.heap.size) 23 (Iv .u8 l0), .blk (w.heap.size + 1) 23 (Iv .u8 l1)]) (yieldsIf_assign rfl _ rfl _ rfl) hS ?_
    simp only [Act.put, List.setIfInBounds_toArray, List.set_cons_zero, List.set_cons_succ]
    refine wpShut_nil ?_
    go_upto_region 7 with fail
    replace hS := hS.drew
    replace hB := below_drew hB
    replace Hr2 := Hr2.drew
    replace Hr3 := Hr3.drew
    refine wp_region_S (S := Facts [.blk (G1) 29 (El_cells E2), .blk (g4r3) 29 (El_cells E0), .blk (g5r3) 29 (El_cells E1), .blk (w.heap.size) 23 (Iv .u8 l0), .blk (w.heap.size + 1) 23 (Iv .u8 l1)]) (by kernel_rfl) ?_
    refine wpAnyS_takeL 0 rfl (by kernel_rfl) (by kernel_rfl) (by kernel_rfl) (fun _ _ _ h => h) (yieldsIf_move rfl _ rfl _ rfl) hS ?_
    simp only [Act.put, List.setIfInBounds_toArray, List.set_cons_zero, List.set_cons_succ]
    refine wpAnyS_takeL 1 rfl (by kernel_rfl) (by kernel_rfl) (by kernel_rfl) (fun _ _ _ h => h) (yieldsIf_move rfl _ rfl _ rfl) hS ?_
    simp only [Act.put, List.setIfInBounds_toArray, List.set_cons_zero, List.set_cons_succ]
    refine wpAnyS_takeL 2 (v := (.bool false)) rfl (by kernel_rfl) (by kernel_rfl) (by kernel_rfl) (fun _ _ _ h => h) (Or.inl ⟨by rfl, ?_⟩) hS ?_
    · intro w' _
      go_simp
    simp only [Act.put, List.setIfInBounds_toArray, List.set_cons_zero, List.set_cons_succ]
    refine wpAnyS_takeL 3 rfl (by kernel_rfl) (by kernel_rfl) (by kernel_rfl) (fun _ _ _ h => h) (yieldsIf_move rfl _ rfl _ rfl) hS ?_
    simp only [Act.put, List.setIfInBounds_toArray, List.set_cons_zero, List.set_cons_succ]
    refine wpAnyS_takeL 4 rfl (by kernel_rfl) (by kernel_rfl) (by kernel_rfl) (fun _ _ _ h => h) (yieldsIf_move rfl _ rfl _ rfl) hS ?_
    simp only [Act.put, List.setIfInBounds_toArray, List.set_cons_zero, List.set_cons_succ]
    refine wpAnyS_takeL 5 rfl (by kernel_rfl) (by kernel_rfl) (by kernel_rfl) (fun _ _ _ h => h) (yieldsIf_move rfl _ rfl _ rfl) hS ?_
    simp only [Act.put, List.setIfInBounds_toArray, List.set_cons_zero, List.set_cons_succ]
    refine wpAnyS_takeL 6 rfl (by kernel_rfl) (by kernel_rfl) (by kernel_rfl) (fun _ _ _ h => h) (show YieldsIf _ _ _ _ (El E2) _ from yieldsIf_load rfl 29 _ rfl (G1) rfl 29 _ _ (.head _) Try.underlying29 rfl (info_El _)) hS ?_
    simp only [Act.put, List.setIfInBounds_toArray, List.set_cons_zero, List.set_cons_succ]
    refine wpAnyS_takeL 7 rfl (by kernel_rfl) (by kernel_rfl) (by kernel_rfl) (fun _ _ _ h => h) (show YieldsIf _ _ _ _ (El E2) _ from yieldsIf_load rfl 29 _ rfl (G1) rfl 29 _ _ (.head _) Try.underlying29 rfl (info_El _)) hS ?_
    simp only [Act.put, List.setIfInBounds_toArray, List.set_cons_zero, List.set_cons_succ]
    refine wpAnyS_takeL 9 rfl (by kernel_rfl) (by kernel_rfl) (by kernel_rfl) (fun _ _ _ h => h) (show YieldsIf _ _ _ _ (El E1) _ from yieldsIf_load rfl 29 _ rfl (g5r3) rfl 29 _ _ (.tail _ (.tail _ (.head _))) Try.underlying29 rfl (info_El _)) hS ?_
    simp only [Act.put, List.setIfInBounds_toArray, List.set_cons_zero, List.set_cons_succ]
    refine wpAnyS_takeL 11 rfl (by kernel_rfl) (by kernel_rfl) (by kernel_rfl) (fun _ _ _ h => h) (show YieldsIf _ _ _ _ (El E0) _ from yieldsIf_load rfl 29 _ rfl (g4r3) rfl 29 _ _ (.tail _ (.head _)) Try.underlying29 rfl (info_El _)) hS ?_
    simp only [Act.put, List.setIfInBounds_toArray, List.set_cons_zero, List.set_cons_succ]
    refine wpAnyS_one (i := 8) (by kernel_rfl) ?_
    unfold wpOp
    go_simp
    left
    refine (mul_v E2 E2 E3 _ lE2 lE2 HE3.out).mono ?_
    rintro e v5 ⟨rfl, b⟩
    replace hB := hB.trans (b.mono hB.size)
    replace hS := hS.below b
    replace Hr2 := Hr2.below b
    replace Hr3 := Hr3.below b
    clear b
    refine ⟨hS, ?_⟩
    refine wpAnyS_one (i := 10) (by kernel_rfl) ?_
    unfold wpOp
    go_simp
    left
    refine (mul_v E3 E1 E4 _ lE3 lE1 HE4.out).mono ?_
    rintro e v6 ⟨rfl, b⟩
    replace hB := hB.trans (b.mono hB.size)
    replace hS := hS.below b
    replace Hr2 := Hr2.below b
    replace Hr3 := Hr3.below b
    clear b
    refine ⟨hS, ?_⟩
    refine wpAnyS_one (i := 12) (by kernel_rfl) ?_
    unfold wpOp
    go_simp
    left
    refine (same_v E4 E0 true _ (decide_eq_true (by rw [HE4.out, HE3.out, HE2.out]; exact rV_sq hI lE0 hok'.out))).mono ?_
    rintro e v7 ⟨rfl, b⟩
    replace hB := hB.trans (b.mono hB.size)
    replace hS := hS.below b
    replace Hr2 := Hr2.below b
    replace Hr3 := Hr3.below b
    clear b
    refine ⟨hS, ?_⟩
    refine wpAnyS_takeL 13 rfl (by kernel_rfl) (by kernel_rfl) (by kernel_rfl) (fun _ _ _ h => h) (yieldsIf_not rfl _ _ rfl true rfl) hS ?_
    simp only [Act.put, List.setIfInBounds_toArray, List.set_cons_zero, List.set_cons_succ]
    refine wpAnyS_takeL 14 rfl (by kernel_rfl) (by kernel_rfl) (by kernel_rfl) (fun _ _ _ h => h) (yieldsIf_pick rfl _ _ _ rfl true rfl _ rfl) hS ?_
    simp only [Act.put, List.setIfInBounds_toArray, List.set_cons_zero, List.set_cons_succ]
    refine wpAnyS_takeL 15 rfl (by kernel_rfl) (by kernel_rfl) (by kernel_rfl) (fun _ _ _ h => h) (yieldsIf_pick rfl _ _ _ rfl false rfl _ rfl) hS ?_
    simp only [Act.put, List.setIfInBounds_toArray, List.set_cons_zero, List.set_cons_succ]
    refine wpAnyS_takeL 16 rfl (by kernel_rfl) (by kernel_rfl) (by kernel_rfl) (fun _ _ _ h => h) (yieldsIf_move rfl _ rfl _ rfl) hS ?_
    simp only [Act.put, List.setIfInBounds_toArray, List.set_cons_zero, List.set_cons_succ]
    refine wpAnyS_takeL 17 rfl (by kernel_rfl) (by kernel_rfl) (by kernel_rfl) (fun _ _ _ h => h) (yieldsIf_move rfl _ rfl _ rfl) hS ?_
    simp only [Act.put, List.setIfInBounds_toArray, List.set_cons_zero, List.set_cons_succ]
    refine wpAnyS_takeL 18 rfl (by kernel_rfl) (by kernel_rfl) (by kernel_rfl) (fun _ _ _ h => h) (yieldsIf_not rfl _ _ rfl true rfl) hS ?_
    simp only [Act.put, List.setIfInBounds_toArray, List.set_cons_zero, List.set_cons_succ]
    refine wpAnyS_takeL 19 rfl (by kernel_rfl) (by kernel_rfl) (by kernel_rfl) (fun _ _ _ h => h) (yieldsIf_move rfl _ rfl _ rfl) hS ?_
    simp only [Act.put, List.setIfInBounds_toArray, List.set_cons_zero, List.set_cons_succ]
    refine wpAnyS_takeL 20 rfl (by kernel_rfl) (by kernel_rfl) (by kernel_rfl) (fun _ _ _ h => h) (yieldsIf_off rfl) hS ?_
    simp only [Act.put, List.setIfInBounds_toArray, List.set_cons_zero, List.set_cons_succ]
    refine wpAnyS_takeL 21 rfl (by kernel_rfl) (by kernel_rfl) (by kernel_rfl) (fun _ _ _ h => h) (yieldsIf_off rfl) hS ?_
    simp only [Act.put, List.setIfInBounds_toArray, List.set_cons_zero, List.set_cons_succ]
    refine wpAnyS_takeL 22 rfl (by kernel_rfl) (by kernel_rfl) (by kernel_rfl) (fun _ _ _ h => h) (yieldsIf_off rfl) hS ?_
    simp only [Act.put, List.setIfInBounds_toArray, List.set_cons_zero, List.set_cons_succ]
    refine wpAnyS_takeL 23 rfl (by kernel_rfl) (by kernel_rfl) (by kernel_rfl) (fun _ _ _ h => h) (yieldsIf_pick rfl _ _ _ rfl false rfl _ rfl) hS ?_
    simp only [Act.put, List.setIfInBounds_toArray, List.set_cons_zero, List.set_cons_succ]
    refine wpAnyS_takeL 24 rfl (by kernel_rfl) (by kernel_rfl) (by kernel_rfl) (fun _ _ _ h => h) (yieldsIf_pick rfl _ _ _ rfl false rfl _ rfl) hS ?_
    simp only [Act.put, List.setIfInBounds_toArray, List.set_cons_zero, List.set_cons_succ]
    refine wpAnyS_done (by kernel_rfl) ?_ _
    go_upto_region 9 with fail
    replace hS := hS.drew
    replace hB := below_drew hB
    replace Hr2 := Hr2.drew
    replace Hr3 := Hr3.drew
    refine wp_region_Z (S := Facts [.blk (G1) 29 (El_cells E2), .blk (g4r3) 29 (El_cells E0), .blk (g5r3) 29 (El_cells E1), .blk (w.heap.size) 23 (Iv .u8 l0), .blk (w.heap.size + 1) 23 (Iv .u8 l1)]) 12 (by kernel_rfl) ?_
    refine wpAnyZ_takeL 0 rfl (by kernel_rfl) (by kernel_rfl) (by kernel_rfl) (by kernel_rfl) (by kernel_rfl) (fun _ _ _ h => h) (show YieldsIf _ _ _ _ (El E0) _ from yieldsIf_load rfl 29 _ rfl (g4r3) rfl 29 _ _ (.tail _ (.head _)) Try.underlying29 rfl (info_El _)) hS ?_
    simp only [Act.put, List.setIfInBounds_toArray, List.set_cons_zero, List.set_cons_succ]
    refine wpAnyZ_takeL 1 rfl (by kernel_rfl) (by kernel_rfl) (by kernel_rfl) (by kernel_rfl) (by kernel_rfl) (fun _ _ _ h => h) (show YieldsIf _ _ _ _ (El E0) _ from yieldsIf_load rfl 29 _ rfl (g4r3) rfl 29 _ _ (.tail _ (.head _)) Try.underlying29 rfl (info_El _)) hS ?_
    simp only [Act.put, List.setIfInBounds_toArray, List.set_cons_zero, List.set_cons_succ]
    refine wpAnyZ_takeL 3 rfl (by kernel_rfl) (by kernel_rfl) (by kernel_rfl) (by kernel_rfl) (by kernel_rfl) (fun _ _ _ h => h) (show YieldsIf _ _ _ _ (El E1) _ from yieldsIf_load rfl 29 _ rfl (g5r3) rfl 29 _ _ (.tail _ (.tail _ (.head _))) Try.underlying29 rfl (info_El _)) hS ?_
    simp only [Act.put, List.setIfInBounds_toArray, List.set_cons_zero, List.set_cons_succ]
    refine wpAnyZ_takeL 4 rfl (by kernel_rfl) (by kernel_rfl) (by kernel_rfl) (by kernel_rfl) (by kernel_rfl) (fun _ _ _ h => h) (show YieldsIf _ _ _ _ (El E1) _ from yieldsIf_load rfl 29 _ rfl (g5r3) rfl 29 _ _ (.tail _ (.tail _ (.head _))) Try.underlying29 rfl (info_El _)) hS ?_
    simp only [Act.put, List.setIfInBounds_toArray, List.set_cons_zero, List.set_cons_succ]
    refine wpAnyZ_jobsL [(⟨2, 72⟩, .is (El E5)), (⟨5, 75⟩, .is (El E6)), (⟨6, 76⟩, .is (.tuple #[(El E7), (.bool true)])), (⟨7, 69⟩, .is (.tuple #[(El E7), (.bool true)])), (⟨8, 77⟩, .is (El E7)), (⟨9, 78⟩, .is (.bool true)), (⟨10, 12⟩, .rel (fun v w' => ∃ g, v = .pointer (some ⟨g, 0, none⟩) ∧ Blk w' g 29 (El_cells 0)))] [9] 2 _ _ _ (by kernel_rfl) (fun _ _ _ _ _ h => h) ?_ (fun _ _ _ _ _ h => h) (fun _ _ h hb => h.below hb) hS ?_ ?_ ?_
    · intro j hj hl
      simp only [List.map_cons, List.map_nil, List.mem_cons, List.not_mem_nil, or_false] at hj
      rcases hj with rfl | rfl | rfl | rfl | rfl | rfl | rfl
      · exact absurd hl (by decide)
      · exact absurd hl (by decide)
      · exact absurd hl (by decide)
      · exact absurd hl (by decide)
      · exact absurd hl (by decide)
      · refine ⟨_, rfl, yields_frame [⟨7, 69⟩] (by kernel_rfl) ?_, fun _ => rfl, (block_bool _)⟩
        show YieldsIf _ _ _ _ (.bool true) (Act.put _ (some 69) (.tuple #[(El E7), (.bool true)]))
        simp only [Act.put, List.setIfInBounds_toArray, List.set_cons_zero, List.set_cons_succ]
        exact (show YieldsIf _ _ _ _ (.bool true) _ from yieldsIf_extract rfl _ _ rfl _ rfl _ rfl)
      · exact absurd hl (by decide)
    · intro j hj
      simp only [List.map_cons, List.map_nil, List.mem_cons, List.not_mem_nil, or_false] at hj
      rcases hj with rfl | rfl | rfl | rfl | rfl | rfl | rfl
      · exact fun _ _ _ h _ => h
      · exact fun _ _ _ h _ => h
      · exact fun _ _ _ h _ => h
      · exact fun _ _ _ h _ => h
      · exact fun _ _ _ h _ => h
      · exact fun _ _ _ h _ => h
      · intro v w1 w2 h hb
        obtain ⟨g, e, H⟩ : ∃ g, v = .pointer (some ⟨g, 0, none⟩) ∧ Blk w1 g 29 (El_cells 0) := h
        exact ⟨g, e, H.below' hb⟩
    · intro j hj
      simp only [List.map_cons, List.map_nil, List.mem_cons, List.not_mem_nil, or_false] at hj
      rcases hj with rfl | rfl | rfl | rfl | rfl | rfl | rfl
      · refine job_frame [] (by kernel_rfl) ?_
        show JobAt _ _ _ _ _ _ _
        intro W K hS' hK
        unfold wpOp
        go_simp
        left
        refine (mul_v E0 E0 E5 _ lE0 lE0 HE5.out).mono ?_
        rintro e v ⟨rfl, b⟩
        exact hK _ _ rfl b (fun g hg => ((block_agg _) g hg).elim)
      · refine job_frame [] (by kernel_rfl) ?_
        show JobAt _ _ _ _ _ _ _
        intro W K hS' hK
        unfold wpOp
        go_simp
        left
        refine (mul_v E1 E1 E6 _ lE1 lE1 HE6.out).mono ?_
        rintro e v ⟨rfl, b⟩
        exact hK _ _ rfl b (fun g hg => ((block_agg _) g hg).elim)
      · refine job_frame [⟨2, 72⟩, ⟨5, 75⟩] (by kernel_rfl) ?_
        show JobAt _ _ _ _ (Act.put (Act.put _ (some 75) (El E6)) (some 72) (El E5)) _ _
        simp only [Act.put, List.setIfInBounds_toArray, List.set_cons_zero, List.set_cons_succ]
        intro W K hS' hK
        unfold wpOp
        go_simp
        left
        refine (root_wB I E5 E6 E7 true _ hI lE5 lE6 HE7.out (by rw [HE5.out, HE6.out]; exact rOk_squares lE1 hy'.out)).mono ?_
        rintro e v ⟨rfl, b⟩
        exact hK _ _ rfl b (fun g hg => ((block_tuple _) g hg).elim)
      · refine job_frame [⟨6, 76⟩] (by kernel_rfl) ?_
        show JobAt _ _ _ _ (Act.put _ (some 76) (.tuple #[(El E7), (.bool true)])) _ _
        simp only [Act.put, List.setIfInBounds_toArray, List.set_cons_zero, List.set_cons_succ]
        exact job_yield rfl rfl (.tuple #[(El E7), (.bool true)]) (block_tuple _) (yieldsIf_move rfl _ rfl _ rfl)
      · refine job_frame [⟨7, 69⟩] (by kernel_rfl) ?_
        show JobAt _ _ _ _ (Act.put _ (some 69) (.tuple #[(El E7), (.bool true)])) _ _
        simp only [Act.put, List.setIfInBounds_toArray, List.set_cons_zero, List.set_cons_succ]
        exact job_yield rfl rfl (El E7) (block_agg _) (show YieldsIf _ _ _ _ (El E7) _ from yieldsIf_extract rfl _ _ rfl _ rfl _ rfl)
      · refine job_frame [⟨7, 69⟩] (by kernel_rfl) ?_
        show JobAt _ _ _ _ (Act.put _ (some 69) (.tuple #[(El E7), (.bool true)])) _ _
        simp only [Act.put, List.setIfInBounds_toArray, List.set_cons_zero, List.set_cons_succ]
        exact job_yield rfl rfl (.bool true) (block_bool _) (show YieldsIf _ _ _ _ (.bool true) _ from yieldsIf_extract rfl _ _ rfl _ rfl _ rfl)
      · refine job_frame [] (by kernel_rfl) ?_
        show JobAt _ _ _ _ _ _ _
        exact job_alloc 29 (El_cells 0) _ _ rfl rfl rfl (fun W => by go_simp; rfl)
    · intro f W hS2 hB1 hR hF hA
      have e2 : f 2 = (El E5) := hR ⟨2, 72⟩ (by simp)
      have e5 : f 5 = (El E6) := hR ⟨5, 75⟩ (by simp)
      have e6 : f 6 = (.tuple #[(El E7), (.bool true)]) := hR ⟨6, 76⟩ (by simp)
      have e7 : f 7 = (.tuple #[(El E7), (.bool true)]) := hR ⟨7, 69⟩ (by simp)
      have e8 : f 8 = (El E7) := hR ⟨8, 77⟩ (by simp)
      have e9 : f 9 = (.bool true) := hR ⟨9, 78⟩ (by simp)
      obtain ⟨g10r9, e10, A10⟩ : ∃ g, f 10 = .pointer (some ⟨g, 0, none⟩) ∧ Blk W g 29 (El_cells 0) := hR ⟨10, 12⟩ (by simp)
      have n10 : _ ≤ g10r9 := (hF ⟨10, 12⟩ (by simp) g10r9 (by show blockOf (f 10) = _; rw [e10]; rfl)).1
      clear hA hF hR
      simp only [setAll, putAll, List.map_cons, List.map_nil, List.foldr_cons, List.foldr_nil, Act.put, List.setIfInBounds_toArray, List.set_cons_zero, List.set_cons_succ, e2, e5, e6, e7, e8, e9, e10]
      clear e2 e5 e6 e7 e8 e9 e10
      have hBs := hB1
      replace hB1 := below_setRow hB1 n10 (El_cells E7)
      refine wpAnyZ_store_row 11 rfl (by kernel_rfl) rfl _ _ _ rfl g10r9 (El_cells E7) rfl rfl _ _ A10 (info_El _) rfl (El_one _) (hS.below hB1) ?_
      try simp only [Act.put, List.setIfInBounds_toArray, List.set_cons_zero, List.set_cons_succ]
      replace A10 := A10.row (El_cells E7)
      refine wpAnyZ_one (i := 12) (by kernel_rfl) ?_
      unfold wpOp
      go_simp
      left
      refine wpAnyZ_done (by kernel_rfl) ?_ _
      replace Hr2 := Hr2.below hB1
      replace Hr3 := Hr3.below hB1
      have hS3 := hS.below hB1
      replace hB := hB.trans (hB1.mono hB.size)
      clear hS hS2 hB1 hBs
      have hS : Facts [.blk (g10r9) 29 (El_cells E7), .blk (G1) 29 (El_cells E2), .blk (g4r3) 29 (El_cells E0), .blk (g5r3) 29 (El_cells E1), .blk (w.heap.size) 23 (Iv .u8 l0), .blk (w.heap.size + 1) 23 (Iv .u8 l1)] _ := Facts.cons (f := .blk g10r9 29 (El_cells E7)) A10 (hS3)
      clear hS3
      try clear n10
      clear A10
      generalize hWn : World.setRow _ _ _ = Wn at *
      clear hWn
      go_upto_region 10 with fail
      replace hS := hS.drew
      replace hB := below_drew hB
      replace Hr2 := Hr2.drew
      replace Hr3 := Hr3.drew
      refine wp_region_Z (S := Facts [.blk (g10r9) 29 (El_cells E7), .blk (G1) 29 (El_cells E2), .blk (g4r3) 29 (El_cells E0), .blk (g5r3) 29 (El_cells E1), .blk (w.heap.size) 23 (Iv .u8 l0), .blk (w.heap.size + 1) 23 (Iv .u8 l1)]) 29 (by kernel_rfl) ?_
      refine wpAnyZ_takeL 0 rfl (by kernel_rfl) (by kernel_rfl) (by kernel_rfl) (by kernel_rfl) (by kernel_rfl) (fun _ _ _ h => h) (show YieldsIf _ _ _ _ (El E1) _ from yieldsIf_load rfl 29 _ rfl (g5r3) rfl 29 _ _ (.tail _ (.tail _ (.tail _ (.head _)))) Try.underlying29 rfl (info_El _)) hS ?_
      simp only [Act.put, List.setIfInBounds_toArray, List.set_cons_zero, List.set_cons_succ]
      refine wpAnyZ_one (i := 1) (by kernel_rfl) ?_
      unfold wpOp
      go_simp
      left
      refine (zero_v E1 false _ (decide_eq_false hy'.out)).mono ?_
      rintro e v8 ⟨rfl, b⟩
      replace hB := hB.trans (b.mono hB.size)
      replace hS := hS.below b
      replace Hr2 := Hr2.below b
      replace Hr3 := Hr3.below b
      clear b
      refine ⟨hS, ?_⟩
      refine wpAnyZ_takeL 2 rfl (by kernel_rfl) (by kernel_rfl) (by kernel_rfl) (by kernel_rfl) (by kernel_rfl) (fun _ _ _ h => h) (yieldsIf_move rfl _ rfl _ rfl) hS ?_
      simp only [Act.put, List.setIfInBounds_toArray, List.set_cons_zero, List.set_cons_succ]
      refine wpAnyZ_takeL 3 rfl (by kernel_rfl) (by kernel_rfl) (by kernel_rfl) (by kernel_rfl) (by kernel_rfl) (fun _ _ _ h => h) (yieldsIf_off rfl) hS ?_
      simp only [Act.put, List.setIfInBounds_toArray, List.set_cons_zero, List.set_cons_succ]
      refine wpAnyZ_takeL 4 rfl (by kernel_rfl) (by kernel_rfl) (by kernel_rfl) (by kernel_rfl) (by kernel_rfl) (fun _ _ _ h => h) (yieldsIf_off rfl) hS ?_
      simp only [Act.put, List.setIfInBounds_toArray, List.set_cons_zero, List.set_cons_succ]
      refine wpAnyZ_takeL 5 rfl (by kernel_rfl) (by kernel_rfl) (by kernel_rfl) (by kernel_rfl) (by kernel_rfl) (fun _ _ _ h => h) (yieldsIf_off rfl) hS ?_
      simp only [Act.put, List.setIfInBounds_toArray, List.set_cons_zero, List.set_cons_succ]
      refine wpAnyZ_takeL 6 rfl (by kernel_rfl) (by kernel_rfl) (by kernel_rfl) (by kernel_rfl) (by kernel_rfl) (fun _ _ _ h => h) (yieldsIf_off rfl) hS ?_
      simp only [Act.put, List.setIfInBounds_toArray, List.set_cons_zero, List.set_cons_succ]
      refine wpAnyZ_takeL 7 rfl (by kernel_rfl) (by kernel_rfl) (by kernel_rfl) (by kernel_rfl) (by kernel_rfl) (fun _ _ _ h => h) (yieldsIf_pick rfl _ _ _ rfl false rfl _ rfl) hS ?_
      simp only [Act.put, List.setIfInBounds_toArray, List.set_cons_zero, List.set_cons_succ]
      refine wpAnyZ_takeL 8 rfl (by kernel_rfl) (by kernel_rfl) (by kernel_rfl) (by kernel_rfl) (by kernel_rfl) (fun _ _ _ h => h) (yieldsIf_move rfl _ rfl _ rfl) hS ?_
      simp only [Act.put, List.setIfInBounds_toArray, List.set_cons_zero, List.set_cons_succ]
      refine wpAnyZ_takeL 9 rfl (by kernel_rfl) (by kernel_rfl) (by kernel_rfl) (by kernel_rfl) (by kernel_rfl) (fun _ _ _ h => h) (show YieldsIf _ _ _ _ (El E1) _ from yieldsIf_load rfl 29 _ rfl (g5r3) rfl 29 _ _ (.tail _ (.tail _ (.tail _ (.head _)))) Try.underlying29 rfl (info_El _)) hS ?_
      simp only [Act.put, List.setIfInBounds_toArray, List.set_cons_zero, List.set_cons_succ]
      refine wpAnyZ_one (i := 10) (by kernel_rfl) ?_
      unfold wpOp
      go_simp
      left
      refine (zero_v E1 false _ (decide_eq_false hy'.out)).mono ?_
      rintro e v9 ⟨rfl, b⟩
      replace hB := hB.trans (b.mono hB.size)
      replace hS := hS.below b
      replace Hr2 := Hr2.below b
      replace Hr3 := Hr3.below b
      clear b
      refine ⟨hS, ?_⟩
      refine wpAnyZ_takeL 11 rfl (by kernel_rfl) (by kernel_rfl) (by kernel_rfl) (by kernel_rfl) (by kernel_rfl) (fun _ _ _ h => h) (yieldsIf_not rfl _ _ rfl false rfl) hS ?_
      simp only [Act.put, List.setIfInBounds_toArray, List.set_cons_zero, List.set_cons_succ]
      refine wpAnyZ_takeL 12 rfl (by kernel_rfl) (by kernel_rfl) (by kernel_rfl) (by kernel_rfl) (by kernel_rfl) (fun _ _ _ h => h) (yieldsIf_move rfl _ rfl _ rfl) hS ?_
      simp only [Act.put, List.setIfInBounds_toArray, List.set_cons_zero, List.set_cons_succ]
      refine wpAnyZ_takeL 13 rfl (by kernel_rfl) (by kernel_rfl) (by kernel_rfl) (by kernel_rfl) (by kernel_rfl) (fun _ _ _ h => h) (yieldsIf_move rfl _ rfl _ rfl) hS ?_
      simp only [Act.put, List.setIfInBounds_toArray, List.set_cons_zero, List.set_cons_succ]
      refine wpAnyZ_takeL 14 rfl (by kernel_rfl) (by kernel_rfl) (by kernel_rfl) (by kernel_rfl) (by kernel_rfl) (fun _ _ _ h => h) (yieldsIf_pick rfl _ _ _ rfl true rfl _ rfl) hS ?_
      simp only [Act.put, List.setIfInBounds_toArray, List.set_cons_zero, List.set_cons_succ]
      refine wpAnyZ_takeL 15 rfl (by kernel_rfl) (by kernel_rfl) (by kernel_rfl) (by kernel_rfl) (by kernel_rfl) (fun _ _ _ h => h) (yieldsIf_move rfl _ rfl _ rfl) hS ?_
      simp only [Act.put, List.setIfInBounds_toArray, List.set_cons_zero, List.set_cons_succ]
      refine wpAnyZ_takeL 16 rfl (by kernel_rfl) (by kernel_rfl) (by kernel_rfl) (by kernel_rfl) (by kernel_rfl) (fun _ _ _ h => h) (show YieldsIf _ _ _ _ (El E7) _ from yieldsIf_load rfl 29 _ rfl (g10r9) rfl 29 _ _ (.head _) Try.underlying29 rfl (info_El _)) hS ?_
      simp only [Act.put, List.setIfInBounds_toArray, List.set_cons_zero, List.set_cons_succ]
      refine wpAnyZ_takeL 17 rfl (by kernel_rfl) (by kernel_rfl) (by kernel_rfl) (by kernel_rfl) (by kernel_rfl) (fun _ _ _ h => h) (show YieldsIf _ _ _ _ (El E7) _ from yieldsIf_load rfl 29 _ rfl (g10r9) rfl 29 _ _ (.head _) Try.underlying29 rfl (info_El _)) hS ?_
      simp only [Act.put, List.setIfInBounds_toArray, List.set_cons_zero, List.set_cons_succ]
      refine wpAnyZ_takeL 19 rfl (by kernel_rfl) (by kernel_rfl) (by kernel_rfl) (by kernel_rfl) (by kernel_rfl) (fun _ _ _ h => h) (show YieldsIf _ _ _ _ (El E1) _ from yieldsIf_load rfl 29 _ rfl (g5r3) rfl 29 _ _ (.tail _ (.tail _ (.tail _ (.head _)))) Try.underlying29 rfl (info_El _)) hS ?_
      simp only [Act.put, List.setIfInBounds_toArray, List.set_cons_zero, List.set_cons_succ]
      refine wpAnyZ_takeL 21 rfl (by kernel_rfl) (by kernel_rfl) (by kernel_rfl) (by kernel_rfl) (by kernel_rfl) (fun _ _ _ h => h) (show YieldsIf _ _ _ _ (El E1) _ from yieldsIf_load rfl 29 _ rfl (g5r3) rfl 29 _ _ (.tail _ (.tail _ (.tail _ (.head _)))) Try.underlying29 rfl (info_El _)) hS ?_
      simp only [Act.put, List.setIfInBounds_toArray, List.set_cons_zero, List.set_cons_succ]
      refine wpAnyZ_takeL 23 rfl (by kernel_rfl) (by kernel_rfl) (by kernel_rfl) (by kernel_rfl) (by kernel_rfl) (fun _ _ _ h => h) (show YieldsIf _ _ _ _ (El E0) _ from yieldsIf_load rfl 29 _ rfl (g4r3) rfl 29 _ _ (.tail _ (.tail _ (.head _))) Try.underlying29 rfl (info_El _)) hS ?_
      simp only [Act.put, List.setIfInBounds_toArray, List.set_cons_zero, List.set_cons_succ]
      refine wpAnyZ_takeL 24 rfl (by kernel_rfl) (by kernel_rfl) (by kernel_rfl) (by kernel_rfl) (by kernel_rfl) (fun _ _ _ h => h) (show YieldsIf _ _ _ _ (El E0) _ from yieldsIf_load rfl 29 _ rfl (g4r3) rfl 29 _ _ (.tail _ (.tail _ (.head _))) Try.underlying29 rfl (info_El _)) hS ?_
      simp only [Act.put, List.setIfInBounds_toArray, List.set_cons_zero, List.set_cons_succ]
      refine wpAnyZ_one (i := 18) (by kernel_rfl) ?_
      unfold wpOp
      go_simp
      left
      refine (mul_v E7 E7 E8 _ lE7 lE7 HE8.out).mono ?_
      rintro e v10 ⟨rfl, b⟩
      replace hB := hB.trans (b.mono hB.size)
      replace hS := hS.below b
      replace Hr2 := Hr2.below b
      replace Hr3 := Hr3.below b
      clear b
      refine ⟨hS, ?_⟩
      refine wpAnyZ_one (i := 20) (by kernel_rfl) ?_
      unfold wpOp
      go_simp
      left
      refine (mul_v E8 E1 E9 _ lE8 lE1 HE9.out).mono ?_
      rintro e v11 ⟨rfl, b⟩
      replace hB := hB.trans (b.mono hB.size)
      replace hS := hS.below b
      replace Hr2 := Hr2.below b
      replace Hr3 := Hr3.below b
      clear b
      refine ⟨hS, ?_⟩
      refine wpAnyZ_one (i := 22) (by kernel_rfl) ?_
      unfold wpOp
      go_simp
      left
      refine (mul_v E9 E1 E10 _ lE9 lE1 HE10.out).mono ?_
      rintro e v12 ⟨rfl, b⟩
      replace hB := hB.trans (b.mono hB.size)
      replace hS := hS.below b
      replace Hr2 := Hr2.below b
      replace Hr3 := Hr3.below b
      clear b
      refine ⟨hS, ?_⟩
      refine wpAnyZ_one (i := 25) (by kernel_rfl) ?_
      unfold wpOp
      go_simp
      left
      refine (mul_v E0 E0 E5 _ lE0 lE0 HE5.out).mono ?_
      rintro e v13 ⟨rfl, b⟩
      replace hB := hB.trans (b.mono hB.size)
      replace hS := hS.below b
      replace Hr2 := Hr2.below b
      replace Hr3 := Hr3.below b
      clear b
      refine ⟨hS, ?_⟩
      refine wpAnyZ_one (i := 26) (by kernel_rfl) ?_
      unfold wpOp
      go_simp
      left
      refine (same_v E10 E5 true _ (decide_eq_true (by rw [HE10.out, HE9.out, HE8.out]; exact sq_twiceB (by rw [← HE6.out, HE7.out]; exact rV_sq hI lE5 (by rw [HE5.out, HE6.out]; exact rOk_squares lE1 hy'.out))))).mono ?_
      rintro e v14 ⟨rfl, b⟩
      replace hB := hB.trans (b.mono hB.size)
      replace hS := hS.below b
      replace Hr2 := Hr2.below b
      replace Hr3 := Hr3.below b
      clear b
      refine ⟨hS, ?_⟩
      refine wpAnyZ_takeL 27 rfl (by kernel_rfl) (by kernel_rfl) (by kernel_rfl) (by kernel_rfl) (by kernel_rfl) (fun _ _ _ h => h) (yieldsIf_pick rfl _ _ _ rfl true rfl _ rfl) hS ?_
      simp only [Act.put, List.setIfInBounds_toArray, List.set_cons_zero, List.set_cons_succ]
      refine wpAnyZ_takeL 28 rfl (by kernel_rfl) (by kernel_rfl) (by kernel_rfl) (by kernel_rfl) (by kernel_rfl) (fun _ _ _ h => h) (yieldsIf_pick rfl _ _ _ rfl false rfl _ rfl) hS ?_
      simp only [Act.put, List.setIfInBounds_toArray, List.set_cons_zero, List.set_cons_succ]
      refine wpAnyZ_one (i := 29) (by kernel_rfl) ?_
      unfold wpOp
      go_simp
      left
      refine wpAnyZ_done (by kernel_rfl) ?_ _
      go_wp2
      go_ret
      exact ⟨rfl, hB⟩
end Go.Proofs.Ytknmmjnkafmoaaa
