/- The law FieldLaws: sums and products don't hang on their order; a product of a sum is the sum of products; a number less itself is 0, times its inverse 1. -/
import Derived.Test.YtknmmjnkafmoaaaLl
import Derived.Test.YtknmmjnkafmoaaaNa
namespace Go.Proofs.Ytknmmjnkafmoaaa
open Go.RowKit

theorem sub_self_mod (x p : Nat) (h : x < p) : (x + (p - x)) % p = 0 := by rw [show x + (p - x) = p by omega, Nat.mod_self]
theorem sub_add_mod (x y p : Nat) (h : x < p) (hy : y < p) : (x + (p - y) + y) % p = x := by rw [show x + (p - y) + y = x + p by omega, Nat.add_mod_right, Nat.mod_eq_of_lt h]
theorem neg_add_mod (x p : Nat) (h : x < p) : (p - x + x) % p = 0 := by rw [show p - x + x = p by omega, Nat.mod_self]

set_option maxHeartbeats 8000000 in
set_option maxRecDepth 100000 in
theorem laws_zero (l0 l1 l2 : List Int) (f0 f1 f2 : Nat → Nat) (hl0 : Bytes32 l0 f0) (hl1 : Bytes32 l1 f1) (hl2 : Bytes32 l2 f2) (hz : leTo f0 32 % 57896044618658097711785492504343953926634992332820282019728792003956564819968 % pp = 0) (w : World) :
    Calls Try.prog 7 #[Key l0, Key l1, Key l2] w fun e w' => e = .returned (.bool true) ∧ Below w.heap.size w w' := by
  obtain ⟨E0, hE0⟩ : ∃ r, r = leTo f0 32 % 57896044618658097711785492504343953926634992332820282019728792003956564819968 % pp := ⟨_, rfl⟩
  have lE0 : E0 < pp := hE0 ▸ Nat.mod_lt _ pp_pos
  rw [← hE0] at hz
  have HE0 := Lib.hid hE0
  clear hE0
  obtain ⟨E1, hE1⟩ : ∃ r, r = leTo f1 32 % 57896044618658097711785492504343953926634992332820282019728792003956564819968 % pp := ⟨_, rfl⟩
  have lE1 : E1 < pp := hE1 ▸ Nat.mod_lt _ pp_pos
  have HE1 := Lib.hid hE1
  clear hE1
  obtain ⟨E2, hE2⟩ : ∃ r, r = leTo f2 32 % 57896044618658097711785492504343953926634992332820282019728792003956564819968 % pp := ⟨_, rfl⟩
  have lE2 : E2 < pp := hE2 ▸ Nat.mod_lt _ pp_pos
  have HE2 := Lib.hid hE2
  clear hE2
  obtain ⟨E3, hE3⟩ : ∃ r, r = (E0 + E1) % pp := ⟨_, rfl⟩
  have lE3 : E3 < pp := hE3 ▸ Nat.mod_lt _ pp_pos
  have HE3 := Lib.hid hE3
  clear hE3
  obtain ⟨E4, hE4⟩ : ∃ r, r = (E1 + E0) % pp := ⟨_, rfl⟩
  have lE4 : E4 < pp := hE4 ▸ Nat.mod_lt _ pp_pos
  have HE4 := Lib.hid hE4
  clear hE4
  obtain ⟨E5, hE5⟩ : ∃ r, r = E0 * E1 % pp := ⟨_, rfl⟩
  have lE5 : E5 < pp := hE5 ▸ Nat.mod_lt _ pp_pos
  have HE5 := Lib.hid hE5
  clear hE5
  obtain ⟨E6, hE6⟩ : ∃ r, r = E1 * E0 % pp := ⟨_, rfl⟩
  have lE6 : E6 < pp := hE6 ▸ Nat.mod_lt _ pp_pos
  have HE6 := Lib.hid hE6
  clear hE6
  obtain ⟨E7, hE7⟩ : ∃ r, r = (E3 + E2) % pp := ⟨_, rfl⟩
  have lE7 : E7 < pp := hE7 ▸ Nat.mod_lt _ pp_pos
  have HE7 := Lib.hid hE7
  clear hE7
  obtain ⟨E8, hE8⟩ : ∃ r, r = (E1 + E2) % pp := ⟨_, rfl⟩
  have lE8 : E8 < pp := hE8 ▸ Nat.mod_lt _ pp_pos
  have HE8 := Lib.hid hE8
  clear hE8
  obtain ⟨E9, hE9⟩ : ∃ r, r = (E0 + E8) % pp := ⟨_, rfl⟩
  have lE9 : E9 < pp := hE9 ▸ Nat.mod_lt _ pp_pos
  have HE9 := Lib.hid hE9
  clear hE9
  obtain ⟨E10, hE10⟩ : ∃ r, r = E5 * E2 % pp := ⟨_, rfl⟩
  have lE10 : E10 < pp := hE10 ▸ Nat.mod_lt _ pp_pos
  have HE10 := Lib.hid hE10
  clear hE10
  obtain ⟨E11, hE11⟩ : ∃ r, r = E1 * E2 % pp := ⟨_, rfl⟩
  have lE11 : E11 < pp := hE11 ▸ Nat.mod_lt _ pp_pos
  have HE11 := Lib.hid hE11
  clear hE11
  obtain ⟨E12, hE12⟩ : ∃ r, r = E0 * E11 % pp := ⟨_, rfl⟩
  have lE12 : E12 < pp := hE12 ▸ Nat.mod_lt _ pp_pos
  have HE12 := Lib.hid hE12
  clear hE12
  obtain ⟨E13, hE13⟩ : ∃ r, r = E3 * E2 % pp := ⟨_, rfl⟩
  have lE13 : E13 < pp := hE13 ▸ Nat.mod_lt _ pp_pos
  have HE13 := Lib.hid hE13
  clear hE13
  obtain ⟨E14, hE14⟩ : ∃ r, r = E0 * E2 % pp := ⟨_, rfl⟩
  have lE14 : E14 < pp := hE14 ▸ Nat.mod_lt _ pp_pos
  have HE14 := Lib.hid hE14
  clear hE14
  obtain ⟨E15, hE15⟩ : ∃ r, r = (E14 + E11) % pp := ⟨_, rfl⟩
  have lE15 : E15 < pp := hE15 ▸ Nat.mod_lt _ pp_pos
  have HE15 := Lib.hid hE15
  clear hE15
  obtain ⟨E16, hE16⟩ : ∃ r, r = (E0 + (pp - E0)) % pp := ⟨_, rfl⟩
  have lE16 : E16 < pp := hE16 ▸ Nat.mod_lt _ pp_pos
  have HE16 := Lib.hid hE16
  clear hE16
  obtain ⟨E17, hE17⟩ : ∃ r, r = (E0 + (pp - E1)) % pp := ⟨_, rfl⟩
  have lE17 : E17 < pp := hE17 ▸ Nat.mod_lt _ pp_pos
  have HE17 := Lib.hid hE17
  clear hE17
  obtain ⟨E18, hE18⟩ : ∃ r, r = (E17 + E1) % pp := ⟨_, rfl⟩
  have lE18 : E18 < pp := hE18 ▸ Nat.mod_lt _ pp_pos
  have HE18 := Lib.hid hE18
  clear hE18
  obtain ⟨E19, hE19⟩ : ∃ r, r = (pp - E0) % pp := ⟨_, rfl⟩
  have lE19 : E19 < pp := hE19 ▸ Nat.mod_lt _ pp_pos
  have HE19 := Lib.hid hE19
  clear hE19
  obtain ⟨E20, hE20⟩ : ∃ r, r = (E19 + E0) % pp := ⟨_, rfl⟩
  have lE20 : E20 < pp := hE20 ▸ Nat.mod_lt _ pp_pos
  have HE20 := Lib.hid hE20
  clear hE20
  unfold Key
  have hz' := Lib.hid hz
  clear hz
  go_enter Try.func7, Try.ntmps7
  go_wp2_with fail
  refine (awake_any _).mono ?_
  rintro e w1 ⟨rfl, b⟩
  have hS : Facts [.blk (w.heap.size) 23 (Iv .u8 l0), .blk (w.heap.size + 1) 23 (Iv .u8 l1), .blk (w.heap.size + 1 + 1) 23 (Iv .u8 l2)] w1 := Facts.below (Facts.cons (((Blk.new w _ _).alloc _).alloc _) (Facts.cons ((Blk.new' (by simp) _ _).alloc _) (Facts.cons (Blk.new' (by simp) _ _) Facts.nil))) b
  have hB : Below w.heap.size w w1 := ((((Below.refl w.heap.size w).alloc (Nat.le_refl _) _).alloc (by simp) _).alloc (by simp; omega) _).trans (b.mono (by simp; omega))
  clear b
  go_upto_region 3 with fail
  replace hS := hS.drew
  replace hB := below_drew hB
  refine wp_region_Z (S := Facts [.blk (w.heap.size) 23 (Iv .u8 l0), .blk (w.heap.size + 1) 23 (Iv .u8 l1), .blk (w.heap.size + 1 + 1) 23 (Iv .u8 l2)]) 11 (by kernel_rfl) ?_
  refine wpAnyZ_takeL 0 rfl (by kernel_rfl) (by kernel_rfl) (by kernel_rfl) (by kernel_rfl) (by kernel_rfl) (fun _ _ _ h => h) (show YieldsIf _ _ _ _ (Key l0) _ from yieldsIf_load rfl 23 _ rfl (w.heap.size) rfl 23 _ _ (.head _) Try.underlying23 rfl (info_key _ hl0.len)) hS ?_
  simp only [Act.put, List.setIfInBounds_toArray, List.set_cons_zero, List.set_cons_succ]
  refine wpAnyZ_takeL 2 rfl (by kernel_rfl) (by kernel_rfl) (by kernel_rfl) (by kernel_rfl) (by kernel_rfl) (fun _ _ _ h => h) (show YieldsIf _ _ _ _ (Key l1) _ from yieldsIf_load rfl 23 _ rfl (w.heap.size + 1) rfl 23 _ _ (.tail _ (.head _)) Try.underlying23 rfl (info_key _ hl1.len)) hS ?_
  simp only [Act.put, List.setIfInBounds_toArray, List.set_cons_zero, List.set_cons_succ]
  refine wpAnyZ_takeL 4 rfl (by kernel_rfl) (by kernel_rfl) (by kernel_rfl) (by kernel_rfl) (by kernel_rfl) (fun _ _ _ h => h) (show YieldsIf _ _ _ _ (Key l2) _ from yieldsIf_load rfl 23 _ rfl (w.heap.size + 1 + 1) rfl 23 _ _ (.tail _ (.tail _ (.head _))) Try.underlying23 rfl (info_key _ hl2.len)) hS ?_
  simp only [Act.put, List.setIfInBounds_toArray, List.set_cons_zero, List.set_cons_succ]
  refine wpAnyZ_jobsL [(⟨1, 14⟩, .is (El E0)), (⟨3, 16⟩, .is (El E1)), (⟨5, 18⟩, .is (El E2)), (⟨6, 7⟩, .rel (fun v w' => ∃ g, v = .pointer (some ⟨g, 0, none⟩) ∧ Blk w' g 29 (El_cells 0))), (⟨7, 8⟩, .rel (fun v w' => ∃ g, v = .pointer (some ⟨g, 0, none⟩) ∧ Blk w' g 29 (El_cells 0))), (⟨8, 9⟩, .rel (fun v w' => ∃ g, v = .pointer (some ⟨g, 0, none⟩) ∧ Blk w' g 29 (El_cells 0)))] [] 3 _ _ _ (by kernel_rfl) (fun _ _ _ _ _ h => h) ?_ (fun _ _ _ _ _ h => h) (fun _ _ h hb => h.below hb) hS ?_ ?_ ?_
  · exact fun _ _ h => by cases h
  · intro j hj
    simp only [List.map_cons, List.map_nil, List.mem_cons, List.not_mem_nil, or_false] at hj
    rcases hj with rfl | rfl | rfl | rfl | rfl | rfl
    · exact fun _ _ _ h _ => h
    · exact fun _ _ _ h _ => h
    · exact fun _ _ _ h _ => h
    · intro v w1 w2 h hb
      obtain ⟨g, e, H⟩ : ∃ g, v = .pointer (some ⟨g, 0, none⟩) ∧ Blk w1 g 29 (El_cells 0) := h
      exact ⟨g, e, H.below' hb⟩
    · intro v w1 w2 h hb
      obtain ⟨g, e, H⟩ : ∃ g, v = .pointer (some ⟨g, 0, none⟩) ∧ Blk w1 g 29 (El_cells 0) := h
      exact ⟨g, e, H.below' hb⟩
    · intro v w1 w2 h hb
      obtain ⟨g, e, H⟩ : ∃ g, v = .pointer (some ⟨g, 0, none⟩) ∧ Blk w1 g 29 (El_cells 0) := h
      exact ⟨g, e, H.below' hb⟩
  · intro j hj
    simp only [List.map_cons, List.map_nil, List.mem_cons, List.not_mem_nil, or_false] at hj
    rcases hj with rfl | rfl | rfl | rfl | rfl | rfl
    · refine job_frame [] (by kernel_rfl) ?_
      show JobAt _ _ _ _ _ _ _
      intro W K hS' hK
      unfold wpOp
      go_simp
      left
      refine (of_v l0 f0 hl0 E0 HE0.out _).mono ?_
      rintro e v ⟨rfl, b⟩
      exact hK _ _ rfl b (fun g hg => ((block_agg _) g hg).elim)
    · refine job_frame [] (by kernel_rfl) ?_
      show JobAt _ _ _ _ _ _ _
      intro W K hS' hK
      unfold wpOp
      go_simp
      left
      refine (of_v l1 f1 hl1 E1 HE1.out _).mono ?_
      rintro e v ⟨rfl, b⟩
      exact hK _ _ rfl b (fun g hg => ((block_agg _) g hg).elim)
    · refine job_frame [] (by kernel_rfl) ?_
      show JobAt _ _ _ _ _ _ _
      intro W K hS' hK
      unfold wpOp
      go_simp
      left
      refine (of_v l2 f2 hl2 E2 HE2.out _).mono ?_
      rintro e v ⟨rfl, b⟩
      exact hK _ _ rfl b (fun g hg => ((block_agg _) g hg).elim)
    · refine job_frame [] (by kernel_rfl) ?_
      show JobAt _ _ _ _ _ _ _
      exact job_alloc 29 (El_cells 0) _ _ rfl rfl rfl (fun W => by go_simp; rfl)
    · refine job_frame [] (by kernel_rfl) ?_
      show JobAt _ _ _ _ _ _ _
      exact job_alloc 29 (El_cells 0) _ _ rfl rfl rfl (fun W => by go_simp; rfl)
    · refine job_frame [] (by kernel_rfl) ?_
      show JobAt _ _ _ _ _ _ _
      exact job_alloc 29 (El_cells 0) _ _ rfl rfl rfl (fun W => by go_simp; rfl)
  · intro f W hS2 hB1 hR hF hA
    have e1 : f 1 = (El E0) := hR ⟨1, 14⟩ (by simp)
    have e3 : f 3 = (El E1) := hR ⟨3, 16⟩ (by simp)
    have e5 : f 5 = (El E2) := hR ⟨5, 18⟩ (by simp)
    obtain ⟨g6, e6, A6⟩ : ∃ g, f 6 = .pointer (some ⟨g, 0, none⟩) ∧ Blk W g 29 (El_cells 0) := hR ⟨6, 7⟩ (by simp)
    have n6 : _ ≤ g6 := (hF ⟨6, 7⟩ (by simp) g6 (by show blockOf (f 6) = _; rw [e6]; rfl)).1
    obtain ⟨g7, e7, A7⟩ : ∃ g, f 7 = .pointer (some ⟨g, 0, none⟩) ∧ Blk W g 29 (El_cells 0) := hR ⟨7, 8⟩ (by simp)
    have n7 : _ ≤ g7 := (hF ⟨7, 8⟩ (by simp) g7 (by show blockOf (f 7) = _; rw [e7]; rfl)).1
    obtain ⟨g8, e8, A8⟩ : ∃ g, f 8 = .pointer (some ⟨g, 0, none⟩) ∧ Blk W g 29 (El_cells 0) := hR ⟨8, 9⟩ (by simp)
    have n8 : _ ≤ g8 := (hF ⟨8, 9⟩ (by simp) g8 (by show blockOf (f 8) = _; rw [e8]; rfl)).1
    have d6_7 : g6 ≠ g7 := fun h => hA ⟨6, 7⟩ (by simp) ⟨7, 8⟩ (by simp) (by decide) g6 (by show blockOf (f 6) = _; rw [e6]; rfl) (by show blockOf (f 7) = _; rw [e7, h]; rfl)
    have d6_8 : g6 ≠ g8 := fun h => hA ⟨6, 7⟩ (by simp) ⟨8, 9⟩ (by simp) (by decide) g6 (by show blockOf (f 6) = _; rw [e6]; rfl) (by show blockOf (f 8) = _; rw [e8, h]; rfl)
    have d7_8 : g7 ≠ g8 := fun h => hA ⟨7, 8⟩ (by simp) ⟨8, 9⟩ (by simp) (by decide) g7 (by show blockOf (f 7) = _; rw [e7]; rfl) (by show blockOf (f 8) = _; rw [e8, h]; rfl)
    clear hA hF hR
    simp only [setAll, putAll, List.map_cons, List.map_nil, List.foldr_cons, List.foldr_nil, Act.put, List.setIfInBounds_toArray, List.set_cons_zero, List.set_cons_succ, e1, e3, e5, e6, e7, e8]
    clear e1 e3 e5 e6 e7 e8
    have hBs := hB1
    replace hB1 := below_setRow hB1 n6 (El_cells E0)
    refine wpAnyZ_store_row 9 rfl (by kernel_rfl) rfl _ _ _ rfl g6 (El_cells E0) rfl rfl _ _ A6 (info_El _) rfl (El_one _) (hS.below hB1) ?_
    try simp only [Act.put, List.setIfInBounds_toArray, List.set_cons_zero, List.set_cons_succ]
    replace A7 := A7.rowFar (Ne.symm d6_7) (El_cells E0)
    replace A8 := A8.rowFar (Ne.symm d6_8) (El_cells E0)
    replace A6 := A6.row (El_cells E0)
    replace hB1 := below_setRow hB1 n7 (El_cells E1)
    refine wpAnyZ_store_row 10 rfl (by kernel_rfl) rfl _ _ _ rfl g7 (El_cells E1) rfl rfl _ _ A7 (info_El _) rfl (El_one _) (hS.below hB1) ?_
    try simp only [Act.put, List.setIfInBounds_toArray, List.set_cons_zero, List.set_cons_succ]
    replace A6 := A6.rowFar d6_7 (El_cells E1)
    replace A8 := A8.rowFar (Ne.symm d7_8) (El_cells E1)
    replace A7 := A7.row (El_cells E1)
    replace hB1 := below_setRow hB1 n8 (El_cells E2)
    refine wpAnyZ_store_row 11 rfl (by kernel_rfl) rfl _ _ _ rfl g8 (El_cells E2) rfl rfl _ _ A8 (info_El _) rfl (El_one _) (hS.below hB1) ?_
    try simp only [Act.put, List.setIfInBounds_toArray, List.set_cons_zero, List.set_cons_succ]
    replace A6 := A6.rowFar d6_8 (El_cells E2)
    replace A7 := A7.rowFar d7_8 (El_cells E2)
    replace A8 := A8.row (El_cells E2)
    refine wpAnyZ_done (by kernel_rfl) ?_ _
    have hS3 := hS.below hB1
    replace hB := hB.trans (hB1.mono hB.size)
    clear hS hS2 hB1 hBs
    have hS : Facts [.blk (g6) 29 (El_cells E0), .blk (g7) 29 (El_cells E1), .blk (g8) 29 (El_cells E2), .blk (w.heap.size) 23 (Iv .u8 l0), .blk (w.heap.size + 1) 23 (Iv .u8 l1), .blk (w.heap.size + 1 + 1) 23 (Iv .u8 l2)] _ := Facts.cons (f := .blk g6 29 (El_cells E0)) A6 (Facts.cons (f := .blk g7 29 (El_cells E1)) A7 (Facts.cons (f := .blk g8 29 (El_cells E2)) A8 (hS3)))
    clear hS3
    try clear n6 n7 n8
    clear A6 A7 A8
    generalize hWn : World.setRow _ _ _ = Wn at *
    clear hWn
    go_upto_region 4 with fail
    replace hS := hS.drew
    replace hB := below_drew hB
    refine wp_region_Z (S := Facts [.blk (g6) 29 (El_cells E0), .blk (g7) 29 (El_cells E1), .blk (g8) 29 (El_cells E2), .blk (w.heap.size) 23 (Iv .u8 l0), .blk (w.heap.size + 1) 23 (Iv .u8 l1), .blk (w.heap.size + 1 + 1) 23 (Iv .u8 l2)]) 10 (by kernel_rfl) ?_
    refine wpAnyZ_takeL 0 rfl (by kernel_rfl) (by kernel_rfl) (by kernel_rfl) (by kernel_rfl) (by kernel_rfl) (fun _ _ _ h => h) (show YieldsIf _ _ _ _ (El E0) _ from yieldsIf_load rfl 29 _ rfl (g6) rfl 29 _ _ (.head _) Try.underlying29 rfl (info_El _)) hS ?_
    simp only [Act.put, List.setIfInBounds_toArray, List.set_cons_zero, List.set_cons_succ]
    refine wpAnyZ_one (i := 1) (by kernel_rfl) ?_
    unfold wpOp
    go_simp
    left
    refine (zero_v E0 true _ (decide_eq_true hz'.out)).mono ?_
    rintro e v1 ⟨rfl, b⟩
    replace hB := hB.trans (b.mono hB.size)
    replace hS := hS.below b
    clear b
    refine ⟨hS, ?_⟩
    refine wpAnyZ_takeL 2 rfl (by kernel_rfl) (by kernel_rfl) (by kernel_rfl) (by kernel_rfl) (by kernel_rfl) (fun _ _ _ h => h) (yieldsIf_move rfl _ rfl _ rfl) hS ?_
    simp only [Act.put, List.setIfInBounds_toArray, List.set_cons_zero, List.set_cons_succ]
    refine wpAnyZ_takeL 3 rfl (by kernel_rfl) (by kernel_rfl) (by kernel_rfl) (by kernel_rfl) (by kernel_rfl) (fun _ _ _ h => h) (yieldsIf_off rfl) hS ?_
    simp only [Act.put, List.setIfInBounds_toArray, List.set_cons_zero, List.set_cons_succ]
    refine wpAnyZ_takeL 4 rfl (by kernel_rfl) (by kernel_rfl) (by kernel_rfl) (by kernel_rfl) (by kernel_rfl) (fun _ _ _ h => h) (yieldsIf_off rfl) hS ?_
    simp only [Act.put, List.setIfInBounds_toArray, List.set_cons_zero, List.set_cons_succ]
    refine wpAnyZ_takeL 5 rfl (by kernel_rfl) (by kernel_rfl) (by kernel_rfl) (by kernel_rfl) (by kernel_rfl) (fun _ _ _ h => h) (yieldsIf_off rfl) hS ?_
    simp only [Act.put, List.setIfInBounds_toArray, List.set_cons_zero, List.set_cons_succ]
    refine wpAnyZ_takeL 6 rfl (by kernel_rfl) (by kernel_rfl) (by kernel_rfl) (by kernel_rfl) (by kernel_rfl) (fun _ _ _ h => h) (yieldsIf_off rfl) hS ?_
    simp only [Act.put, List.setIfInBounds_toArray, List.set_cons_zero, List.set_cons_succ]
    refine wpAnyZ_takeL 7 rfl (by kernel_rfl) (by kernel_rfl) (by kernel_rfl) (by kernel_rfl) (by kernel_rfl) (fun _ _ _ h => h) (yieldsIf_off rfl) hS ?_
    simp only [Act.put, List.setIfInBounds_toArray, List.set_cons_zero, List.set_cons_succ]
    refine wpAnyZ_takeL 8 rfl (by kernel_rfl) (by kernel_rfl) (by kernel_rfl) (by kernel_rfl) (by kernel_rfl) (fun _ _ _ h => h) (yieldsIf_off rfl) hS ?_
    simp only [Act.put, List.setIfInBounds_toArray, List.set_cons_zero, List.set_cons_succ]
    refine wpAnyZ_takeL 9 rfl (by kernel_rfl) (by kernel_rfl) (by kernel_rfl) (by kernel_rfl) (by kernel_rfl) (fun _ _ _ h => h) (yieldsIf_pick rfl _ _ _ rfl true rfl _ rfl) hS ?_
    simp only [Act.put, List.setIfInBounds_toArray, List.set_cons_zero, List.set_cons_succ]
    refine wpAnyZ_one (i := 10) (by kernel_rfl) ?_
    unfold wpOp
    go_simp
    left
    refine wpAnyZ_done (by kernel_rfl) ?_ _
    go_upto_region 5 with fail
    replace hS := hS.drew
    replace hB := below_drew hB
    refine wp_region_Z (S := Facts [.blk (g6) 29 (El_cells E0), .blk (g7) 29 (El_cells E1), .blk (g8) 29 (El_cells E2), .blk (w.heap.size) 23 (Iv .u8 l0), .blk (w.heap.size + 1) 23 (Iv .u8 l1), .blk (w.heap.size + 1 + 1) 23 (Iv .u8 l2)]) 82 (by kernel_rfl) ?_
    refine wpAnyZ_takeL 0 rfl (by kernel_rfl) (by kernel_rfl) (by kernel_rfl) (by kernel_rfl) (by kernel_rfl) (fun _ _ _ h => h) (yieldsIf_move rfl _ rfl _ rfl) hS ?_
    simp only [Act.put, List.setIfInBounds_toArray, List.set_cons_zero, List.set_cons_succ]
    refine wpAnyZ_takeL 1 rfl (by kernel_rfl) (by kernel_rfl) (by kernel_rfl) (by kernel_rfl) (by kernel_rfl) (fun _ _ _ h => h) (yieldsIf_move rfl _ rfl _ rfl) hS ?_
    simp only [Act.put, List.setIfInBounds_toArray, List.set_cons_zero, List.set_cons_succ]
    refine wpAnyZ_takeL 2 rfl (by kernel_rfl) (by kernel_rfl) (by kernel_rfl) (by kernel_rfl) (by kernel_rfl) (fun _ _ _ h => h) (show YieldsIf _ _ _ _ (El E0) _ from yieldsIf_load rfl 29 _ rfl (g6) rfl 29 _ _ (.head _) Try.underlying29 rfl (info_El _)) hS ?_
    simp only [Act.put, List.setIfInBounds_toArray, List.set_cons_zero, List.set_cons_succ]
    refine wpAnyZ_takeL 3 rfl (by kernel_rfl) (by kernel_rfl) (by kernel_rfl) (by kernel_rfl) (by kernel_rfl) (fun _ _ _ h => h) (show YieldsIf _ _ _ _ (El E1) _ from yieldsIf_load rfl 29 _ rfl (g7) rfl 29 _ _ (.tail _ (.head _)) Try.underlying29 rfl (info_El _)) hS ?_
    simp only [Act.put, List.setIfInBounds_toArray, List.set_cons_zero, List.set_cons_succ]
    refine wpAnyZ_takeL 5 rfl (by kernel_rfl) (by kernel_rfl) (by kernel_rfl) (by kernel_rfl) (by kernel_rfl) (fun _ _ _ h => h) (show YieldsIf _ _ _ _ (El E1) _ from yieldsIf_load rfl 29 _ rfl (g7) rfl 29 _ _ (.tail _ (.head _)) Try.underlying29 rfl (info_El _)) hS ?_
    simp only [Act.put, List.setIfInBounds_toArray, List.set_cons_zero, List.set_cons_succ]
    refine wpAnyZ_takeL 6 rfl (by kernel_rfl) (by kernel_rfl) (by kernel_rfl) (by kernel_rfl) (by kernel_rfl) (fun _ _ _ h => h) (show YieldsIf _ _ _ _ (El E0) _ from yieldsIf_load rfl 29 _ rfl (g6) rfl 29 _ _ (.head _) Try.underlying29 rfl (info_El _)) hS ?_
    simp only [Act.put, List.setIfInBounds_toArray, List.set_cons_zero, List.set_cons_succ]
    refine wpAnyZ_one (i := 4) (by kernel_rfl) ?_
    unfold wpOp
    go_simp
    left
    refine (add_v E0 E1 E3 _ lE0 lE1 HE3.out).mono ?_
    rintro e v2 ⟨rfl, b⟩
    replace hB := hB.trans (b.mono hB.size)
    replace hS := hS.below b
    clear b
    refine ⟨hS, ?_⟩
    refine wpAnyZ_one (i := 7) (by kernel_rfl) ?_
    unfold wpOp
    go_simp
    left
    refine (add_v E1 E0 E4 _ lE1 lE0 HE4.out).mono ?_
    rintro e v3 ⟨rfl, b⟩
    replace hB := hB.trans (b.mono hB.size)
    replace hS := hS.below b
    clear b
    refine ⟨hS, ?_⟩
    refine wpAnyZ_one (i := 8) (by kernel_rfl) ?_
    unfold wpOp
    go_simp
    left
    refine (same_v E3 E4 true _ (decide_eq_true (by rw [HE3.out, HE4.out, Nat.add_comm]))).mono ?_
    rintro e v4 ⟨rfl, b⟩
    replace hB := hB.trans (b.mono hB.size)
    replace hS := hS.below b
    clear b
    refine ⟨hS, ?_⟩
    refine wpAnyZ_takeL 9 rfl (by kernel_rfl) (by kernel_rfl) (by kernel_rfl) (by kernel_rfl) (by kernel_rfl) (fun _ _ _ h => h) (yieldsIf_pick rfl _ _ _ rfl true rfl _ rfl) hS ?_
    simp only [Act.put, List.setIfInBounds_toArray, List.set_cons_zero, List.set_cons_succ]
    refine wpAnyZ_takeL 10 rfl (by kernel_rfl) (by kernel_rfl) (by kernel_rfl) (by kernel_rfl) (by kernel_rfl) (fun _ _ _ h => h) (yieldsIf_move rfl _ rfl _ rfl) hS ?_
    simp only [Act.put, List.setIfInBounds_toArray, List.set_cons_zero, List.set_cons_succ]
    refine wpAnyZ_takeL 11 rfl (by kernel_rfl) (by kernel_rfl) (by kernel_rfl) (by kernel_rfl) (by kernel_rfl) (fun _ _ _ h => h) (show YieldsIf _ _ _ _ (El E0) _ from yieldsIf_load rfl 29 _ rfl (g6) rfl 29 _ _ (.head _) Try.underlying29 rfl (info_El _)) hS ?_
    simp only [Act.put, List.setIfInBounds_toArray, List.set_cons_zero, List.set_cons_succ]
    refine wpAnyZ_takeL 12 rfl (by kernel_rfl) (by kernel_rfl) (by kernel_rfl) (by kernel_rfl) (by kernel_rfl) (fun _ _ _ h => h) (show YieldsIf _ _ _ _ (El E1) _ from yieldsIf_load rfl 29 _ rfl (g7) rfl 29 _ _ (.tail _ (.head _)) Try.underlying29 rfl (info_El _)) hS ?_
    simp only [Act.put, List.setIfInBounds_toArray, List.set_cons_zero, List.set_cons_succ]
    refine wpAnyZ_takeL 14 rfl (by kernel_rfl) (by kernel_rfl) (by kernel_rfl) (by kernel_rfl) (by kernel_rfl) (fun _ _ _ h => h) (show YieldsIf _ _ _ _ (El E1) _ from yieldsIf_load rfl 29 _ rfl (g7) rfl 29 _ _ (.tail _ (.head _)) Try.underlying29 rfl (info_El _)) hS ?_
    simp only [Act.put, List.setIfInBounds_toArray, List.set_cons_zero, List.set_cons_succ]
    refine wpAnyZ_takeL 15 rfl (by kernel_rfl) (by kernel_rfl) (by kernel_rfl) (by kernel_rfl) (by kernel_rfl) (fun _ _ _ h => h) (show YieldsIf _ _ _ _ (El E0) _ from yieldsIf_load rfl 29 _ rfl (g6) rfl 29 _ _ (.head _) Try.underlying29 rfl (info_El _)) hS ?_
    simp only [Act.put, List.setIfInBounds_toArray, List.set_cons_zero, List.set_cons_succ]
    refine wpAnyZ_one (i := 13) (by kernel_rfl) ?_
    unfold wpOp
    go_simp
    left
    refine (mul_v E0 E1 E5 _ lE0 lE1 HE5.out).mono ?_
    rintro e v5 ⟨rfl, b⟩
    replace hB := hB.trans (b.mono hB.size)
    replace hS := hS.below b
    clear b
    refine ⟨hS, ?_⟩
    refine wpAnyZ_one (i := 16) (by kernel_rfl) ?_
    unfold wpOp
    go_simp
    left
    refine (mul_v E1 E0 E6 _ lE1 lE0 HE6.out).mono ?_
    rintro e v6 ⟨rfl, b⟩
    replace hB := hB.trans (b.mono hB.size)
    replace hS := hS.below b
    clear b
    refine ⟨hS, ?_⟩
    refine wpAnyZ_one (i := 17) (by kernel_rfl) ?_
    unfold wpOp
    go_simp
    left
    refine (same_v E5 E6 true _ (decide_eq_true (by rw [HE5.out, HE6.out, Nat.mul_comm]))).mono ?_
    rintro e v7 ⟨rfl, b⟩
    replace hB := hB.trans (b.mono hB.size)
    replace hS := hS.below b
    clear b
    refine ⟨hS, ?_⟩
    refine wpAnyZ_takeL 18 rfl (by kernel_rfl) (by kernel_rfl) (by kernel_rfl) (by kernel_rfl) (by kernel_rfl) (fun _ _ _ h => h) (yieldsIf_pick rfl _ _ _ rfl true rfl _ rfl) hS ?_
    simp only [Act.put, List.setIfInBounds_toArray, List.set_cons_zero, List.set_cons_succ]
    refine wpAnyZ_takeL 19 rfl (by kernel_rfl) (by kernel_rfl) (by kernel_rfl) (by kernel_rfl) (by kernel_rfl) (fun _ _ _ h => h) (yieldsIf_move rfl _ rfl _ rfl) hS ?_
    simp only [Act.put, List.setIfInBounds_toArray, List.set_cons_zero, List.set_cons_succ]
    refine wpAnyZ_takeL 20 rfl (by kernel_rfl) (by kernel_rfl) (by kernel_rfl) (by kernel_rfl) (by kernel_rfl) (fun _ _ _ h => h) (show YieldsIf _ _ _ _ (El E0) _ from yieldsIf_load rfl 29 _ rfl (g6) rfl 29 _ _ (.head _) Try.underlying29 rfl (info_El _)) hS ?_
    simp only [Act.put, List.setIfInBounds_toArray, List.set_cons_zero, List.set_cons_succ]
    refine wpAnyZ_takeL 21 rfl (by kernel_rfl) (by kernel_rfl) (by kernel_rfl) (by kernel_rfl) (by kernel_rfl) (fun _ _ _ h => h) (show YieldsIf _ _ _ _ (El E1) _ from yieldsIf_load rfl 29 _ rfl (g7) rfl 29 _ _ (.tail _ (.head _)) Try.underlying29 rfl (info_El _)) hS ?_
    simp only [Act.put, List.setIfInBounds_toArray, List.set_cons_zero, List.set_cons_succ]
    refine wpAnyZ_takeL 23 rfl (by kernel_rfl) (by kernel_rfl) (by kernel_rfl) (by kernel_rfl) (by kernel_rfl) (fun _ _ _ h => h) (show YieldsIf _ _ _ _ (El E2) _ from yieldsIf_load rfl 29 _ rfl (g8) rfl 29 _ _ (.tail _ (.tail _ (.head _))) Try.underlying29 rfl (info_El _)) hS ?_
    simp only [Act.put, List.setIfInBounds_toArray, List.set_cons_zero, List.set_cons_succ]
    refine wpAnyZ_takeL 25 rfl (by kernel_rfl) (by kernel_rfl) (by kernel_rfl) (by kernel_rfl) (by kernel_rfl) (fun _ _ _ h => h) (show YieldsIf _ _ _ _ (El E0) _ from yieldsIf_load rfl 29 _ rfl (g6) rfl 29 _ _ (.head _) Try.underlying29 rfl (info_El _)) hS ?_
    simp only [Act.put, List.setIfInBounds_toArray, List.set_cons_zero, List.set_cons_succ]
    refine wpAnyZ_takeL 26 rfl (by kernel_rfl) (by kernel_rfl) (by kernel_rfl) (by kernel_rfl) (by kernel_rfl) (fun _ _ _ h => h) (show YieldsIf _ _ _ _ (El E1) _ from yieldsIf_load rfl 29 _ rfl (g7) rfl 29 _ _ (.tail _ (.head _)) Try.underlying29 rfl (info_El _)) hS ?_
    simp only [Act.put, List.setIfInBounds_toArray, List.set_cons_zero, List.set_cons_succ]
    refine wpAnyZ_takeL 27 rfl (by kernel_rfl) (by kernel_rfl) (by kernel_rfl) (by kernel_rfl) (by kernel_rfl) (fun _ _ _ h => h) (show YieldsIf _ _ _ _ (El E2) _ from yieldsIf_load rfl 29 _ rfl (g8) rfl 29 _ _ (.tail _ (.tail _ (.head _))) Try.underlying29 rfl (info_El _)) hS ?_
    simp only [Act.put, List.setIfInBounds_toArray, List.set_cons_zero, List.set_cons_succ]
    refine wpAnyZ_one (i := 22) (by kernel_rfl) ?_
    unfold wpOp
    go_simp
    left
    refine (add_v E0 E1 E3 _ lE0 lE1 HE3.out).mono ?_
    rintro e v8 ⟨rfl, b⟩
    replace hB := hB.trans (b.mono hB.size)
    replace hS := hS.below b
    clear b
    refine ⟨hS, ?_⟩
    refine wpAnyZ_one (i := 24) (by kernel_rfl) ?_
    unfold wpOp
    go_simp
    left
    refine (add_v E3 E2 E7 _ lE3 lE2 HE7.out).mono ?_
    rintro e v9 ⟨rfl, b⟩
    replace hB := hB.trans (b.mono hB.size)
    replace hS := hS.below b
    clear b
    refine ⟨hS, ?_⟩
    refine wpAnyZ_one (i := 28) (by kernel_rfl) ?_
    unfold wpOp
    go_simp
    left
    refine (add_v E1 E2 E8 _ lE1 lE2 HE8.out).mono ?_
    rintro e v10 ⟨rfl, b⟩
    replace hB := hB.trans (b.mono hB.size)
    replace hS := hS.below b
    clear b
    refine ⟨hS, ?_⟩
    refine wpAnyZ_one (i := 29) (by kernel_rfl) ?_
    unfold wpOp
    go_simp
    left
    refine (add_v E0 E8 E9 _ lE0 lE8 HE9.out).mono ?_
    rintro e v11 ⟨rfl, b⟩
    replace hB := hB.trans (b.mono hB.size)
    replace hS := hS.below b
    clear b
    refine ⟨hS, ?_⟩
    refine wpAnyZ_one (i := 30) (by kernel_rfl) ?_
    unfold wpOp
    go_simp
    left
    refine (same_v E7 E9 true _ (decide_eq_true (by simp only [HE7.out, HE3.out, HE9.out, HE8.out, Nat.mod_add_mod, Nat.add_mod_mod, Nat.add_assoc]))).mono ?_
    rintro e v12 ⟨rfl, b⟩
    replace hB := hB.trans (b.mono hB.size)
    replace hS := hS.below b
    clear b
    refine ⟨hS, ?_⟩
    refine wpAnyZ_takeL 31 rfl (by kernel_rfl) (by kernel_rfl) (by kernel_rfl) (by kernel_rfl) (by kernel_rfl) (fun _ _ _ h => h) (yieldsIf_pick rfl _ _ _ rfl true rfl _ rfl) hS ?_
    simp only [Act.put, List.setIfInBounds_toArray, List.set_cons_zero, List.set_cons_succ]
    refine wpAnyZ_takeL 32 rfl (by kernel_rfl) (by kernel_rfl) (by kernel_rfl) (by kernel_rfl) (by kernel_rfl) (fun _ _ _ h => h) (yieldsIf_move rfl _ rfl _ rfl) hS ?_
    simp only [Act.put, List.setIfInBounds_toArray, List.set_cons_zero, List.set_cons_succ]
    refine wpAnyZ_takeL 33 rfl (by kernel_rfl) (by kernel_rfl) (by kernel_rfl) (by kernel_rfl) (by kernel_rfl) (fun _ _ _ h => h) (show YieldsIf _ _ _ _ (El E0) _ from yieldsIf_load rfl 29 _ rfl (g6) rfl 29 _ _ (.head _) Try.underlying29 rfl (info_El _)) hS ?_
    simp only [Act.put, List.setIfInBounds_toArray, List.set_cons_zero, List.set_cons_succ]
    refine wpAnyZ_takeL 34 rfl (by kernel_rfl) (by kernel_rfl) (by kernel_rfl) (by kernel_rfl) (by kernel_rfl) (fun _ _ _ h => h) (show YieldsIf _ _ _ _ (El E1) _ from yieldsIf_load rfl 29 _ rfl (g7) rfl 29 _ _ (.tail _ (.head _)) Try.underlying29 rfl (info_El _)) hS ?_
    simp only [Act.put, List.setIfInBounds_toArray, List.set_cons_zero, List.set_cons_succ]
    refine wpAnyZ_takeL 36 rfl (by kernel_rfl) (by kernel_rfl) (by kernel_rfl) (by kernel_rfl) (by kernel_rfl) (fun _ _ _ h => h) (show YieldsIf _ _ _ _ (El E2) _ from yieldsIf_load rfl 29 _ rfl (g8) rfl 29 _ _ (.tail _ (.tail _ (.head _))) Try.underlying29 rfl (info_El _)) hS ?_
    simp only [Act.put, List.setIfInBounds_toArray, List.set_cons_zero, List.set_cons_succ]
    refine wpAnyZ_takeL 38 rfl (by kernel_rfl) (by kernel_rfl) (by kernel_rfl) (by kernel_rfl) (by kernel_rfl) (fun _ _ _ h => h) (show YieldsIf _ _ _ _ (El E0) _ from yieldsIf_load rfl 29 _ rfl (g6) rfl 29 _ _ (.head _) Try.underlying29 rfl (info_El _)) hS ?_
    simp only [Act.put, List.setIfInBounds_toArray, List.set_cons_zero, List.set_cons_succ]
    refine wpAnyZ_takeL 39 rfl (by kernel_rfl) (by kernel_rfl) (by kernel_rfl) (by kernel_rfl) (by kernel_rfl) (fun _ _ _ h => h) (show YieldsIf _ _ _ _ (El E1) _ from yieldsIf_load rfl 29 _ rfl (g7) rfl 29 _ _ (.tail _ (.head _)) Try.underlying29 rfl (info_El _)) hS ?_
    simp only [Act.put, List.setIfInBounds_toArray, List.set_cons_zero, List.set_cons_succ]
    refine wpAnyZ_takeL 40 rfl (by kernel_rfl) (by kernel_rfl) (by kernel_rfl) (by kernel_rfl) (by kernel_rfl) (fun _ _ _ h => h) (show YieldsIf _ _ _ _ (El E2) _ from yieldsIf_load rfl 29 _ rfl (g8) rfl 29 _ _ (.tail _ (.tail _ (.head _))) Try.underlying29 rfl (info_El _)) hS ?_
    simp only [Act.put, List.setIfInBounds_toArray, List.set_cons_zero, List.set_cons_succ]
    refine wpAnyZ_one (i := 35) (by kernel_rfl) ?_
    unfold wpOp
    go_simp
    left
    refine (mul_v E0 E1 E5 _ lE0 lE1 HE5.out).mono ?_
    rintro e v13 ⟨rfl, b⟩
    replace hB := hB.trans (b.mono hB.size)
    replace hS := hS.below b
    clear b
    refine ⟨hS, ?_⟩
    refine wpAnyZ_one (i := 37) (by kernel_rfl) ?_
    unfold wpOp
    go_simp
    left
    refine (mul_v E5 E2 E10 _ lE5 lE2 HE10.out).mono ?_
    rintro e v14 ⟨rfl, b⟩
    replace hB := hB.trans (b.mono hB.size)
    replace hS := hS.below b
    clear b
    refine ⟨hS, ?_⟩
    refine wpAnyZ_one (i := 41) (by kernel_rfl) ?_
    unfold wpOp
    go_simp
    left
    refine (mul_v E1 E2 E11 _ lE1 lE2 HE11.out).mono ?_
    rintro e v15 ⟨rfl, b⟩
    replace hB := hB.trans (b.mono hB.size)
    replace hS := hS.below b
    clear b
    refine ⟨hS, ?_⟩
    refine wpAnyZ_one (i := 42) (by kernel_rfl) ?_
    unfold wpOp
    go_simp
    left
    refine (mul_v E0 E11 E12 _ lE0 lE11 HE12.out).mono ?_
    rintro e v16 ⟨rfl, b⟩
    replace hB := hB.trans (b.mono hB.size)
    replace hS := hS.below b
    clear b
    refine ⟨hS, ?_⟩
    refine wpAnyZ_one (i := 43) (by kernel_rfl) ?_
    unfold wpOp
    go_simp
    left
    refine (same_v E10 E12 true _ (decide_eq_true (by simp only [HE10.out, HE5.out, HE12.out, HE11.out, Nat.mod_mul_mod, Nat.mul_mod_mod, Nat.mul_assoc]))).mono ?_
    rintro e v17 ⟨rfl, b⟩
    replace hB := hB.trans (b.mono hB.size)
    replace hS := hS.below b
    clear b
    refine ⟨hS, ?_⟩
    refine wpAnyZ_takeL 44 rfl (by kernel_rfl) (by kernel_rfl) (by kernel_rfl) (by kernel_rfl) (by kernel_rfl) (fun _ _ _ h => h) (yieldsIf_pick rfl _ _ _ rfl true rfl _ rfl) hS ?_
    simp only [Act.put, List.setIfInBounds_toArray, List.set_cons_zero, List.set_cons_succ]
    refine wpAnyZ_takeL 45 rfl (by kernel_rfl) (by kernel_rfl) (by kernel_rfl) (by kernel_rfl) (by kernel_rfl) (fun _ _ _ h => h) (yieldsIf_move rfl _ rfl _ rfl) hS ?_
    simp only [Act.put, List.setIfInBounds_toArray, List.set_cons_zero, List.set_cons_succ]
    refine wpAnyZ_takeL 46 rfl (by kernel_rfl) (by kernel_rfl) (by kernel_rfl) (by kernel_rfl) (by kernel_rfl) (fun _ _ _ h => h) (show YieldsIf _ _ _ _ (El E0) _ from yieldsIf_load rfl 29 _ rfl (g6) rfl 29 _ _ (.head _) Try.underlying29 rfl (info_El _)) hS ?_
    simp only [Act.put, List.setIfInBounds_toArray, List.set_cons_zero, List.set_cons_succ]
    refine wpAnyZ_takeL 47 rfl (by kernel_rfl) (by kernel_rfl) (by kernel_rfl) (by kernel_rfl) (by kernel_rfl) (fun _ _ _ h => h) (show YieldsIf _ _ _ _ (El E1) _ from yieldsIf_load rfl 29 _ rfl (g7) rfl 29 _ _ (.tail _ (.head _)) Try.underlying29 rfl (info_El _)) hS ?_
    simp only [Act.put, List.setIfInBounds_toArray, List.set_cons_zero, List.set_cons_succ]
    refine wpAnyZ_takeL 49 rfl (by kernel_rfl) (by kernel_rfl) (by kernel_rfl) (by kernel_rfl) (by kernel_rfl) (fun _ _ _ h => h) (show YieldsIf _ _ _ _ (El E2) _ from yieldsIf_load rfl 29 _ rfl (g8) rfl 29 _ _ (.tail _ (.tail _ (.head _))) Try.underlying29 rfl (info_El _)) hS ?_
    simp only [Act.put, List.setIfInBounds_toArray, List.set_cons_zero, List.set_cons_succ]
    refine wpAnyZ_takeL 51 rfl (by kernel_rfl) (by kernel_rfl) (by kernel_rfl) (by kernel_rfl) (by kernel_rfl) (fun _ _ _ h => h) (show YieldsIf _ _ _ _ (El E0) _ from yieldsIf_load rfl 29 _ rfl (g6) rfl 29 _ _ (.head _) Try.underlying29 rfl (info_El _)) hS ?_
    simp only [Act.put, List.setIfInBounds_toArray, List.set_cons_zero, List.set_cons_succ]
    refine wpAnyZ_takeL 52 rfl (by kernel_rfl) (by kernel_rfl) (by kernel_rfl) (by kernel_rfl) (by kernel_rfl) (fun _ _ _ h => h) (show YieldsIf _ _ _ _ (El E2) _ from yieldsIf_load rfl 29 _ rfl (g8) rfl 29 _ _ (.tail _ (.tail _ (.head _))) Try.underlying29 rfl (info_El _)) hS ?_
    simp only [Act.put, List.setIfInBounds_toArray, List.set_cons_zero, List.set_cons_succ]
    refine wpAnyZ_takeL 54 rfl (by kernel_rfl) (by kernel_rfl) (by kernel_rfl) (by kernel_rfl) (by kernel_rfl) (fun _ _ _ h => h) (show YieldsIf _ _ _ _ (El E1) _ from yieldsIf_load rfl 29 _ rfl (g7) rfl 29 _ _ (.tail _ (.head _)) Try.underlying29 rfl (info_El _)) hS ?_
    simp only [Act.put, List.setIfInBounds_toArray, List.set_cons_zero, List.set_cons_succ]
    refine wpAnyZ_takeL 55 rfl (by kernel_rfl) (by kernel_rfl) (by kernel_rfl) (by kernel_rfl) (by kernel_rfl) (fun _ _ _ h => h) (show YieldsIf _ _ _ _ (El E2) _ from yieldsIf_load rfl 29 _ rfl (g8) rfl 29 _ _ (.tail _ (.tail _ (.head _))) Try.underlying29 rfl (info_El _)) hS ?_
    simp only [Act.put, List.setIfInBounds_toArray, List.set_cons_zero, List.set_cons_succ]
    refine wpAnyZ_one (i := 48) (by kernel_rfl) ?_
    unfold wpOp
    go_simp
    left
    refine (add_v E0 E1 E3 _ lE0 lE1 HE3.out).mono ?_
    rintro e v18 ⟨rfl, b⟩
    replace hB := hB.trans (b.mono hB.size)
    replace hS := hS.below b
    clear b
    refine ⟨hS, ?_⟩
    refine wpAnyZ_one (i := 50) (by kernel_rfl) ?_
    unfold wpOp
    go_simp
    left
    refine (mul_v E3 E2 E13 _ lE3 lE2 HE13.out).mono ?_
    rintro e v19 ⟨rfl, b⟩
    replace hB := hB.trans (b.mono hB.size)
    replace hS := hS.below b
    clear b
    refine ⟨hS, ?_⟩
    refine wpAnyZ_one (i := 53) (by kernel_rfl) ?_
    unfold wpOp
    go_simp
    left
    refine (mul_v E0 E2 E14 _ lE0 lE2 HE14.out).mono ?_
    rintro e v20 ⟨rfl, b⟩
    replace hB := hB.trans (b.mono hB.size)
    replace hS := hS.below b
    clear b
    refine ⟨hS, ?_⟩
    refine wpAnyZ_one (i := 56) (by kernel_rfl) ?_
    unfold wpOp
    go_simp
    left
    refine (mul_v E1 E2 E11 _ lE1 lE2 HE11.out).mono ?_
    rintro e v21 ⟨rfl, b⟩
    replace hB := hB.trans (b.mono hB.size)
    replace hS := hS.below b
    clear b
    refine ⟨hS, ?_⟩
    refine wpAnyZ_one (i := 57) (by kernel_rfl) ?_
    unfold wpOp
    go_simp
    left
    refine (add_v E14 E11 E15 _ lE14 lE11 HE15.out).mono ?_
    rintro e v22 ⟨rfl, b⟩
    replace hB := hB.trans (b.mono hB.size)
    replace hS := hS.below b
    clear b
    refine ⟨hS, ?_⟩
    refine wpAnyZ_one (i := 58) (by kernel_rfl) ?_
    unfold wpOp
    go_simp
    left
    refine (same_v E13 E15 true _ (decide_eq_true (by simp only [HE13.out, HE3.out, HE15.out, HE14.out, HE11.out, Nat.mod_mul_mod, Nat.mul_mod_mod, Nat.mod_add_mod, Nat.add_mod_mod, Nat.add_mul]))).mono ?_
    rintro e v23 ⟨rfl, b⟩
    replace hB := hB.trans (b.mono hB.size)
    replace hS := hS.below b
    clear b
    refine ⟨hS, ?_⟩
    refine wpAnyZ_takeL 59 rfl (by kernel_rfl) (by kernel_rfl) (by kernel_rfl) (by kernel_rfl) (by kernel_rfl) (fun _ _ _ h => h) (yieldsIf_pick rfl _ _ _ rfl true rfl _ rfl) hS ?_
    simp only [Act.put, List.setIfInBounds_toArray, List.set_cons_zero, List.set_cons_succ]
    refine wpAnyZ_takeL 60 rfl (by kernel_rfl) (by kernel_rfl) (by kernel_rfl) (by kernel_rfl) (by kernel_rfl) (fun _ _ _ h => h) (yieldsIf_move rfl _ rfl _ rfl) hS ?_
    simp only [Act.put, List.setIfInBounds_toArray, List.set_cons_zero, List.set_cons_succ]
    refine wpAnyZ_takeL 61 rfl (by kernel_rfl) (by kernel_rfl) (by kernel_rfl) (by kernel_rfl) (by kernel_rfl) (fun _ _ _ h => h) (show YieldsIf _ _ _ _ (El E0) _ from yieldsIf_load rfl 29 _ rfl (g6) rfl 29 _ _ (.head _) Try.underlying29 rfl (info_El _)) hS ?_
    simp only [Act.put, List.setIfInBounds_toArray, List.set_cons_zero, List.set_cons_succ]
    refine wpAnyZ_takeL 62 rfl (by kernel_rfl) (by kernel_rfl) (by kernel_rfl) (by kernel_rfl) (by kernel_rfl) (fun _ _ _ h => h) (show YieldsIf _ _ _ _ (El E0) _ from yieldsIf_load rfl 29 _ rfl (g6) rfl 29 _ _ (.head _) Try.underlying29 rfl (info_El _)) hS ?_
    simp only [Act.put, List.setIfInBounds_toArray, List.set_cons_zero, List.set_cons_succ]
    refine wpAnyZ_one (i := 63) (by kernel_rfl) ?_
    unfold wpOp
    go_simp
    left
    refine (sub_v E0 E0 E16 _ lE0 lE0 HE16.out).mono ?_
    rintro e v24 ⟨rfl, b⟩
    replace hB := hB.trans (b.mono hB.size)
    replace hS := hS.below b
    clear b
    refine ⟨hS, ?_⟩
    refine wpAnyZ_one (i := 64) (by kernel_rfl) ?_
    unfold wpOp
    go_simp
    left
    refine (zero_v E16 true _ (decide_eq_true (by rw [HE16.out]; exact sub_self_mod _ _ lE0))).mono ?_
    rintro e v25 ⟨rfl, b⟩
    replace hB := hB.trans (b.mono hB.size)
    replace hS := hS.below b
    clear b
    refine ⟨hS, ?_⟩
    refine wpAnyZ_takeL 65 rfl (by kernel_rfl) (by kernel_rfl) (by kernel_rfl) (by kernel_rfl) (by kernel_rfl) (fun _ _ _ h => h) (yieldsIf_pick rfl _ _ _ rfl true rfl _ rfl) hS ?_
    simp only [Act.put, List.setIfInBounds_toArray, List.set_cons_zero, List.set_cons_succ]
    refine wpAnyZ_takeL 66 rfl (by kernel_rfl) (by kernel_rfl) (by kernel_rfl) (by kernel_rfl) (by kernel_rfl) (fun _ _ _ h => h) (yieldsIf_move rfl _ rfl _ rfl) hS ?_
    simp only [Act.put, List.setIfInBounds_toArray, List.set_cons_zero, List.set_cons_succ]
    refine wpAnyZ_takeL 67 rfl (by kernel_rfl) (by kernel_rfl) (by kernel_rfl) (by kernel_rfl) (by kernel_rfl) (fun _ _ _ h => h) (show YieldsIf _ _ _ _ (El E0) _ from yieldsIf_load rfl 29 _ rfl (g6) rfl 29 _ _ (.head _) Try.underlying29 rfl (info_El _)) hS ?_
    simp only [Act.put, List.setIfInBounds_toArray, List.set_cons_zero, List.set_cons_succ]
    refine wpAnyZ_takeL 68 rfl (by kernel_rfl) (by kernel_rfl) (by kernel_rfl) (by kernel_rfl) (by kernel_rfl) (fun _ _ _ h => h) (show YieldsIf _ _ _ _ (El E1) _ from yieldsIf_load rfl 29 _ rfl (g7) rfl 29 _ _ (.tail _ (.head _)) Try.underlying29 rfl (info_El _)) hS ?_
    simp only [Act.put, List.setIfInBounds_toArray, List.set_cons_zero, List.set_cons_succ]
    refine wpAnyZ_takeL 70 rfl (by kernel_rfl) (by kernel_rfl) (by kernel_rfl) (by kernel_rfl) (by kernel_rfl) (fun _ _ _ h => h) (show YieldsIf _ _ _ _ (El E1) _ from yieldsIf_load rfl 29 _ rfl (g7) rfl 29 _ _ (.tail _ (.head _)) Try.underlying29 rfl (info_El _)) hS ?_
    simp only [Act.put, List.setIfInBounds_toArray, List.set_cons_zero, List.set_cons_succ]
    refine wpAnyZ_takeL 72 rfl (by kernel_rfl) (by kernel_rfl) (by kernel_rfl) (by kernel_rfl) (by kernel_rfl) (fun _ _ _ h => h) (show YieldsIf _ _ _ _ (El E0) _ from yieldsIf_load rfl 29 _ rfl (g6) rfl 29 _ _ (.head _) Try.underlying29 rfl (info_El _)) hS ?_
    simp only [Act.put, List.setIfInBounds_toArray, List.set_cons_zero, List.set_cons_succ]
    refine wpAnyZ_one (i := 69) (by kernel_rfl) ?_
    unfold wpOp
    go_simp
    left
    refine (sub_v E0 E1 E17 _ lE0 lE1 HE17.out).mono ?_
    rintro e v26 ⟨rfl, b⟩
    replace hB := hB.trans (b.mono hB.size)
    replace hS := hS.below b
    clear b
    refine ⟨hS, ?_⟩
    refine wpAnyZ_one (i := 71) (by kernel_rfl) ?_
    unfold wpOp
    go_simp
    left
    refine (add_v E17 E1 E18 _ lE17 lE1 HE18.out).mono ?_
    rintro e v27 ⟨rfl, b⟩
    replace hB := hB.trans (b.mono hB.size)
    replace hS := hS.below b
    clear b
    refine ⟨hS, ?_⟩
    refine wpAnyZ_one (i := 73) (by kernel_rfl) ?_
    unfold wpOp
    go_simp
    left
    refine (same_v E18 E0 true _ (decide_eq_true (by simp only [HE18.out, HE17.out, Nat.mod_add_mod]; exact sub_add_mod _ _ _ lE0 lE1))).mono ?_
    rintro e v28 ⟨rfl, b⟩
    replace hB := hB.trans (b.mono hB.size)
    replace hS := hS.below b
    clear b
    refine ⟨hS, ?_⟩
    refine wpAnyZ_takeL 74 rfl (by kernel_rfl) (by kernel_rfl) (by kernel_rfl) (by kernel_rfl) (by kernel_rfl) (fun _ _ _ h => h) (yieldsIf_pick rfl _ _ _ rfl true rfl _ rfl) hS ?_
    simp only [Act.put, List.setIfInBounds_toArray, List.set_cons_zero, List.set_cons_succ]
    refine wpAnyZ_takeL 75 rfl (by kernel_rfl) (by kernel_rfl) (by kernel_rfl) (by kernel_rfl) (by kernel_rfl) (fun _ _ _ h => h) (yieldsIf_move rfl _ rfl _ rfl) hS ?_
    simp only [Act.put, List.setIfInBounds_toArray, List.set_cons_zero, List.set_cons_succ]
    refine wpAnyZ_takeL 76 rfl (by kernel_rfl) (by kernel_rfl) (by kernel_rfl) (by kernel_rfl) (by kernel_rfl) (fun _ _ _ h => h) (show YieldsIf _ _ _ _ (El E0) _ from yieldsIf_load rfl 29 _ rfl (g6) rfl 29 _ _ (.head _) Try.underlying29 rfl (info_El _)) hS ?_
    simp only [Act.put, List.setIfInBounds_toArray, List.set_cons_zero, List.set_cons_succ]
    refine wpAnyZ_takeL 78 rfl (by kernel_rfl) (by kernel_rfl) (by kernel_rfl) (by kernel_rfl) (by kernel_rfl) (fun _ _ _ h => h) (show YieldsIf _ _ _ _ (El E0) _ from yieldsIf_load rfl 29 _ rfl (g6) rfl 29 _ _ (.head _) Try.underlying29 rfl (info_El _)) hS ?_
    simp only [Act.put, List.setIfInBounds_toArray, List.set_cons_zero, List.set_cons_succ]
    refine wpAnyZ_one (i := 77) (by kernel_rfl) ?_
    unfold wpOp
    go_simp
    left
    refine (neg_v E0 E19 _ lE0 HE19.out).mono ?_
    rintro e v29 ⟨rfl, b⟩
    replace hB := hB.trans (b.mono hB.size)
    replace hS := hS.below b
    clear b
    refine ⟨hS, ?_⟩
    refine wpAnyZ_one (i := 79) (by kernel_rfl) ?_
    unfold wpOp
    go_simp
    left
    refine (add_v E19 E0 E20 _ lE19 lE0 HE20.out).mono ?_
    rintro e v30 ⟨rfl, b⟩
    replace hB := hB.trans (b.mono hB.size)
    replace hS := hS.below b
    clear b
    refine ⟨hS, ?_⟩
    refine wpAnyZ_one (i := 80) (by kernel_rfl) ?_
    unfold wpOp
    go_simp
    left
    refine (zero_v E20 true _ (decide_eq_true (by simp only [HE20.out, HE19.out, Nat.mod_add_mod]; exact neg_add_mod _ _ lE0))).mono ?_
    rintro e v31 ⟨rfl, b⟩
    replace hB := hB.trans (b.mono hB.size)
    replace hS := hS.below b
    clear b
    refine ⟨hS, ?_⟩
    refine wpAnyZ_takeL 81 rfl (by kernel_rfl) (by kernel_rfl) (by kernel_rfl) (by kernel_rfl) (by kernel_rfl) (fun _ _ _ h => h) (yieldsIf_pick rfl _ _ _ rfl true rfl _ rfl) hS ?_
    simp only [Act.put, List.setIfInBounds_toArray, List.set_cons_zero, List.set_cons_succ]
    refine wpAnyZ_one (i := 82) (by kernel_rfl) ?_
    unfold wpOp
    go_simp
    left
    refine wpAnyZ_done (by kernel_rfl) ?_ _
    go_wp2
    go_ret
    exact ⟨rfl, hB⟩

set_option maxHeartbeats 8000000 in
set_option maxRecDepth 100000 in
theorem laws_some (l0 l1 l2 : List Int) (f0 f1 f2 : Nat → Nat) (hl0 : Bytes32 l0 f0) (hl1 : Bytes32 l1 f1) (hl2 : Bytes32 l2 f2) (hz : ¬ leTo f0 32 % 57896044618658097711785492504343953926634992332820282019728792003956564819968 % pp = 0) (w : World) :
    Calls Try.prog 7 #[Key l0, Key l1, Key l2] w fun e w' => e = .returned (.bool true) ∧ Below w.heap.size w w' := by
  obtain ⟨E0, hE0⟩ : ∃ r, r = leTo f0 32 % 57896044618658097711785492504343953926634992332820282019728792003956564819968 % pp := ⟨_, rfl⟩
  have lE0 : E0 < pp := hE0 ▸ Nat.mod_lt _ pp_pos
  rw [← hE0] at hz
  have HE0 := Lib.hid hE0
  clear hE0
  obtain ⟨E1, hE1⟩ : ∃ r, r = leTo f1 32 % 57896044618658097711785492504343953926634992332820282019728792003956564819968 % pp := ⟨_, rfl⟩
  have lE1 : E1 < pp := hE1 ▸ Nat.mod_lt _ pp_pos
  have HE1 := Lib.hid hE1
  clear hE1
  obtain ⟨E2, hE2⟩ : ∃ r, r = leTo f2 32 % 57896044618658097711785492504343953926634992332820282019728792003956564819968 % pp := ⟨_, rfl⟩
  have lE2 : E2 < pp := hE2 ▸ Nat.mod_lt _ pp_pos
  have HE2 := Lib.hid hE2
  clear hE2
  obtain ⟨E3, hE3⟩ : ∃ r, r = mpow E0 57896044618658097711785492504343953926634992332820282019728792003956564819947 := ⟨_, rfl⟩
  have lE3 : E3 < pp := hE3 ▸ mpow_lt _ _
  have HE3 := Lib.hid hE3
  clear hE3
  obtain ⟨E4, hE4⟩ : ∃ r, r = E0 * E3 % pp := ⟨_, rfl⟩
  have lE4 : E4 < pp := hE4 ▸ Nat.mod_lt _ pp_pos
  have HE4 := Lib.hid hE4
  clear hE4
  obtain ⟨E5, hE5⟩ : ∃ r, r = 1 := ⟨_, rfl⟩
  have lE5 : E5 < pp := hE5 ▸ by rw [pp_eq]; decide
  have HE5 := Lib.hid hE5
  clear hE5
  obtain ⟨E6, hE6⟩ : ∃ r, r = (E0 + E1) % pp := ⟨_, rfl⟩
  have lE6 : E6 < pp := hE6 ▸ Nat.mod_lt _ pp_pos
  have HE6 := Lib.hid hE6
  clear hE6
  obtain ⟨E7, hE7⟩ : ∃ r, r = (E1 + E0) % pp := ⟨_, rfl⟩
  have lE7 : E7 < pp := hE7 ▸ Nat.mod_lt _ pp_pos
  have HE7 := Lib.hid hE7
  clear hE7
  obtain ⟨E8, hE8⟩ : ∃ r, r = E0 * E1 % pp := ⟨_, rfl⟩
  have lE8 : E8 < pp := hE8 ▸ Nat.mod_lt _ pp_pos
  have HE8 := Lib.hid hE8
  clear hE8
  obtain ⟨E9, hE9⟩ : ∃ r, r = E1 * E0 % pp := ⟨_, rfl⟩
  have lE9 : E9 < pp := hE9 ▸ Nat.mod_lt _ pp_pos
  have HE9 := Lib.hid hE9
  clear hE9
  obtain ⟨E10, hE10⟩ : ∃ r, r = (E6 + E2) % pp := ⟨_, rfl⟩
  have lE10 : E10 < pp := hE10 ▸ Nat.mod_lt _ pp_pos
  have HE10 := Lib.hid hE10
  clear hE10
  obtain ⟨E11, hE11⟩ : ∃ r, r = (E1 + E2) % pp := ⟨_, rfl⟩
  have lE11 : E11 < pp := hE11 ▸ Nat.mod_lt _ pp_pos
  have HE11 := Lib.hid hE11
  clear hE11
  obtain ⟨E12, hE12⟩ : ∃ r, r = (E0 + E11) % pp := ⟨_, rfl⟩
  have lE12 : E12 < pp := hE12 ▸ Nat.mod_lt _ pp_pos
  have HE12 := Lib.hid hE12
  clear hE12
  obtain ⟨E13, hE13⟩ : ∃ r, r = E8 * E2 % pp := ⟨_, rfl⟩
  have lE13 : E13 < pp := hE13 ▸ Nat.mod_lt _ pp_pos
  have HE13 := Lib.hid hE13
  clear hE13
  obtain ⟨E14, hE14⟩ : ∃ r, r = E1 * E2 % pp := ⟨_, rfl⟩
  have lE14 : E14 < pp := hE14 ▸ Nat.mod_lt _ pp_pos
  have HE14 := Lib.hid hE14
  clear hE14
  obtain ⟨E15, hE15⟩ : ∃ r, r = E0 * E14 % pp := ⟨_, rfl⟩
  have lE15 : E15 < pp := hE15 ▸ Nat.mod_lt _ pp_pos
  have HE15 := Lib.hid hE15
  clear hE15
  obtain ⟨E16, hE16⟩ : ∃ r, r = E6 * E2 % pp := ⟨_, rfl⟩
  have lE16 : E16 < pp := hE16 ▸ Nat.mod_lt _ pp_pos
  have HE16 := Lib.hid hE16
  clear hE16
  obtain ⟨E17, hE17⟩ : ∃ r, r = E0 * E2 % pp := ⟨_, rfl⟩
  have lE17 : E17 < pp := hE17 ▸ Nat.mod_lt _ pp_pos
  have HE17 := Lib.hid hE17
  clear hE17
  obtain ⟨E18, hE18⟩ : ∃ r, r = (E17 + E14) % pp := ⟨_, rfl⟩
  have lE18 : E18 < pp := hE18 ▸ Nat.mod_lt _ pp_pos
  have HE18 := Lib.hid hE18
  clear hE18
  obtain ⟨E19, hE19⟩ : ∃ r, r = (E0 + (pp - E0)) % pp := ⟨_, rfl⟩
  have lE19 : E19 < pp := hE19 ▸ Nat.mod_lt _ pp_pos
  have HE19 := Lib.hid hE19
  clear hE19
  obtain ⟨E20, hE20⟩ : ∃ r, r = (E0 + (pp - E1)) % pp := ⟨_, rfl⟩
  have lE20 : E20 < pp := hE20 ▸ Nat.mod_lt _ pp_pos
  have HE20 := Lib.hid hE20
  clear hE20
  obtain ⟨E21, hE21⟩ : ∃ r, r = (E20 + E1) % pp := ⟨_, rfl⟩
  have lE21 : E21 < pp := hE21 ▸ Nat.mod_lt _ pp_pos
  have HE21 := Lib.hid hE21
  clear hE21
  obtain ⟨E22, hE22⟩ : ∃ r, r = (pp - E0) % pp := ⟨_, rfl⟩
  have lE22 : E22 < pp := hE22 ▸ Nat.mod_lt _ pp_pos
  have HE22 := Lib.hid hE22
  clear hE22
  obtain ⟨E23, hE23⟩ : ∃ r, r = (E22 + E0) % pp := ⟨_, rfl⟩
  have lE23 : E23 < pp := hE23 ▸ Nat.mod_lt _ pp_pos
  have HE23 := Lib.hid hE23
  clear hE23
  unfold Key
  have hz' := Lib.hid hz
  clear hz
  go_enter Try.func7, Try.ntmps7
  go_wp2_with fail
  refine (awake_any _).mono ?_
  rintro e w1 ⟨rfl, b⟩
  have hS : Facts [.blk (w.heap.size) 23 (Iv .u8 l0), .blk (w.heap.size + 1) 23 (Iv .u8 l1), .blk (w.heap.size + 1 + 1) 23 (Iv .u8 l2)] w1 := Facts.below (Facts.cons (((Blk.new w _ _).alloc _).alloc _) (Facts.cons ((Blk.new' (by simp) _ _).alloc _) (Facts.cons (Blk.new' (by simp) _ _) Facts.nil))) b
  have hB : Below w.heap.size w w1 := ((((Below.refl w.heap.size w).alloc (Nat.le_refl _) _).alloc (by simp) _).alloc (by simp; omega) _).trans (b.mono (by simp; omega))
  clear b
  go_upto_region 3 with fail
  replace hS := hS.drew
  replace hB := below_drew hB
  refine wp_region_Z (S := Facts [.blk (w.heap.size) 23 (Iv .u8 l0), .blk (w.heap.size + 1) 23 (Iv .u8 l1), .blk (w.heap.size + 1 + 1) 23 (Iv .u8 l2)]) 11 (by kernel_rfl) ?_
  refine wpAnyZ_takeL 0 rfl (by kernel_rfl) (by kernel_rfl) (by kernel_rfl) (by kernel_rfl) (by kernel_rfl) (fun _ _ _ h => h) (show YieldsIf _ _ _ _ (Key l0) _ from yieldsIf_load rfl 23 _ rfl (w.heap.size) rfl 23 _ _ (.head _) Try.underlying23 rfl (info_key _ hl0.len)) hS ?_
  simp only [Act.put, List.setIfInBounds_toArray, List.set_cons_zero, List.set_cons_succ]
  refine wpAnyZ_takeL 2 rfl (by kernel_rfl) (by kernel_rfl) (by kernel_rfl) (by kernel_rfl) (by kernel_rfl) (fun _ _ _ h => h) (show YieldsIf _ _ _ _ (Key l1) _ from yieldsIf_load rfl 23 _ rfl (w.heap.size + 1) rfl 23 _ _ (.tail _ (.head _)) Try.underlying23 rfl (info_key _ hl1.len)) hS ?_
  simp only [Act.put, List.setIfInBounds_toArray, List.set_cons_zero, List.set_cons_succ]
  refine wpAnyZ_takeL 4 rfl (by kernel_rfl) (by kernel_rfl) (by kernel_rfl) (by kernel_rfl) (by kernel_rfl) (fun _ _ _ h => h) (show YieldsIf _ _ _ _ (Key l2) _ from yieldsIf_load rfl 23 _ rfl (w.heap.size + 1 + 1) rfl 23 _ _ (.tail _ (.tail _ (.head _))) Try.underlying23 rfl (info_key _ hl2.len)) hS ?_
  simp only [Act.put, List.setIfInBounds_toArray, List.set_cons_zero, List.set_cons_succ]
  refine wpAnyZ_jobsL [(⟨1, 14⟩, .is (El E0)), (⟨3, 16⟩, .is (El E1)), (⟨5, 18⟩, .is (El E2)), (⟨6, 7⟩, .rel (fun v w' => ∃ g, v = .pointer (some ⟨g, 0, none⟩) ∧ Blk w' g 29 (El_cells 0))), (⟨7, 8⟩, .rel (fun v w' => ∃ g, v = .pointer (some ⟨g, 0, none⟩) ∧ Blk w' g 29 (El_cells 0))), (⟨8, 9⟩, .rel (fun v w' => ∃ g, v = .pointer (some ⟨g, 0, none⟩) ∧ Blk w' g 29 (El_cells 0)))] [] 3 _ _ _ (by kernel_rfl) (fun _ _ _ _ _ h => h) ?_ (fun _ _ _ _ _ h => h) (fun _ _ h hb => h.below hb) hS ?_ ?_ ?_
  · exact fun _ _ h => by cases h
  · intro j hj
    simp only [List.map_cons, List.map_nil, List.mem_cons, List.not_mem_nil, or_false] at hj
    rcases hj with rfl | rfl | rfl | rfl | rfl | rfl
    · exact fun _ _ _ h _ => h
    · exact fun _ _ _ h _ => h
    · exact fun _ _ _ h _ => h
    · intro v w1 w2 h hb
      obtain ⟨g, e, H⟩ : ∃ g, v = .pointer (some ⟨g, 0, none⟩) ∧ Blk w1 g 29 (El_cells 0) := h
      exact ⟨g, e, H.below' hb⟩
    · intro v w1 w2 h hb
      obtain ⟨g, e, H⟩ : ∃ g, v = .pointer (some ⟨g, 0, none⟩) ∧ Blk w1 g 29 (El_cells 0) := h
      exact ⟨g, e, H.below' hb⟩
    · intro v w1 w2 h hb
      obtain ⟨g, e, H⟩ : ∃ g, v = .pointer (some ⟨g, 0, none⟩) ∧ Blk w1 g 29 (El_cells 0) := h
      exact ⟨g, e, H.below' hb⟩
  · intro j hj
    simp only [List.map_cons, List.map_nil, List.mem_cons, List.not_mem_nil, or_false] at hj
    rcases hj with rfl | rfl | rfl | rfl | rfl | rfl
    · refine job_frame [] (by kernel_rfl) ?_
      show JobAt _ _ _ _ _ _ _
      intro W K hS' hK
      unfold wpOp
      go_simp
      left
      refine (of_v l0 f0 hl0 E0 HE0.out _).mono ?_
      rintro e v ⟨rfl, b⟩
      exact hK _ _ rfl b (fun g hg => ((block_agg _) g hg).elim)
    · refine job_frame [] (by kernel_rfl) ?_
      show JobAt _ _ _ _ _ _ _
      intro W K hS' hK
      unfold wpOp
      go_simp
      left
      refine (of_v l1 f1 hl1 E1 HE1.out _).mono ?_
      rintro e v ⟨rfl, b⟩
      exact hK _ _ rfl b (fun g hg => ((block_agg _) g hg).elim)
    · refine job_frame [] (by kernel_rfl) ?_
      show JobAt _ _ _ _ _ _ _
      intro W K hS' hK
      unfold wpOp
      go_simp
      left
      refine (of_v l2 f2 hl2 E2 HE2.out _).mono ?_
      rintro e v ⟨rfl, b⟩
      exact hK _ _ rfl b (fun g hg => ((block_agg _) g hg).elim)
    · refine job_frame [] (by kernel_rfl) ?_
      show JobAt _ _ _ _ _ _ _
      exact job_alloc 29 (El_cells 0) _ _ rfl rfl rfl (fun W => by go_simp; rfl)
    · refine job_frame [] (by kernel_rfl) ?_
      show JobAt _ _ _ _ _ _ _
      exact job_alloc 29 (El_cells 0) _ _ rfl rfl rfl (fun W => by go_simp; rfl)
    · refine job_frame [] (by kernel_rfl) ?_
      show JobAt _ _ _ _ _ _ _
      exact job_alloc 29 (El_cells 0) _ _ rfl rfl rfl (fun W => by go_simp; rfl)
  · intro f W hS2 hB1 hR hF hA
    have e1 : f 1 = (El E0) := hR ⟨1, 14⟩ (by simp)
    have e3 : f 3 = (El E1) := hR ⟨3, 16⟩ (by simp)
    have e5 : f 5 = (El E2) := hR ⟨5, 18⟩ (by simp)
    obtain ⟨g6, e6, A6⟩ : ∃ g, f 6 = .pointer (some ⟨g, 0, none⟩) ∧ Blk W g 29 (El_cells 0) := hR ⟨6, 7⟩ (by simp)
    have n6 : _ ≤ g6 := (hF ⟨6, 7⟩ (by simp) g6 (by show blockOf (f 6) = _; rw [e6]; rfl)).1
    obtain ⟨g7, e7, A7⟩ : ∃ g, f 7 = .pointer (some ⟨g, 0, none⟩) ∧ Blk W g 29 (El_cells 0) := hR ⟨7, 8⟩ (by simp)
    have n7 : _ ≤ g7 := (hF ⟨7, 8⟩ (by simp) g7 (by show blockOf (f 7) = _; rw [e7]; rfl)).1
    obtain ⟨g8, e8, A8⟩ : ∃ g, f 8 = .pointer (some ⟨g, 0, none⟩) ∧ Blk W g 29 (El_cells 0) := hR ⟨8, 9⟩ (by simp)
    have n8 : _ ≤ g8 := (hF ⟨8, 9⟩ (by simp) g8 (by show blockOf (f 8) = _; rw [e8]; rfl)).1
    have d6_7 : g6 ≠ g7 := fun h => hA ⟨6, 7⟩ (by simp) ⟨7, 8⟩ (by simp) (by decide) g6 (by show blockOf (f 6) = _; rw [e6]; rfl) (by show blockOf (f 7) = _; rw [e7, h]; rfl)
    have d6_8 : g6 ≠ g8 := fun h => hA ⟨6, 7⟩ (by simp) ⟨8, 9⟩ (by simp) (by decide) g6 (by show blockOf (f 6) = _; rw [e6]; rfl) (by show blockOf (f 8) = _; rw [e8, h]; rfl)
    have d7_8 : g7 ≠ g8 := fun h => hA ⟨7, 8⟩ (by simp) ⟨8, 9⟩ (by simp) (by decide) g7 (by show blockOf (f 7) = _; rw [e7]; rfl) (by show blockOf (f 8) = _; rw [e8, h]; rfl)
    clear hA hF hR
    simp only [setAll, putAll, List.map_cons, List.map_nil, List.foldr_cons, List.foldr_nil, Act.put, List.setIfInBounds_toArray, List.set_cons_zero, List.set_cons_succ, e1, e3, e5, e6, e7, e8]
    clear e1 e3 e5 e6 e7 e8
    have hBs := hB1
    replace hB1 := below_setRow hB1 n6 (El_cells E0)
    refine wpAnyZ_store_row 9 rfl (by kernel_rfl) rfl _ _ _ rfl g6 (El_cells E0) rfl rfl _ _ A6 (info_El _) rfl (El_one _) (hS.below hB1) ?_
    try simp only [Act.put, List.setIfInBounds_toArray, List.set_cons_zero, List.set_cons_succ]
    replace A7 := A7.rowFar (Ne.symm d6_7) (El_cells E0)
    replace A8 := A8.rowFar (Ne.symm d6_8) (El_cells E0)
    replace A6 := A6.row (El_cells E0)
    replace hB1 := below_setRow hB1 n7 (El_cells E1)
    refine wpAnyZ_store_row 10 rfl (by kernel_rfl) rfl _ _ _ rfl g7 (El_cells E1) rfl rfl _ _ A7 (info_El _) rfl (El_one _) (hS.below hB1) ?_
    try simp only [Act.put, List.setIfInBounds_toArray, List.set_cons_zero, List.set_cons_succ]
    replace A6 := A6.rowFar d6_7 (El_cells E1)
    replace A8 := A8.rowFar (Ne.symm d7_8) (El_cells E1)
    replace A7 := A7.row (El_cells E1)
    replace hB1 := below_setRow hB1 n8 (El_cells E2)
    refine wpAnyZ_store_row 11 rfl (by kernel_rfl) rfl _ _ _ rfl g8 (El_cells E2) rfl rfl _ _ A8 (info_El _) rfl (El_one _) (hS.below hB1) ?_
    try simp only [Act.put, List.setIfInBounds_toArray, List.set_cons_zero, List.set_cons_succ]
    replace A6 := A6.rowFar d6_8 (El_cells E2)
    replace A7 := A7.rowFar d7_8 (El_cells E2)
    replace A8 := A8.row (El_cells E2)
    refine wpAnyZ_done (by kernel_rfl) ?_ _
    have hS3 := hS.below hB1
    replace hB := hB.trans (hB1.mono hB.size)
    clear hS hS2 hB1 hBs
    have hS : Facts [.blk (g6) 29 (El_cells E0), .blk (g7) 29 (El_cells E1), .blk (g8) 29 (El_cells E2), .blk (w.heap.size) 23 (Iv .u8 l0), .blk (w.heap.size + 1) 23 (Iv .u8 l1), .blk (w.heap.size + 1 + 1) 23 (Iv .u8 l2)] _ := Facts.cons (f := .blk g6 29 (El_cells E0)) A6 (Facts.cons (f := .blk g7 29 (El_cells E1)) A7 (Facts.cons (f := .blk g8 29 (El_cells E2)) A8 (hS3)))
    clear hS3
    try clear n6 n7 n8
    clear A6 A7 A8
    generalize hWn : World.setRow _ _ _ = Wn at *
    clear hWn
    go_upto_region 4 with fail
    replace hS := hS.drew
    replace hB := below_drew hB
    refine wp_region_Z (S := Facts [.blk (g6) 29 (El_cells E0), .blk (g7) 29 (El_cells E1), .blk (g8) 29 (El_cells E2), .blk (w.heap.size) 23 (Iv .u8 l0), .blk (w.heap.size + 1) 23 (Iv .u8 l1), .blk (w.heap.size + 1 + 1) 23 (Iv .u8 l2)]) 10 (by kernel_rfl) ?_
    refine wpAnyZ_takeL 0 rfl (by kernel_rfl) (by kernel_rfl) (by kernel_rfl) (by kernel_rfl) (by kernel_rfl) (fun _ _ _ h => h) (show YieldsIf _ _ _ _ (El E0) _ from yieldsIf_load rfl 29 _ rfl (g6) rfl 29 _ _ (.head _) Try.underlying29 rfl (info_El _)) hS ?_
    simp only [Act.put, List.setIfInBounds_toArray, List.set_cons_zero, List.set_cons_succ]
    refine wpAnyZ_one (i := 1) (by kernel_rfl) ?_
    unfold wpOp
    go_simp
    left
    refine (zero_v E0 false _ (decide_eq_false hz'.out)).mono ?_
    rintro e v1 ⟨rfl, b⟩
    replace hB := hB.trans (b.mono hB.size)
    replace hS := hS.below b
    clear b
    refine ⟨hS, ?_⟩
    refine wpAnyZ_takeL 2 rfl (by kernel_rfl) (by kernel_rfl) (by kernel_rfl) (by kernel_rfl) (by kernel_rfl) (fun _ _ _ h => h) (yieldsIf_move rfl _ rfl _ rfl) hS ?_
    simp only [Act.put, List.setIfInBounds_toArray, List.set_cons_zero, List.set_cons_succ]
    refine wpAnyZ_takeL 3 rfl (by kernel_rfl) (by kernel_rfl) (by kernel_rfl) (by kernel_rfl) (by kernel_rfl) (fun _ _ _ h => h) (show YieldsIf _ _ _ _ (El E0) _ from yieldsIf_load rfl 29 _ rfl (g6) rfl 29 _ _ (.head _) Try.underlying29 rfl (info_El _)) hS ?_
    simp only [Act.put, List.setIfInBounds_toArray, List.set_cons_zero, List.set_cons_succ]
    refine wpAnyZ_takeL 4 rfl (by kernel_rfl) (by kernel_rfl) (by kernel_rfl) (by kernel_rfl) (by kernel_rfl) (fun _ _ _ h => h) (show YieldsIf _ _ _ _ (El E0) _ from yieldsIf_load rfl 29 _ rfl (g6) rfl 29 _ _ (.head _) Try.underlying29 rfl (info_El _)) hS ?_
    simp only [Act.put, List.setIfInBounds_toArray, List.set_cons_zero, List.set_cons_succ]
    refine wpAnyZ_one (i := 5) (by kernel_rfl) ?_
    unfold wpOp
    go_simp
    left
    refine (inv_v E0 E3 _ lE0 HE3.out).mono ?_
    rintro e v2 ⟨rfl, b⟩
    replace hB := hB.trans (b.mono hB.size)
    replace hS := hS.below b
    clear b
    refine ⟨hS, ?_⟩
    refine wpAnyZ_one (i := 6) (by kernel_rfl) ?_
    unfold wpOp
    go_simp
    left
    refine (mul_v E0 E3 E4 _ lE0 lE3 HE4.out).mono ?_
    rintro e v3 ⟨rfl, b⟩
    replace hB := hB.trans (b.mono hB.size)
    replace hS := hS.below b
    clear b
    refine ⟨hS, ?_⟩
    refine wpAnyZ_one (i := 7) (by kernel_rfl) ?_
    unfold wpOp
    go_simp
    left
    refine (small_v 1 E5 _ (by decide) HE5.out).mono ?_
    rintro e v4 ⟨rfl, b⟩
    replace hB := hB.trans (b.mono hB.size)
    replace hS := hS.below b
    clear b
    refine ⟨hS, ?_⟩
    refine wpAnyZ_one (i := 8) (by kernel_rfl) ?_
    unfold wpOp
    go_simp
    left
    refine (same_v E4 E5 true _ (decide_eq_true (by rw [HE4.out, HE3.out, HE5.out]; exact inv_mul _ hz'.out lE0))).mono ?_
    rintro e v5 ⟨rfl, b⟩
    replace hB := hB.trans (b.mono hB.size)
    replace hS := hS.below b
    clear b
    refine ⟨hS, ?_⟩
    refine wpAnyZ_takeL 9 rfl (by kernel_rfl) (by kernel_rfl) (by kernel_rfl) (by kernel_rfl) (by kernel_rfl) (fun _ _ _ h => h) (yieldsIf_pick rfl _ _ _ rfl false rfl _ rfl) hS ?_
    simp only [Act.put, List.setIfInBounds_toArray, List.set_cons_zero, List.set_cons_succ]
    refine wpAnyZ_one (i := 10) (by kernel_rfl) ?_
    unfold wpOp
    go_simp
    left
    refine wpAnyZ_done (by kernel_rfl) ?_ _
    go_upto_region 5 with fail
    replace hS := hS.drew
    replace hB := below_drew hB
    refine wp_region_Z (S := Facts [.blk (g6) 29 (El_cells E0), .blk (g7) 29 (El_cells E1), .blk (g8) 29 (El_cells E2), .blk (w.heap.size) 23 (Iv .u8 l0), .blk (w.heap.size + 1) 23 (Iv .u8 l1), .blk (w.heap.size + 1 + 1) 23 (Iv .u8 l2)]) 82 (by kernel_rfl) ?_
    refine wpAnyZ_takeL 0 rfl (by kernel_rfl) (by kernel_rfl) (by kernel_rfl) (by kernel_rfl) (by kernel_rfl) (fun _ _ _ h => h) (yieldsIf_move rfl _ rfl _ rfl) hS ?_
    simp only [Act.put, List.setIfInBounds_toArray, List.set_cons_zero, List.set_cons_succ]
    refine wpAnyZ_takeL 1 rfl (by kernel_rfl) (by kernel_rfl) (by kernel_rfl) (by kernel_rfl) (by kernel_rfl) (fun _ _ _ h => h) (yieldsIf_move rfl _ rfl _ rfl) hS ?_
    simp only [Act.put, List.setIfInBounds_toArray, List.set_cons_zero, List.set_cons_succ]
    refine wpAnyZ_takeL 2 rfl (by kernel_rfl) (by kernel_rfl) (by kernel_rfl) (by kernel_rfl) (by kernel_rfl) (fun _ _ _ h => h) (show YieldsIf _ _ _ _ (El E0) _ from yieldsIf_load rfl 29 _ rfl (g6) rfl 29 _ _ (.head _) Try.underlying29 rfl (info_El _)) hS ?_
    simp only [Act.put, List.setIfInBounds_toArray, List.set_cons_zero, List.set_cons_succ]
    refine wpAnyZ_takeL 3 rfl (by kernel_rfl) (by kernel_rfl) (by kernel_rfl) (by kernel_rfl) (by kernel_rfl) (fun _ _ _ h => h) (show YieldsIf _ _ _ _ (El E1) _ from yieldsIf_load rfl 29 _ rfl (g7) rfl 29 _ _ (.tail _ (.head _)) Try.underlying29 rfl (info_El _)) hS ?_
    simp only [Act.put, List.setIfInBounds_toArray, List.set_cons_zero, List.set_cons_succ]
    refine wpAnyZ_takeL 5 rfl (by kernel_rfl) (by kernel_rfl) (by kernel_rfl) (by kernel_rfl) (by kernel_rfl) (fun _ _ _ h => h) (show YieldsIf _ _ _ _ (El E1) _ from yieldsIf_load rfl 29 _ rfl (g7) rfl 29 _ _ (.tail _ (.head _)) Try.underlying29 rfl (info_El _)) hS ?_
    simp only [Act.put, List.setIfInBounds_toArray, List.set_cons_zero, List.set_cons_succ]
    refine wpAnyZ_takeL 6 rfl (by kernel_rfl) (by kernel_rfl) (by kernel_rfl) (by kernel_rfl) (by kernel_rfl) (fun _ _ _ h => h) (show YieldsIf _ _ _ _ (El E0) _ from yieldsIf_load rfl 29 _ rfl (g6) rfl 29 _ _ (.head _) Try.underlying29 rfl (info_El _)) hS ?_
    simp only [Act.put, List.setIfInBounds_toArray, List.set_cons_zero, List.set_cons_succ]
    refine wpAnyZ_one (i := 4) (by kernel_rfl) ?_
    unfold wpOp
    go_simp
    left
    refine (add_v E0 E1 E6 _ lE0 lE1 HE6.out).mono ?_
    rintro e v6 ⟨rfl, b⟩
    replace hB := hB.trans (b.mono hB.size)
    replace hS := hS.below b
    clear b
    refine ⟨hS, ?_⟩
    refine wpAnyZ_one (i := 7) (by kernel_rfl) ?_
    unfold wpOp
    go_simp
    left
    refine (add_v E1 E0 E7 _ lE1 lE0 HE7.out).mono ?_
    rintro e v7 ⟨rfl, b⟩
    replace hB := hB.trans (b.mono hB.size)
    replace hS := hS.below b
    clear b
    refine ⟨hS, ?_⟩
    refine wpAnyZ_one (i := 8) (by kernel_rfl) ?_
    unfold wpOp
    go_simp
    left
    refine (same_v E6 E7 true _ (decide_eq_true (by rw [HE6.out, HE7.out, Nat.add_comm]))).mono ?_
    rintro e v8 ⟨rfl, b⟩
    replace hB := hB.trans (b.mono hB.size)
    replace hS := hS.below b
    clear b
    refine ⟨hS, ?_⟩
    refine wpAnyZ_takeL 9 rfl (by kernel_rfl) (by kernel_rfl) (by kernel_rfl) (by kernel_rfl) (by kernel_rfl) (fun _ _ _ h => h) (yieldsIf_pick rfl _ _ _ rfl true rfl _ rfl) hS ?_
    simp only [Act.put, List.setIfInBounds_toArray, List.set_cons_zero, List.set_cons_succ]
    refine wpAnyZ_takeL 10 rfl (by kernel_rfl) (by kernel_rfl) (by kernel_rfl) (by kernel_rfl) (by kernel_rfl) (fun _ _ _ h => h) (yieldsIf_move rfl _ rfl _ rfl) hS ?_
    simp only [Act.put, List.setIfInBounds_toArray, List.set_cons_zero, List.set_cons_succ]
    refine wpAnyZ_takeL 11 rfl (by kernel_rfl) (by kernel_rfl) (by kernel_rfl) (by kernel_rfl) (by kernel_rfl) (fun _ _ _ h => h) (show YieldsIf _ _ _ _ (El E0) _ from yieldsIf_load rfl 29 _ rfl (g6) rfl 29 _ _ (.head _) Try.underlying29 rfl (info_El _)) hS ?_
    simp only [Act.put, List.setIfInBounds_toArray, List.set_cons_zero, List.set_cons_succ]
    refine wpAnyZ_takeL 12 rfl (by kernel_rfl) (by kernel_rfl) (by kernel_rfl) (by kernel_rfl) (by kernel_rfl) (fun _ _ _ h => h) (show YieldsIf _ _ _ _ (El E1) _ from yieldsIf_load rfl 29 _ rfl (g7) rfl 29 _ _ (.tail _ (.head _)) Try.underlying29 rfl (info_El _)) hS ?_
    simp only [Act.put, List.setIfInBounds_toArray, List.set_cons_zero, List.set_cons_succ]
    refine wpAnyZ_takeL 14 rfl (by kernel_rfl) (by kernel_rfl) (by kernel_rfl) (by kernel_rfl) (by kernel_rfl) (fun _ _ _ h => h) (show YieldsIf _ _ _ _ (El E1) _ from yieldsIf_load rfl 29 _ rfl (g7) rfl 29 _ _ (.tail _ (.head _)) Try.underlying29 rfl (info_El _)) hS ?_
    simp only [Act.put, List.setIfInBounds_toArray, List.set_cons_zero, List.set_cons_succ]
    refine wpAnyZ_takeL 15 rfl (by kernel_rfl) (by kernel_rfl) (by kernel_rfl) (by kernel_rfl) (by kernel_rfl) (fun _ _ _ h => h) (show YieldsIf _ _ _ _ (El E0) _ from yieldsIf_load rfl 29 _ rfl (g6) rfl 29 _ _ (.head _) Try.underlying29 rfl (info_El _)) hS ?_
    simp only [Act.put, List.setIfInBounds_toArray, List.set_cons_zero, List.set_cons_succ]
    refine wpAnyZ_one (i := 13) (by kernel_rfl) ?_
    unfold wpOp
    go_simp
    left
    refine (mul_v E0 E1 E8 _ lE0 lE1 HE8.out).mono ?_
    rintro e v9 ⟨rfl, b⟩
    replace hB := hB.trans (b.mono hB.size)
    replace hS := hS.below b
    clear b
    refine ⟨hS, ?_⟩
    refine wpAnyZ_one (i := 16) (by kernel_rfl) ?_
    unfold wpOp
    go_simp
    left
    refine (mul_v E1 E0 E9 _ lE1 lE0 HE9.out).mono ?_
    rintro e v10 ⟨rfl, b⟩
    replace hB := hB.trans (b.mono hB.size)
    replace hS := hS.below b
    clear b
    refine ⟨hS, ?_⟩
    refine wpAnyZ_one (i := 17) (by kernel_rfl) ?_
    unfold wpOp
    go_simp
    left
    refine (same_v E8 E9 true _ (decide_eq_true (by rw [HE8.out, HE9.out, Nat.mul_comm]))).mono ?_
    rintro e v11 ⟨rfl, b⟩
    replace hB := hB.trans (b.mono hB.size)
    replace hS := hS.below b
    clear b
    refine ⟨hS, ?_⟩
    refine wpAnyZ_takeL 18 rfl (by kernel_rfl) (by kernel_rfl) (by kernel_rfl) (by kernel_rfl) (by kernel_rfl) (fun _ _ _ h => h) (yieldsIf_pick rfl _ _ _ rfl true rfl _ rfl) hS ?_
    simp only [Act.put, List.setIfInBounds_toArray, List.set_cons_zero, List.set_cons_succ]
    refine wpAnyZ_takeL 19 rfl (by kernel_rfl) (by kernel_rfl) (by kernel_rfl) (by kernel_rfl) (by kernel_rfl) (fun _ _ _ h => h) (yieldsIf_move rfl _ rfl _ rfl) hS ?_
    simp only [Act.put, List.setIfInBounds_toArray, List.set_cons_zero, List.set_cons_succ]
    refine wpAnyZ_takeL 20 rfl (by kernel_rfl) (by kernel_rfl) (by kernel_rfl) (by kernel_rfl) (by kernel_rfl) (fun _ _ _ h => h) (show YieldsIf _ _ _ _ (El E0) _ from yieldsIf_load rfl 29 _ rfl (g6) rfl 29 _ _ (.head _) Try.underlying29 rfl (info_El _)) hS ?_
    simp only [Act.put, List.setIfInBounds_toArray, List.set_cons_zero, List.set_cons_succ]
    refine wpAnyZ_takeL 21 rfl (by kernel_rfl) (by kernel_rfl) (by kernel_rfl) (by kernel_rfl) (by kernel_rfl) (fun _ _ _ h => h) (show YieldsIf _ _ _ _ (El E1) _ from yieldsIf_load rfl 29 _ rfl (g7) rfl 29 _ _ (.tail _ (.head _)) Try.underlying29 rfl (info_El _)) hS ?_
    simp only [Act.put, List.setIfInBounds_toArray, List.set_cons_zero, List.set_cons_succ]
    refine wpAnyZ_takeL 23 rfl (by kernel_rfl) (by kernel_rfl) (by kernel_rfl) (by kernel_rfl) (by kernel_rfl) (fun _ _ _ h => h) (show YieldsIf _ _ _ _ (El E2) _ from yieldsIf_load rfl 29 _ rfl (g8) rfl 29 _ _ (.tail _ (.tail _ (.head _))) Try.underlying29 rfl (info_El _)) hS ?_
    simp only [Act.put, List.setIfInBounds_toArray, List.set_cons_zero, List.set_cons_succ]
    refine wpAnyZ_takeL 25 rfl (by kernel_rfl) (by kernel_rfl) (by kernel_rfl) (by kernel_rfl) (by kernel_rfl) (fun _ _ _ h => h) (show YieldsIf _ _ _ _ (El E0) _ from yieldsIf_load rfl 29 _ rfl (g6) rfl 29 _ _ (.head _) Try.underlying29 rfl (info_El _)) hS ?_
    simp only [Act.put, List.setIfInBounds_toArray, List.set_cons_zero, List.set_cons_succ]
    refine wpAnyZ_takeL 26 rfl (by kernel_rfl) (by kernel_rfl) (by kernel_rfl) (by kernel_rfl) (by kernel_rfl) (fun _ _ _ h => h) (show YieldsIf _ _ _ _ (El E1) _ from yieldsIf_load rfl 29 _ rfl (g7) rfl 29 _ _ (.tail _ (.head _)) Try.underlying29 rfl (info_El _)) hS ?_
    simp only [Act.put, List.setIfInBounds_toArray, List.set_cons_zero, List.set_cons_succ]
    refine wpAnyZ_takeL 27 rfl (by kernel_rfl) (by kernel_rfl) (by kernel_rfl) (by kernel_rfl) (by kernel_rfl) (fun _ _ _ h => h) (show YieldsIf _ _ _ _ (El E2) _ from yieldsIf_load rfl 29 _ rfl (g8) rfl 29 _ _ (.tail _ (.tail _ (.head _))) Try.underlying29 rfl (info_El _)) hS ?_
    simp only [Act.put, List.setIfInBounds_toArray, List.set_cons_zero, List.set_cons_succ]
    refine wpAnyZ_one (i := 22) (by kernel_rfl) ?_
    unfold wpOp
    go_simp
    left
    refine (add_v E0 E1 E6 _ lE0 lE1 HE6.out).mono ?_
    rintro e v12 ⟨rfl, b⟩
    replace hB := hB.trans (b.mono hB.size)
    replace hS := hS.below b
    clear b
    refine ⟨hS, ?_⟩
    refine wpAnyZ_one (i := 24) (by kernel_rfl) ?_
    unfold wpOp
    go_simp
    left
    refine (add_v E6 E2 E10 _ lE6 lE2 HE10.out).mono ?_
    rintro e v13 ⟨rfl, b⟩
    replace hB := hB.trans (b.mono hB.size)
    replace hS := hS.below b
    clear b
    refine ⟨hS, ?_⟩
    refine wpAnyZ_one (i := 28) (by kernel_rfl) ?_
    unfold wpOp
    go_simp
    left
    refine (add_v E1 E2 E11 _ lE1 lE2 HE11.out).mono ?_
    rintro e v14 ⟨rfl, b⟩
    replace hB := hB.trans (b.mono hB.size)
    replace hS := hS.below b
    clear b
    refine ⟨hS, ?_⟩
    refine wpAnyZ_one (i := 29) (by kernel_rfl) ?_
    unfold wpOp
    go_simp
    left
    refine (add_v E0 E11 E12 _ lE0 lE11 HE12.out).mono ?_
    rintro e v15 ⟨rfl, b⟩
    replace hB := hB.trans (b.mono hB.size)
    replace hS := hS.below b
    clear b
    refine ⟨hS, ?_⟩
    refine wpAnyZ_one (i := 30) (by kernel_rfl) ?_
    unfold wpOp
    go_simp
    left
    refine (same_v E10 E12 true _ (decide_eq_true (by simp only [HE10.out, HE6.out, HE12.out, HE11.out, Nat.mod_add_mod, Nat.add_mod_mod, Nat.add_assoc]))).mono ?_
    rintro e v16 ⟨rfl, b⟩
    replace hB := hB.trans (b.mono hB.size)
    replace hS := hS.below b
    clear b
    refine ⟨hS, ?_⟩
    refine wpAnyZ_takeL 31 rfl (by kernel_rfl) (by kernel_rfl) (by kernel_rfl) (by kernel_rfl) (by kernel_rfl) (fun _ _ _ h => h) (yieldsIf_pick rfl _ _ _ rfl true rfl _ rfl) hS ?_
    simp only [Act.put, List.setIfInBounds_toArray, List.set_cons_zero, List.set_cons_succ]
    refine wpAnyZ_takeL 32 rfl (by kernel_rfl) (by kernel_rfl) (by kernel_rfl) (by kernel_rfl) (by kernel_rfl) (fun _ _ _ h => h) (yieldsIf_move rfl _ rfl _ rfl) hS ?_
    simp only [Act.put, List.setIfInBounds_toArray, List.set_cons_zero, List.set_cons_succ]
    refine wpAnyZ_takeL 33 rfl (by kernel_rfl) (by kernel_rfl) (by kernel_rfl) (by kernel_rfl) (by kernel_rfl) (fun _ _ _ h => h) (show YieldsIf _ _ _ _ (El E0) _ from yieldsIf_load rfl 29 _ rfl (g6) rfl 29 _ _ (.head _) Try.underlying29 rfl (info_El _)) hS ?_
    simp only [Act.put, List.setIfInBounds_toArray, List.set_cons_zero, List.set_cons_succ]
    refine wpAnyZ_takeL 34 rfl (by kernel_rfl) (by kernel_rfl) (by kernel_rfl) (by kernel_rfl) (by kernel_rfl) (fun _ _ _ h => h) (show YieldsIf _ _ _ _ (El E1) _ from yieldsIf_load rfl 29 _ rfl (g7) rfl 29 _ _ (.tail _ (.head _)) Try.underlying29 rfl (info_El _)) hS ?_
    simp only [Act.put, List.setIfInBounds_toArray, List.set_cons_zero, List.set_cons_succ]
    refine wpAnyZ_takeL 36 rfl (by kernel_rfl) (by kernel_rfl) (by kernel_rfl) (by kernel_rfl) (by kernel_rfl) (fun _ _ _ h => h) (show YieldsIf _ _ _ _ (El E2) _ from yieldsIf_load rfl 29 _ rfl (g8) rfl 29 _ _ (.tail _ (.tail _ (.head _))) Try.underlying29 rfl (info_El _)) hS ?_
    simp only [Act.put, List.setIfInBounds_toArray, List.set_cons_zero, List.set_cons_succ]
    refine wpAnyZ_takeL 38 rfl (by kernel_rfl) (by kernel_rfl) (by kernel_rfl) (by kernel_rfl) (by kernel_rfl) (fun _ _ _ h => h) (show YieldsIf _ _ _ _ (El E0) _ from yieldsIf_load rfl 29 _ rfl (g6) rfl 29 _ _ (.head _) Try.underlying29 rfl (info_El _)) hS ?_
    simp only [Act.put, List.setIfInBounds_toArray, List.set_cons_zero, List.set_cons_succ]
    refine wpAnyZ_takeL 39 rfl (by kernel_rfl) (by kernel_rfl) (by kernel_rfl) (by kernel_rfl) (by kernel_rfl) (fun _ _ _ h => h) (show YieldsIf _ _ _ _ (El E1) _ from yieldsIf_load rfl 29 _ rfl (g7) rfl 29 _ _ (.tail _ (.head _)) Try.underlying29 rfl (info_El _)) hS ?_
    simp only [Act.put, List.setIfInBounds_toArray, List.set_cons_zero, List.set_cons_succ]
    refine wpAnyZ_takeL 40 rfl (by kernel_rfl) (by kernel_rfl) (by kernel_rfl) (by kernel_rfl) (by kernel_rfl) (fun _ _ _ h => h) (show YieldsIf _ _ _ _ (El E2) _ from yieldsIf_load rfl 29 _ rfl (g8) rfl 29 _ _ (.tail _ (.tail _ (.head _))) Try.underlying29 rfl (info_El _)) hS ?_
    simp only [Act.put, List.setIfInBounds_toArray, List.set_cons_zero, List.set_cons_succ]
    refine wpAnyZ_one (i := 35) (by kernel_rfl) ?_
    unfold wpOp
    go_simp
    left
    refine (mul_v E0 E1 E8 _ lE0 lE1 HE8.out).mono ?_
    rintro e v17 ⟨rfl, b⟩
    replace hB := hB.trans (b.mono hB.size)
    replace hS := hS.below b
    clear b
    refine ⟨hS, ?_⟩
    refine wpAnyZ_one (i := 37) (by kernel_rfl) ?_
    unfold wpOp
    go_simp
    left
    refine (mul_v E8 E2 E13 _ lE8 lE2 HE13.out).mono ?_
    rintro e v18 ⟨rfl, b⟩
    replace hB := hB.trans (b.mono hB.size)
    replace hS := hS.below b
    clear b
    refine ⟨hS, ?_⟩
    refine wpAnyZ_one (i := 41) (by kernel_rfl) ?_
    unfold wpOp
    go_simp
    left
    refine (mul_v E1 E2 E14 _ lE1 lE2 HE14.out).mono ?_
    rintro e v19 ⟨rfl, b⟩
    replace hB := hB.trans (b.mono hB.size)
    replace hS := hS.below b
    clear b
    refine ⟨hS, ?_⟩
    refine wpAnyZ_one (i := 42) (by kernel_rfl) ?_
    unfold wpOp
    go_simp
    left
    refine (mul_v E0 E14 E15 _ lE0 lE14 HE15.out).mono ?_
    rintro e v20 ⟨rfl, b⟩
    replace hB := hB.trans (b.mono hB.size)
    replace hS := hS.below b
    clear b
    refine ⟨hS, ?_⟩
    refine wpAnyZ_one (i := 43) (by kernel_rfl) ?_
    unfold wpOp
    go_simp
    left
    refine (same_v E13 E15 true _ (decide_eq_true (by simp only [HE13.out, HE8.out, HE15.out, HE14.out, Nat.mod_mul_mod, Nat.mul_mod_mod, Nat.mul_assoc]))).mono ?_
    rintro e v21 ⟨rfl, b⟩
    replace hB := hB.trans (b.mono hB.size)
    replace hS := hS.below b
    clear b
    refine ⟨hS, ?_⟩
    refine wpAnyZ_takeL 44 rfl (by kernel_rfl) (by kernel_rfl) (by kernel_rfl) (by kernel_rfl) (by kernel_rfl) (fun _ _ _ h => h) (yieldsIf_pick rfl _ _ _ rfl true rfl _ rfl) hS ?_
    simp only [Act.put, List.setIfInBounds_toArray, List.set_cons_zero, List.set_cons_succ]
    refine wpAnyZ_takeL 45 rfl (by kernel_rfl) (by kernel_rfl) (by kernel_rfl) (by kernel_rfl) (by kernel_rfl) (fun _ _ _ h => h) (yieldsIf_move rfl _ rfl _ rfl) hS ?_
    simp only [Act.put, List.setIfInBounds_toArray, List.set_cons_zero, List.set_cons_succ]
    refine wpAnyZ_takeL 46 rfl (by kernel_rfl) (by kernel_rfl) (by kernel_rfl) (by kernel_rfl) (by kernel_rfl) (fun _ _ _ h => h) (show YieldsIf _ _ _ _ (El E0) _ from yieldsIf_load rfl 29 _ rfl (g6) rfl 29 _ _ (.head _) Try.underlying29 rfl (info_El _)) hS ?_
    simp only [Act.put, List.setIfInBounds_toArray, List.set_cons_zero, List.set_cons_succ]
    refine wpAnyZ_takeL 47 rfl (by kernel_rfl) (by kernel_rfl) (by kernel_rfl) (by kernel_rfl) (by kernel_rfl) (fun _ _ _ h => h) (show YieldsIf _ _ _ _ (El E1) _ from yieldsIf_load rfl 29 _ rfl (g7) rfl 29 _ _ (.tail _ (.head _)) Try.underlying29 rfl (info_El _)) hS ?_
    simp only [Act.put, List.setIfInBounds_toArray, List.set_cons_zero, List.set_cons_succ]
    refine wpAnyZ_takeL 49 rfl (by kernel_rfl) (by kernel_rfl) (by kernel_rfl) (by kernel_rfl) (by kernel_rfl) (fun _ _ _ h => h) (show YieldsIf _ _ _ _ (El E2) _ from yieldsIf_load rfl 29 _ rfl (g8) rfl 29 _ _ (.tail _ (.tail _ (.head _))) Try.underlying29 rfl (info_El _)) hS ?_
    simp only [Act.put, List.setIfInBounds_toArray, List.set_cons_zero, List.set_cons_succ]
    refine wpAnyZ_takeL 51 rfl (by kernel_rfl) (by kernel_rfl) (by kernel_rfl) (by kernel_rfl) (by kernel_rfl) (fun _ _ _ h => h) (show YieldsIf _ _ _ _ (El E0) _ from yieldsIf_load rfl 29 _ rfl (g6) rfl 29 _ _ (.head _) Try.underlying29 rfl (info_El _)) hS ?_
    simp only [Act.put, List.setIfInBounds_toArray, List.set_cons_zero, List.set_cons_succ]
    refine wpAnyZ_takeL 52 rfl (by kernel_rfl) (by kernel_rfl) (by kernel_rfl) (by kernel_rfl) (by kernel_rfl) (fun _ _ _ h => h) (show YieldsIf _ _ _ _ (El E2) _ from yieldsIf_load rfl 29 _ rfl (g8) rfl 29 _ _ (.tail _ (.tail _ (.head _))) Try.underlying29 rfl (info_El _)) hS ?_
    simp only [Act.put, List.setIfInBounds_toArray, List.set_cons_zero, List.set_cons_succ]
    refine wpAnyZ_takeL 54 rfl (by kernel_rfl) (by kernel_rfl) (by kernel_rfl) (by kernel_rfl) (by kernel_rfl) (fun _ _ _ h => h) (show YieldsIf _ _ _ _ (El E1) _ from yieldsIf_load rfl 29 _ rfl (g7) rfl 29 _ _ (.tail _ (.head _)) Try.underlying29 rfl (info_El _)) hS ?_
    simp only [Act.put, List.setIfInBounds_toArray, List.set_cons_zero, List.set_cons_succ]
    refine wpAnyZ_takeL 55 rfl (by kernel_rfl) (by kernel_rfl) (by kernel_rfl) (by kernel_rfl) (by kernel_rfl) (fun _ _ _ h => h) (show YieldsIf _ _ _ _ (El E2) _ from yieldsIf_load rfl 29 _ rfl (g8) rfl 29 _ _ (.tail _ (.tail _ (.head _))) Try.underlying29 rfl (info_El _)) hS ?_
    simp only [Act.put, List.setIfInBounds_toArray, List.set_cons_zero, List.set_cons_succ]
    refine wpAnyZ_one (i := 48) (by kernel_rfl) ?_
    unfold wpOp
    go_simp
    left
    refine (add_v E0 E1 E6 _ lE0 lE1 HE6.out).mono ?_
    rintro e v22 ⟨rfl, b⟩
    replace hB := hB.trans (b.mono hB.size)
    replace hS := hS.below b
    clear b
    refine ⟨hS, ?_⟩
    refine wpAnyZ_one (i := 50) (by kernel_rfl) ?_
    unfold wpOp
    go_simp
    left
    refine (mul_v E6 E2 E16 _ lE6 lE2 HE16.out).mono ?_
    rintro e v23 ⟨rfl, b⟩
    replace hB := hB.trans (b.mono hB.size)
    replace hS := hS.below b
    clear b
    refine ⟨hS, ?_⟩
    refine wpAnyZ_one (i := 53) (by kernel_rfl) ?_
    unfold wpOp
    go_simp
    left
    refine (mul_v E0 E2 E17 _ lE0 lE2 HE17.out).mono ?_
    rintro e v24 ⟨rfl, b⟩
    replace hB := hB.trans (b.mono hB.size)
    replace hS := hS.below b
    clear b
    refine ⟨hS, ?_⟩
    refine wpAnyZ_one (i := 56) (by kernel_rfl) ?_
    unfold wpOp
    go_simp
    left
    refine (mul_v E1 E2 E14 _ lE1 lE2 HE14.out).mono ?_
    rintro e v25 ⟨rfl, b⟩
    replace hB := hB.trans (b.mono hB.size)
    replace hS := hS.below b
    clear b
    refine ⟨hS, ?_⟩
    refine wpAnyZ_one (i := 57) (by kernel_rfl) ?_
    unfold wpOp
    go_simp
    left
    refine (add_v E17 E14 E18 _ lE17 lE14 HE18.out).mono ?_
    rintro e v26 ⟨rfl, b⟩
    replace hB := hB.trans (b.mono hB.size)
    replace hS := hS.below b
    clear b
    refine ⟨hS, ?_⟩
    refine wpAnyZ_one (i := 58) (by kernel_rfl) ?_
    unfold wpOp
    go_simp
    left
    refine (same_v E16 E18 true _ (decide_eq_true (by simp only [HE16.out, HE6.out, HE18.out, HE17.out, HE14.out, Nat.mod_mul_mod, Nat.mul_mod_mod, Nat.mod_add_mod, Nat.add_mod_mod, Nat.add_mul]))).mono ?_
    rintro e v27 ⟨rfl, b⟩
    replace hB := hB.trans (b.mono hB.size)
    replace hS := hS.below b
    clear b
    refine ⟨hS, ?_⟩
    refine wpAnyZ_takeL 59 rfl (by kernel_rfl) (by kernel_rfl) (by kernel_rfl) (by kernel_rfl) (by kernel_rfl) (fun _ _ _ h => h) (yieldsIf_pick rfl _ _ _ rfl true rfl _ rfl) hS ?_
    simp only [Act.put, List.setIfInBounds_toArray, List.set_cons_zero, List.set_cons_succ]
    refine wpAnyZ_takeL 60 rfl (by kernel_rfl) (by kernel_rfl) (by kernel_rfl) (by kernel_rfl) (by kernel_rfl) (fun _ _ _ h => h) (yieldsIf_move rfl _ rfl _ rfl) hS ?_
    simp only [Act.put, List.setIfInBounds_toArray, List.set_cons_zero, List.set_cons_succ]
    refine wpAnyZ_takeL 61 rfl (by kernel_rfl) (by kernel_rfl) (by kernel_rfl) (by kernel_rfl) (by kernel_rfl) (fun _ _ _ h => h) (show YieldsIf _ _ _ _ (El E0) _ from yieldsIf_load rfl 29 _ rfl (g6) rfl 29 _ _ (.head _) Try.underlying29 rfl (info_El _)) hS ?_
    simp only [Act.put, List.setIfInBounds_toArray, List.set_cons_zero, List.set_cons_succ]
    refine wpAnyZ_takeL 62 rfl (by kernel_rfl) (by kernel_rfl) (by kernel_rfl) (by kernel_rfl) (by kernel_rfl) (fun _ _ _ h => h) (show YieldsIf _ _ _ _ (El E0) _ from yieldsIf_load rfl 29 _ rfl (g6) rfl 29 _ _ (.head _) Try.underlying29 rfl (info_El _)) hS ?_
    simp only [Act.put, List.setIfInBounds_toArray, List.set_cons_zero, List.set_cons_succ]
    refine wpAnyZ_one (i := 63) (by kernel_rfl) ?_
    unfold wpOp
    go_simp
    left
    refine (sub_v E0 E0 E19 _ lE0 lE0 HE19.out).mono ?_
    rintro e v28 ⟨rfl, b⟩
    replace hB := hB.trans (b.mono hB.size)
    replace hS := hS.below b
    clear b
    refine ⟨hS, ?_⟩
    refine wpAnyZ_one (i := 64) (by kernel_rfl) ?_
    unfold wpOp
    go_simp
    left
    refine (zero_v E19 true _ (decide_eq_true (by rw [HE19.out]; exact sub_self_mod _ _ lE0))).mono ?_
    rintro e v29 ⟨rfl, b⟩
    replace hB := hB.trans (b.mono hB.size)
    replace hS := hS.below b
    clear b
    refine ⟨hS, ?_⟩
    refine wpAnyZ_takeL 65 rfl (by kernel_rfl) (by kernel_rfl) (by kernel_rfl) (by kernel_rfl) (by kernel_rfl) (fun _ _ _ h => h) (yieldsIf_pick rfl _ _ _ rfl true rfl _ rfl) hS ?_
    simp only [Act.put, List.setIfInBounds_toArray, List.set_cons_zero, List.set_cons_succ]
    refine wpAnyZ_takeL 66 rfl (by kernel_rfl) (by kernel_rfl) (by kernel_rfl) (by kernel_rfl) (by kernel_rfl) (fun _ _ _ h => h) (yieldsIf_move rfl _ rfl _ rfl) hS ?_
    simp only [Act.put, List.setIfInBounds_toArray, List.set_cons_zero, List.set_cons_succ]
    refine wpAnyZ_takeL 67 rfl (by kernel_rfl) (by kernel_rfl) (by kernel_rfl) (by kernel_rfl) (by kernel_rfl) (fun _ _ _ h => h) (show YieldsIf _ _ _ _ (El E0) _ from yieldsIf_load rfl 29 _ rfl (g6) rfl 29 _ _ (.head _) Try.underlying29 rfl (info_El _)) hS ?_
    simp only [Act.put, List.setIfInBounds_toArray, List.set_cons_zero, List.set_cons_succ]
    refine wpAnyZ_takeL 68 rfl (by kernel_rfl) (by kernel_rfl) (by kernel_rfl) (by kernel_rfl) (by kernel_rfl) (fun _ _ _ h => h) (show YieldsIf _ _ _ _ (El E1) _ from yieldsIf_load rfl 29 _ rfl (g7) rfl 29 _ _ (.tail _ (.head _)) Try.underlying29 rfl (info_El _)) hS ?_
    simp only [Act.put, List.setIfInBounds_toArray, List.set_cons_zero, List.set_cons_succ]
    refine wpAnyZ_takeL 70 rfl (by kernel_rfl) (by kernel_rfl) (by kernel_rfl) (by kernel_rfl) (by kernel_rfl) (fun _ _ _ h => h) (show YieldsIf _ _ _ _ (El E1) _ from yieldsIf_load rfl 29 _ rfl (g7) rfl 29 _ _ (.tail _ (.head _)) Try.underlying29 rfl (info_El _)) hS ?_
    simp only [Act.put, List.setIfInBounds_toArray, List.set_cons_zero, List.set_cons_succ]
    refine wpAnyZ_takeL 72 rfl (by kernel_rfl) (by kernel_rfl) (by kernel_rfl) (by kernel_rfl) (by kernel_rfl) (fun _ _ _ h => h) (show YieldsIf _ _ _ _ (El E0) _ from yieldsIf_load rfl 29 _ rfl (g6) rfl 29 _ _ (.head _) Try.underlying29 rfl (info_El _)) hS ?_
    simp only [Act.put, List.setIfInBounds_toArray, List.set_cons_zero, List.set_cons_succ]
    refine wpAnyZ_one (i := 69) (by kernel_rfl) ?_
    unfold wpOp
    go_simp
    left
    refine (sub_v E0 E1 E20 _ lE0 lE1 HE20.out).mono ?_
    rintro e v30 ⟨rfl, b⟩
    replace hB := hB.trans (b.mono hB.size)
    replace hS := hS.below b
    clear b
    refine ⟨hS, ?_⟩
    refine wpAnyZ_one (i := 71) (by kernel_rfl) ?_
    unfold wpOp
    go_simp
    left
    refine (add_v E20 E1 E21 _ lE20 lE1 HE21.out).mono ?_
    rintro e v31 ⟨rfl, b⟩
    replace hB := hB.trans (b.mono hB.size)
    replace hS := hS.below b
    clear b
    refine ⟨hS, ?_⟩
    refine wpAnyZ_one (i := 73) (by kernel_rfl) ?_
    unfold wpOp
    go_simp
    left
    refine (same_v E21 E0 true _ (decide_eq_true (by simp only [HE21.out, HE20.out, Nat.mod_add_mod]; exact sub_add_mod _ _ _ lE0 lE1))).mono ?_
    rintro e v32 ⟨rfl, b⟩
    replace hB := hB.trans (b.mono hB.size)
    replace hS := hS.below b
    clear b
    refine ⟨hS, ?_⟩
    refine wpAnyZ_takeL 74 rfl (by kernel_rfl) (by kernel_rfl) (by kernel_rfl) (by kernel_rfl) (by kernel_rfl) (fun _ _ _ h => h) (yieldsIf_pick rfl _ _ _ rfl true rfl _ rfl) hS ?_
    simp only [Act.put, List.setIfInBounds_toArray, List.set_cons_zero, List.set_cons_succ]
    refine wpAnyZ_takeL 75 rfl (by kernel_rfl) (by kernel_rfl) (by kernel_rfl) (by kernel_rfl) (by kernel_rfl) (fun _ _ _ h => h) (yieldsIf_move rfl _ rfl _ rfl) hS ?_
    simp only [Act.put, List.setIfInBounds_toArray, List.set_cons_zero, List.set_cons_succ]
    refine wpAnyZ_takeL 76 rfl (by kernel_rfl) (by kernel_rfl) (by kernel_rfl) (by kernel_rfl) (by kernel_rfl) (fun _ _ _ h => h) (show YieldsIf _ _ _ _ (El E0) _ from yieldsIf_load rfl 29 _ rfl (g6) rfl 29 _ _ (.head _) Try.underlying29 rfl (info_El _)) hS ?_
    simp only [Act.put, List.setIfInBounds_toArray, List.set_cons_zero, List.set_cons_succ]
    refine wpAnyZ_takeL 78 rfl (by kernel_rfl) (by kernel_rfl) (by kernel_rfl) (by kernel_rfl) (by kernel_rfl) (fun _ _ _ h => h) (show YieldsIf _ _ _ _ (El E0) _ from yieldsIf_load rfl 29 _ rfl (g6) rfl 29 _ _ (.head _) Try.underlying29 rfl (info_El _)) hS ?_
    simp only [Act.put, List.setIfInBounds_toArray, List.set_cons_zero, List.set_cons_succ]
    refine wpAnyZ_one (i := 77) (by kernel_rfl) ?_
    unfold wpOp
    go_simp
    left
    refine (neg_v E0 E22 _ lE0 HE22.out).mono ?_
    rintro e v33 ⟨rfl, b⟩
    replace hB := hB.trans (b.mono hB.size)
    replace hS := hS.below b
    clear b
    refine ⟨hS, ?_⟩
    refine wpAnyZ_one (i := 79) (by kernel_rfl) ?_
    unfold wpOp
    go_simp
    left
    refine (add_v E22 E0 E23 _ lE22 lE0 HE23.out).mono ?_
    rintro e v34 ⟨rfl, b⟩
    replace hB := hB.trans (b.mono hB.size)
    replace hS := hS.below b
    clear b
    refine ⟨hS, ?_⟩
    refine wpAnyZ_one (i := 80) (by kernel_rfl) ?_
    unfold wpOp
    go_simp
    left
    refine (zero_v E23 true _ (decide_eq_true (by simp only [HE23.out, HE22.out, Nat.mod_add_mod]; exact neg_add_mod _ _ lE0))).mono ?_
    rintro e v35 ⟨rfl, b⟩
    replace hB := hB.trans (b.mono hB.size)
    replace hS := hS.below b
    clear b
    refine ⟨hS, ?_⟩
    refine wpAnyZ_takeL 81 rfl (by kernel_rfl) (by kernel_rfl) (by kernel_rfl) (by kernel_rfl) (by kernel_rfl) (fun _ _ _ h => h) (yieldsIf_pick rfl _ _ _ rfl true rfl _ rfl) hS ?_
    simp only [Act.put, List.setIfInBounds_toArray, List.set_cons_zero, List.set_cons_succ]
    refine wpAnyZ_one (i := 82) (by kernel_rfl) ?_
    unfold wpOp
    go_simp
    left
    refine wpAnyZ_done (by kernel_rfl) ?_ _
    go_wp2
    go_ret
    exact ⟨rfl, hB⟩

theorem laws_any (l0 l1 l2 : List Int) (f0 f1 f2 : Nat → Nat) (hl0 : Bytes32 l0 f0) (hl1 : Bytes32 l1 f1) (hl2 : Bytes32 l2 f2) (w : World) :
    Calls Try.prog 7 #[Key l0, Key l1, Key l2] w fun e w' => e = .returned (.bool true) ∧ Below w.heap.size w w' := by
  by_cases hz : leTo f0 32 % 57896044618658097711785492504343953926634992332820282019728792003956564819968 % pp = 0
  · exact laws_zero l0 l1 l2 f0 f1 f2 hl0 hl1 hl2 hz w
  · exact laws_some l0 l1 l2 f0 f1 f2 hl0 hl1 hl2 hz w
end Go.Proofs.Ytknmmjnkafmoaaa
