/- The contract of ladder.step (printed by lawstep.py). -/
import Derived.Test.YtgdhlafggdaipaaJa
namespace Go.Proofs.Ytgdhlafggdaipaa
open Go.RowKit

set_option maxHeartbeats 4000000 in
set_option maxRecDepth 100000 in
theorem rstep_any (X PA PB QA QB : Nat) (lX : X < pp) (lPA : PA < pp) (lPB : PB < pp) (lQA : QA < pp) (lQB : QB < pp) (w : World) :
    Calls Try.prog 28 #[El X, RV PA PB, RV QA QB] w fun e w' => e = .returned (.tuple #[RV (lx2 PA PB) (lz2 PA PB), RV (lx3 PA PB QA QB) (lz3 X PA PB QA QB)]) ∧ Below w.heap.size w w' := by
  obtain ⟨E0, hE0⟩ : ∃ r, r = (PA + PB) % pp := ⟨_, rfl⟩
  have lE0 : E0 < pp := hE0 ▸ Nat.mod_lt _ pp_pos
  have HE0 := Lib.hid hE0
  clear hE0
  obtain ⟨E1, hE1⟩ : ∃ r, r = (PA + (pp - PB)) % pp := ⟨_, rfl⟩
  have lE1 : E1 < pp := hE1 ▸ Nat.mod_lt _ pp_pos
  have HE1 := Lib.hid hE1
  clear hE1
  obtain ⟨E2, hE2⟩ : ∃ r, r = (QA + QB) % pp := ⟨_, rfl⟩
  have lE2 : E2 < pp := hE2 ▸ Nat.mod_lt _ pp_pos
  have HE2 := Lib.hid hE2
  clear hE2
  obtain ⟨E3, hE3⟩ : ∃ r, r = (QA + (pp - QB)) % pp := ⟨_, rfl⟩
  have lE3 : E3 < pp := hE3 ▸ Nat.mod_lt _ pp_pos
  have HE3 := Lib.hid hE3
  clear hE3
  obtain ⟨E4, hE4⟩ : ∃ r, r = E0 * E0 % pp := ⟨_, rfl⟩
  have lE4 : E4 < pp := hE4 ▸ Nat.mod_lt _ pp_pos
  have HE4 := Lib.hid hE4
  clear hE4
  obtain ⟨E5, hE5⟩ : ∃ r, r = E1 * E1 % pp := ⟨_, rfl⟩
  have lE5 : E5 < pp := hE5 ▸ Nat.mod_lt _ pp_pos
  have HE5 := Lib.hid hE5
  clear hE5
  obtain ⟨E6, hE6⟩ : ∃ r, r = (E4 + (pp - E5)) % pp := ⟨_, rfl⟩
  have lE6 : E6 < pp := hE6 ▸ Nat.mod_lt _ pp_pos
  have HE6 := Lib.hid hE6
  clear hE6
  obtain ⟨E7, hE7⟩ : ∃ r, r = E3 * E0 % pp := ⟨_, rfl⟩
  have lE7 : E7 < pp := hE7 ▸ Nat.mod_lt _ pp_pos
  have HE7 := Lib.hid hE7
  clear hE7
  obtain ⟨E8, hE8⟩ : ∃ r, r = E2 * E1 % pp := ⟨_, rfl⟩
  have lE8 : E8 < pp := hE8 ▸ Nat.mod_lt _ pp_pos
  have HE8 := Lib.hid hE8
  clear hE8
  obtain ⟨E9, hE9⟩ : ∃ r, r = (E7 + E8) % pp := ⟨_, rfl⟩
  have lE9 : E9 < pp := hE9 ▸ Nat.mod_lt _ pp_pos
  have HE9 := Lib.hid hE9
  clear hE9
  obtain ⟨E10, hE10⟩ : ∃ r, r = (E7 + (pp - E8)) % pp := ⟨_, rfl⟩
  have lE10 : E10 < pp := hE10 ▸ Nat.mod_lt _ pp_pos
  have HE10 := Lib.hid hE10
  clear hE10
  obtain ⟨E11, hE11⟩ : ∃ r, r = E4 * E5 % pp := ⟨_, rfl⟩
  have lE11 : E11 < pp := hE11 ▸ Nat.mod_lt _ pp_pos
  have HE11 := Lib.hid hE11
  clear hE11
  obtain ⟨E12, hE12⟩ : ∃ r, r = 121665 := ⟨_, rfl⟩
  have lE12 : E12 < pp := hE12 ▸ by rw [pp_eq]; decide
  have HE12 := Lib.hid hE12
  clear hE12
  obtain ⟨E13, hE13⟩ : ∃ r, r = E12 * E6 % pp := ⟨_, rfl⟩
  have lE13 : E13 < pp := hE13 ▸ Nat.mod_lt _ pp_pos
  have HE13 := Lib.hid hE13
  clear hE13
  obtain ⟨E14, hE14⟩ : ∃ r, r = (E4 + E13) % pp := ⟨_, rfl⟩
  have lE14 : E14 < pp := hE14 ▸ Nat.mod_lt _ pp_pos
  have HE14 := Lib.hid hE14
  clear hE14
  obtain ⟨E15, hE15⟩ : ∃ r, r = E6 * E14 % pp := ⟨_, rfl⟩
  have lE15 : E15 < pp := hE15 ▸ Nat.mod_lt _ pp_pos
  have HE15 := Lib.hid hE15
  clear hE15
  obtain ⟨E16, hE16⟩ : ∃ r, r = E9 * E9 % pp := ⟨_, rfl⟩
  have lE16 : E16 < pp := hE16 ▸ Nat.mod_lt _ pp_pos
  have HE16 := Lib.hid hE16
  clear hE16
  obtain ⟨E17, hE17⟩ : ∃ r, r = E10 * E10 % pp := ⟨_, rfl⟩
  have lE17 : E17 < pp := hE17 ▸ Nat.mod_lt _ pp_pos
  have HE17 := Lib.hid hE17
  clear hE17
  obtain ⟨E18, hE18⟩ : ∃ r, r = X * E17 % pp := ⟨_, rfl⟩
  have lE18 : E18 < pp := hE18 ▸ Nat.mod_lt _ pp_pos
  have HE18 := Lib.hid hE18
  clear hE18
  unfold RV El
  go_enter Try.func28, Try.ntmps28
  go_upto_region 1 with fail
  generalize hW : World.alloc (World.alloc (World.alloc (World.alloc (World.alloc w _) _) _) _) _ = W
  have hB : Below w.heap.size w W := hW ▸ (((((Below.refl w.heap.size w).alloc (Nat.le_refl _) _).alloc (by simp) _).alloc (by simp; omega) _).alloc (by simp; omega) _).alloc (by simp; omega) _
  have K0 : Blk W (w.heap.size) 46 (El_cells X) := hW ▸ (((((Blk.new' (by simp) _ _).alloc _).alloc _).alloc _).alloc _)
  have K1 : Blk W (w.heap.size + 1) 50 (Rt PA PB) := hW ▸ ((((Blk.new' (by simp) _ _).alloc _).alloc _).alloc _)
  have K2 : Blk W (w.heap.size + 1 + 1) 50 (Rt QA QB) := hW ▸ (((Blk.new' (by simp) _ _).alloc _).alloc _)
  have K3 : Blk W (w.heap.size + 1 + 1 + 1) 50 (Rt 0 0) := hW ▸ ((Blk.new' (by simp) _ _).alloc _)
  have K4 : Blk W (w.heap.size + 1 + 1 + 1 + 1) 50 (Rt 0 0) := hW ▸ (Blk.new' (by simp) _ _)
  have hS : Facts [.blk (w.heap.size) 46 (El_cells X), .blk (w.heap.size + 1) 50 (Rt PA PB), .blk (w.heap.size + 1 + 1) 50 (Rt QA QB)] W := Facts.cons (f := .blk (w.heap.size) 46 (El_cells X)) K0 (Facts.cons (f := .blk (w.heap.size + 1) 50 (Rt PA PB)) K1 (Facts.cons (f := .blk (w.heap.size + 1 + 1) 50 (Rt QA QB)) K2 (Facts.nil)))
  clear hW K0 K1 K2
  replace hS := hS.drew
  replace hB := below_drew hB
  replace K3 := K3.drew
  replace K4 := K4.drew
  refine wp_region_Z (S := Facts [.blk (w.heap.size) 46 (El_cells X), .blk (w.heap.size + 1) 50 (Rt PA PB), .blk (w.heap.size + 1 + 1) 50 (Rt QA QB)]) 13 (by kernel_rfl) ?_
  refine wpAnyZ_takeL 0 rfl (by kernel_rfl) (by kernel_rfl) (by kernel_rfl) (by kernel_rfl) (by kernel_rfl) (fun _ _ _ h => h) (show YieldsIf _ _ _ _ (.pointer (some ⟨w.heap.size + 1, 0, none⟩)) _ from yieldsIf_fa0 rfl _ rfl (w.heap.size + 1) rfl) hS ?_
  simp only [Act.put, List.setIfInBounds_toArray, List.set_cons_zero, List.set_cons_succ]
  refine wpAnyZ_takeL 1 rfl (by kernel_rfl) (by kernel_rfl) (by kernel_rfl) (by kernel_rfl) (by kernel_rfl) (fun _ _ _ h => h) (show YieldsIf _ _ _ _ (El PA) _ from yieldsIf_part0 rfl _ rfl (w.heap.size + 1) rfl 50 _ _ (.tail _ (.head _))) hS ?_
  simp only [Act.put, List.setIfInBounds_toArray, List.set_cons_zero, List.set_cons_succ]
  refine wpAnyZ_takeL 2 rfl (by kernel_rfl) (by kernel_rfl) (by kernel_rfl) (by kernel_rfl) (by kernel_rfl) (fun _ _ _ h => h) (show YieldsIf _ _ _ _ (.pointer (some ⟨w.heap.size + 1, 5, none⟩)) _ from yieldsIf_fa5 rfl _ rfl (w.heap.size + 1) rfl) hS ?_
  simp only [Act.put, List.setIfInBounds_toArray, List.set_cons_zero, List.set_cons_succ]
  refine wpAnyZ_takeL 3 rfl (by kernel_rfl) (by kernel_rfl) (by kernel_rfl) (by kernel_rfl) (by kernel_rfl) (fun _ _ _ h => h) (show YieldsIf _ _ _ _ (El PB) _ from yieldsIf_part5 rfl _ rfl (w.heap.size + 1) rfl 50 _ _ (.tail _ (.head _))) hS ?_
  simp only [Act.put, List.setIfInBounds_toArray, List.set_cons_zero, List.set_cons_succ]
  refine wpAnyZ_takeL 5 rfl (by kernel_rfl) (by kernel_rfl) (by kernel_rfl) (by kernel_rfl) (by kernel_rfl) (fun _ _ _ h => h) (show YieldsIf _ _ _ _ (.pointer (some ⟨w.heap.size + 1, 0, none⟩)) _ from yieldsIf_fa0 rfl _ rfl (w.heap.size + 1) rfl) hS ?_
  simp only [Act.put, List.setIfInBounds_toArray, List.set_cons_zero, List.set_cons_succ]
  refine wpAnyZ_takeL 6 rfl (by kernel_rfl) (by kernel_rfl) (by kernel_rfl) (by kernel_rfl) (by kernel_rfl) (fun _ _ _ h => h) (show YieldsIf _ _ _ _ (El PA) _ from yieldsIf_part0 rfl _ rfl (w.heap.size + 1) rfl 50 _ _ (.tail _ (.head _))) hS ?_
  simp only [Act.put, List.setIfInBounds_toArray, List.set_cons_zero, List.set_cons_succ]
  refine wpAnyZ_takeL 7 rfl (by kernel_rfl) (by kernel_rfl) (by kernel_rfl) (by kernel_rfl) (by kernel_rfl) (fun _ _ _ h => h) (show YieldsIf _ _ _ _ (.pointer (some ⟨w.heap.size + 1, 5, none⟩)) _ from yieldsIf_fa5 rfl _ rfl (w.heap.size + 1) rfl) hS ?_
  simp only [Act.put, List.setIfInBounds_toArray, List.set_cons_zero, List.set_cons_succ]
  refine wpAnyZ_takeL 8 rfl (by kernel_rfl) (by kernel_rfl) (by kernel_rfl) (by kernel_rfl) (by kernel_rfl) (fun _ _ _ h => h) (show YieldsIf _ _ _ _ (El PB) _ from yieldsIf_part5 rfl _ rfl (w.heap.size + 1) rfl 50 _ _ (.tail _ (.head _))) hS ?_
  simp only [Act.put, List.setIfInBounds_toArray, List.set_cons_zero, List.set_cons_succ]
  refine wpAnyZ_jobsL [(⟨4, 23⟩, .is (El E0)), (⟨9, 28⟩, .is (El E1)), (⟨10, 8⟩, .rel (fun v w' => ∃ g, v = .pointer (some ⟨g, 0, none⟩) ∧ Blk w' g 46 (El_cells 0))), (⟨11, 9⟩, .rel (fun v w' => ∃ g, v = .pointer (some ⟨g, 0, none⟩) ∧ Blk w' g 46 (El_cells 0)))] [] 2 _ _ _ (by kernel_rfl) (fun _ _ _ _ _ h => h) ?_ (fun _ _ _ _ _ h => h) (fun _ _ h hb => h.below hb) hS ?_ ?_ ?_
  · exact fun _ _ h => by cases h
  · intro j hj
    simp only [List.map_cons, List.map_nil, List.mem_cons, List.not_mem_nil, or_false] at hj
    rcases hj with rfl | rfl | rfl | rfl
    · exact fun _ _ _ h _ => h
    · exact fun _ _ _ h _ => h
    · intro v w1 w2 h hb
      obtain ⟨g, e, H⟩ : ∃ g, v = .pointer (some ⟨g, 0, none⟩) ∧ Blk w1 g 46 (El_cells 0) := h
      exact ⟨g, e, H.below' hb⟩
    · intro v w1 w2 h hb
      obtain ⟨g, e, H⟩ : ∃ g, v = .pointer (some ⟨g, 0, none⟩) ∧ Blk w1 g 46 (El_cells 0) := h
      exact ⟨g, e, H.below' hb⟩
  · intro j hj
    simp only [List.map_cons, List.map_nil, List.mem_cons, List.not_mem_nil, or_false] at hj
    rcases hj with rfl | rfl | rfl | rfl
    · refine job_frame [] (by kernel_rfl) ?_
      show JobAt _ _ _ _ _ _ _
      simp only [putAll, List.foldr_nil]
      intro W K hS' hK
      unfold wpOp
      go_simp
      left
      refine (add_v PA PB E0 _ lPA lPB HE0.out).mono ?_
      rintro e v ⟨rfl, b⟩
      exact hK _ _ rfl b (fun g hg => ((block_agg _) g hg).elim)
    · refine job_frame [] (by kernel_rfl) ?_
      show JobAt _ _ _ _ _ _ _
      simp only [putAll, List.foldr_nil]
      intro W K hS' hK
      unfold wpOp
      go_simp
      left
      refine (sub_v PA PB E1 _ lPA lPB HE1.out).mono ?_
      rintro e v ⟨rfl, b⟩
      exact hK _ _ rfl b (fun g hg => ((block_agg _) g hg).elim)
    · refine job_frame [] (by kernel_rfl) ?_
      show JobAt _ _ _ _ _ _ _
      exact job_alloc 46 (El_cells 0) _ _ rfl rfl rfl (fun W => by go_simp; rfl)
    · refine job_frame [] (by kernel_rfl) ?_
      show JobAt _ _ _ _ _ _ _
      exact job_alloc 46 (El_cells 0) _ _ rfl rfl rfl (fun W => by go_simp; rfl)
  · intro f W hS2 hB1 hR hF hA
    have e4 : f 4 = (El E0) := hR ⟨4, 23⟩ (by simp)
    have e9 : f 9 = (El E1) := hR ⟨9, 28⟩ (by simp)
    obtain ⟨g10r1, e10, A10⟩ : ∃ g, f 10 = .pointer (some ⟨g, 0, none⟩) ∧ Blk W g 46 (El_cells 0) := hR ⟨10, 8⟩ (by simp)
    have n10 : _ ≤ g10r1 := (hF ⟨10, 8⟩ (by simp) g10r1 (by show blockOf (f 10) = _; rw [e10]; rfl)).1
    obtain ⟨g11r1, e11, A11⟩ : ∃ g, f 11 = .pointer (some ⟨g, 0, none⟩) ∧ Blk W g 46 (El_cells 0) := hR ⟨11, 9⟩ (by simp)
    have n11 : _ ≤ g11r1 := (hF ⟨11, 9⟩ (by simp) g11r1 (by show blockOf (f 11) = _; rw [e11]; rfl)).1
    have d10_11 : g10r1 ≠ g11r1 := fun h => hA ⟨10, 8⟩ (by simp) ⟨11, 9⟩ (by simp) (by decide) g10r1 (by show blockOf (f 10) = _; rw [e10]; rfl) (by show blockOf (f 11) = _; rw [e11, h]; rfl)
    clear hA hF hR
    simp only [setAll, putAll, List.map_cons, List.map_nil, List.foldr_cons, List.foldr_nil, Act.put, List.setIfInBounds_toArray, List.set_cons_zero, List.set_cons_succ, e4, e9, e10, e11]
    clear e4 e9 e10 e11
    have hBs := hB1
    replace hB1 := below_setRow hB1 n10 (El_cells E0)
    refine wpAnyZ_store_row 12 rfl (by kernel_rfl) rfl _ _ _ rfl g10r1 (El_cells E0) rfl rfl _ _ A10 (info_El _) rfl (El_one _) (hS.below hB1) ?_
    try simp only [Act.put, List.setIfInBounds_toArray, List.set_cons_zero, List.set_cons_succ]
    replace A11 := A11.rowFar (Ne.symm d10_11) (El_cells E0)
    replace A10 := A10.row (El_cells E0)
    replace hB1 := below_setRow hB1 n11 (El_cells E1)
    refine wpAnyZ_store_row 13 rfl (by kernel_rfl) rfl _ _ _ rfl g11r1 (El_cells E1) rfl rfl _ _ A11 (info_El _) rfl (El_one _) (hS.below hB1) ?_
    try simp only [Act.put, List.setIfInBounds_toArray, List.set_cons_zero, List.set_cons_succ]
    replace A10 := A10.rowFar d10_11 (El_cells E1)
    replace A11 := A11.row (El_cells E1)
    refine wpAnyZ_done (by kernel_rfl) ?_ _
    replace K3 := K3.below' hB1
    replace K4 := K4.below' hB1
    have hS3 := hS.below hB1
    replace hB := hB.trans (hB1.mono hB.size)
    clear hS hS2 hB1 hBs
    have hS : Facts [.blk (g10r1) 46 (El_cells E0), .blk (g11r1) 46 (El_cells E1), .blk (w.heap.size) 46 (El_cells X), .blk (w.heap.size + 1) 50 (Rt PA PB), .blk (w.heap.size + 1 + 1) 50 (Rt QA QB)] _ := Facts.cons (f := .blk g10r1 46 (El_cells E0)) A10 (Facts.cons (f := .blk g11r1 46 (El_cells E1)) A11 (hS3))
    clear hS3
    try clear n10 n11
    clear A10 A11
    generalize hWn : World.setRow _ _ _ = Wn at *
    clear hWn
    go_upto_region 2 with fail
    replace hS := hS.drew
    replace hB := below_drew hB
    replace K3 := K3.drew
    replace K4 := K4.drew
    refine wp_region_Z (S := Facts [.blk (g10r1) 46 (El_cells E0), .blk (g11r1) 46 (El_cells E1), .blk (w.heap.size) 46 (El_cells X), .blk (w.heap.size + 1) 50 (Rt PA PB), .blk (w.heap.size + 1 + 1) 50 (Rt QA QB)]) 13 (by kernel_rfl) ?_
    refine wpAnyZ_takeL 0 rfl (by kernel_rfl) (by kernel_rfl) (by kernel_rfl) (by kernel_rfl) (by kernel_rfl) (fun _ _ _ h => h) (show YieldsIf _ _ _ _ (.pointer (some ⟨w.heap.size + 1 + 1, 0, none⟩)) _ from yieldsIf_fa0 rfl _ rfl (w.heap.size + 1 + 1) rfl) hS ?_
    simp only [Act.put, List.setIfInBounds_toArray, List.set_cons_zero, List.set_cons_succ]
    refine wpAnyZ_takeL 1 rfl (by kernel_rfl) (by kernel_rfl) (by kernel_rfl) (by kernel_rfl) (by kernel_rfl) (fun _ _ _ h => h) (show YieldsIf _ _ _ _ (El QA) _ from yieldsIf_part0 rfl _ rfl (w.heap.size + 1 + 1) rfl 50 _ _ (.tail _ (.tail _ (.tail _ (.tail _ (.head _)))))) hS ?_
    simp only [Act.put, List.setIfInBounds_toArray, List.set_cons_zero, List.set_cons_succ]
    refine wpAnyZ_takeL 2 rfl (by kernel_rfl) (by kernel_rfl) (by kernel_rfl) (by kernel_rfl) (by kernel_rfl) (fun _ _ _ h => h) (show YieldsIf _ _ _ _ (.pointer (some ⟨w.heap.size + 1 + 1, 5, none⟩)) _ from yieldsIf_fa5 rfl _ rfl (w.heap.size + 1 + 1) rfl) hS ?_
    simp only [Act.put, List.setIfInBounds_toArray, List.set_cons_zero, List.set_cons_succ]
    refine wpAnyZ_takeL 3 rfl (by kernel_rfl) (by kernel_rfl) (by kernel_rfl) (by kernel_rfl) (by kernel_rfl) (fun _ _ _ h => h) (show YieldsIf _ _ _ _ (El QB) _ from yieldsIf_part5 rfl _ rfl (w.heap.size + 1 + 1) rfl 50 _ _ (.tail _ (.tail _ (.tail _ (.tail _ (.head _)))))) hS ?_
    simp only [Act.put, List.setIfInBounds_toArray, List.set_cons_zero, List.set_cons_succ]
    refine wpAnyZ_takeL 5 rfl (by kernel_rfl) (by kernel_rfl) (by kernel_rfl) (by kernel_rfl) (by kernel_rfl) (fun _ _ _ h => h) (show YieldsIf _ _ _ _ (.pointer (some ⟨w.heap.size + 1 + 1, 0, none⟩)) _ from yieldsIf_fa0 rfl _ rfl (w.heap.size + 1 + 1) rfl) hS ?_
    simp only [Act.put, List.setIfInBounds_toArray, List.set_cons_zero, List.set_cons_succ]
    refine wpAnyZ_takeL 6 rfl (by kernel_rfl) (by kernel_rfl) (by kernel_rfl) (by kernel_rfl) (by kernel_rfl) (fun _ _ _ h => h) (show YieldsIf _ _ _ _ (El QA) _ from yieldsIf_part0 rfl _ rfl (w.heap.size + 1 + 1) rfl 50 _ _ (.tail _ (.tail _ (.tail _ (.tail _ (.head _)))))) hS ?_
    simp only [Act.put, List.setIfInBounds_toArray, List.set_cons_zero, List.set_cons_succ]
    refine wpAnyZ_takeL 7 rfl (by kernel_rfl) (by kernel_rfl) (by kernel_rfl) (by kernel_rfl) (by kernel_rfl) (fun _ _ _ h => h) (show YieldsIf _ _ _ _ (.pointer (some ⟨w.heap.size + 1 + 1, 5, none⟩)) _ from yieldsIf_fa5 rfl _ rfl (w.heap.size + 1 + 1) rfl) hS ?_
    simp only [Act.put, List.setIfInBounds_toArray, List.set_cons_zero, List.set_cons_succ]
    refine wpAnyZ_takeL 8 rfl (by kernel_rfl) (by kernel_rfl) (by kernel_rfl) (by kernel_rfl) (by kernel_rfl) (fun _ _ _ h => h) (show YieldsIf _ _ _ _ (El QB) _ from yieldsIf_part5 rfl _ rfl (w.heap.size + 1 + 1) rfl 50 _ _ (.tail _ (.tail _ (.tail _ (.tail _ (.head _)))))) hS ?_
    simp only [Act.put, List.setIfInBounds_toArray, List.set_cons_zero, List.set_cons_succ]
    refine wpAnyZ_jobsL [(⟨4, 33⟩, .is (El E2)), (⟨9, 38⟩, .is (El E3)), (⟨10, 10⟩, .rel (fun v w' => ∃ g, v = .pointer (some ⟨g, 0, none⟩) ∧ Blk w' g 46 (El_cells 0))), (⟨11, 11⟩, .rel (fun v w' => ∃ g, v = .pointer (some ⟨g, 0, none⟩) ∧ Blk w' g 46 (El_cells 0)))] [] 2 _ _ _ (by kernel_rfl) (fun _ _ _ _ _ h => h) ?_ (fun _ _ _ _ _ h => h) (fun _ _ h hb => h.below hb) hS ?_ ?_ ?_
    · exact fun _ _ h => by cases h
    · intro j hj
      simp only [List.map_cons, List.map_nil, List.mem_cons, List.not_mem_nil, or_false] at hj
      rcases hj with rfl | rfl | rfl | rfl
      · exact fun _ _ _ h _ => h
      · exact fun _ _ _ h _ => h
      · intro v w1 w2 h hb
        obtain ⟨g, e, H⟩ : ∃ g, v = .pointer (some ⟨g, 0, none⟩) ∧ Blk w1 g 46 (El_cells 0) := h
        exact ⟨g, e, H.below' hb⟩
      · intro v w1 w2 h hb
        obtain ⟨g, e, H⟩ : ∃ g, v = .pointer (some ⟨g, 0, none⟩) ∧ Blk w1 g 46 (El_cells 0) := h
        exact ⟨g, e, H.below' hb⟩
    · intro j hj
      simp only [List.map_cons, List.map_nil, List.mem_cons, List.not_mem_nil, or_false] at hj
      rcases hj with rfl | rfl | rfl | rfl
      · refine job_frame [] (by kernel_rfl) ?_
        show JobAt _ _ _ _ _ _ _
        simp only [putAll, List.foldr_nil]
        intro W K hS' hK
        unfold wpOp
        go_simp
        left
        refine (add_v QA QB E2 _ lQA lQB HE2.out).mono ?_
        rintro e v ⟨rfl, b⟩
        exact hK _ _ rfl b (fun g hg => ((block_agg _) g hg).elim)
      · refine job_frame [] (by kernel_rfl) ?_
        show JobAt _ _ _ _ _ _ _
        simp only [putAll, List.foldr_nil]
        intro W K hS' hK
        unfold wpOp
        go_simp
        left
        refine (sub_v QA QB E3 _ lQA lQB HE3.out).mono ?_
        rintro e v ⟨rfl, b⟩
        exact hK _ _ rfl b (fun g hg => ((block_agg _) g hg).elim)
      · refine job_frame [] (by kernel_rfl) ?_
        show JobAt _ _ _ _ _ _ _
        exact job_alloc 46 (El_cells 0) _ _ rfl rfl rfl (fun W => by go_simp; rfl)
      · refine job_frame [] (by kernel_rfl) ?_
        show JobAt _ _ _ _ _ _ _
        exact job_alloc 46 (El_cells 0) _ _ rfl rfl rfl (fun W => by go_simp; rfl)
    · intro f W hS2 hB1 hR hF hA
      have e4 : f 4 = (El E2) := hR ⟨4, 33⟩ (by simp)
      have e9 : f 9 = (El E3) := hR ⟨9, 38⟩ (by simp)
      obtain ⟨g10r2, e10, A10⟩ : ∃ g, f 10 = .pointer (some ⟨g, 0, none⟩) ∧ Blk W g 46 (El_cells 0) := hR ⟨10, 10⟩ (by simp)
      have n10 : _ ≤ g10r2 := (hF ⟨10, 10⟩ (by simp) g10r2 (by show blockOf (f 10) = _; rw [e10]; rfl)).1
      obtain ⟨g11r2, e11, A11⟩ : ∃ g, f 11 = .pointer (some ⟨g, 0, none⟩) ∧ Blk W g 46 (El_cells 0) := hR ⟨11, 11⟩ (by simp)
      have n11 : _ ≤ g11r2 := (hF ⟨11, 11⟩ (by simp) g11r2 (by show blockOf (f 11) = _; rw [e11]; rfl)).1
      have d10_11 : g10r2 ≠ g11r2 := fun h => hA ⟨10, 10⟩ (by simp) ⟨11, 11⟩ (by simp) (by decide) g10r2 (by show blockOf (f 10) = _; rw [e10]; rfl) (by show blockOf (f 11) = _; rw [e11, h]; rfl)
      clear hA hF hR
      simp only [setAll, putAll, List.map_cons, List.map_nil, List.foldr_cons, List.foldr_nil, Act.put, List.setIfInBounds_toArray, List.set_cons_zero, List.set_cons_succ, e4, e9, e10, e11]
      clear e4 e9 e10 e11
      have hBs := hB1
      replace hB1 := below_setRow hB1 n10 (El_cells E2)
      refine wpAnyZ_store_row 12 rfl (by kernel_rfl) rfl _ _ _ rfl g10r2 (El_cells E2) rfl rfl _ _ A10 (info_El _) rfl (El_one _) (hS.below hB1) ?_
      try simp only [Act.put, List.setIfInBounds_toArray, List.set_cons_zero, List.set_cons_succ]
      replace A11 := A11.rowFar (Ne.symm d10_11) (El_cells E2)
      replace A10 := A10.row (El_cells E2)
      replace hB1 := below_setRow hB1 n11 (El_cells E3)
      refine wpAnyZ_store_row 13 rfl (by kernel_rfl) rfl _ _ _ rfl g11r2 (El_cells E3) rfl rfl _ _ A11 (info_El _) rfl (El_one _) (hS.below hB1) ?_
      try simp only [Act.put, List.setIfInBounds_toArray, List.set_cons_zero, List.set_cons_succ]
      replace A10 := A10.rowFar d10_11 (El_cells E3)
      replace A11 := A11.row (El_cells E3)
      refine wpAnyZ_done (by kernel_rfl) ?_ _
      replace K3 := K3.below' hB1
      replace K4 := K4.below' hB1
      have hS3 := hS.below hB1
      replace hB := hB.trans (hB1.mono hB.size)
      clear hS hS2 hB1 hBs
      have hS : Facts [.blk (g10r2) 46 (El_cells E2), .blk (g11r2) 46 (El_cells E3), .blk (g10r1) 46 (El_cells E0), .blk (g11r1) 46 (El_cells E1), .blk (w.heap.size) 46 (El_cells X), .blk (w.heap.size + 1) 50 (Rt PA PB), .blk (w.heap.size + 1 + 1) 50 (Rt QA QB)] _ := Facts.cons (f := .blk g10r2 46 (El_cells E2)) A10 (Facts.cons (f := .blk g11r2 46 (El_cells E3)) A11 (hS3))
      clear hS3
      try clear n10 n11
      clear A10 A11
      generalize hWn : World.setRow _ _ _ = Wn at *
      clear hWn
      go_upto_region 3 with fail
      replace hS := hS.drew
      replace hB := below_drew hB
      replace K3 := K3.drew
      replace K4 := K4.drew
      refine wp_region_Z (S := Facts [.blk (g10r2) 46 (El_cells E2), .blk (g11r2) 46 (El_cells E3), .blk (g10r1) 46 (El_cells E0), .blk (g11r1) 46 (El_cells E1), .blk (w.heap.size) 46 (El_cells X), .blk (w.heap.size + 1) 50 (Rt PA PB), .blk (w.heap.size + 1 + 1) 50 (Rt QA QB)]) 9 (by kernel_rfl) ?_
      refine wpAnyZ_takeL 0 rfl (by kernel_rfl) (by kernel_rfl) (by kernel_rfl) (by kernel_rfl) (by kernel_rfl) (fun _ _ _ h => h) (show YieldsIf _ _ _ _ (El E0) _ from yieldsIf_load rfl 46 _ rfl (g10r1) rfl 46 _ _ (.tail _ (.tail _ (.head _))) Try.underlying46 rfl (info_El _)) hS ?_
      simp only [Act.put, List.setIfInBounds_toArray, List.set_cons_zero, List.set_cons_succ]
      refine wpAnyZ_takeL 1 rfl (by kernel_rfl) (by kernel_rfl) (by kernel_rfl) (by kernel_rfl) (by kernel_rfl) (fun _ _ _ h => h) (show YieldsIf _ _ _ _ (El E0) _ from yieldsIf_load rfl 46 _ rfl (g10r1) rfl 46 _ _ (.tail _ (.tail _ (.head _))) Try.underlying46 rfl (info_El _)) hS ?_
      simp only [Act.put, List.setIfInBounds_toArray, List.set_cons_zero, List.set_cons_succ]
      refine wpAnyZ_takeL 3 rfl (by kernel_rfl) (by kernel_rfl) (by kernel_rfl) (by kernel_rfl) (by kernel_rfl) (fun _ _ _ h => h) (show YieldsIf _ _ _ _ (El E1) _ from yieldsIf_load rfl 46 _ rfl (g11r1) rfl 46 _ _ (.tail _ (.tail _ (.tail _ (.head _)))) Try.underlying46 rfl (info_El _)) hS ?_
      simp only [Act.put, List.setIfInBounds_toArray, List.set_cons_zero, List.set_cons_succ]
      refine wpAnyZ_takeL 4 rfl (by kernel_rfl) (by kernel_rfl) (by kernel_rfl) (by kernel_rfl) (by kernel_rfl) (fun _ _ _ h => h) (show YieldsIf _ _ _ _ (El E1) _ from yieldsIf_load rfl 46 _ rfl (g11r1) rfl 46 _ _ (.tail _ (.tail _ (.tail _ (.head _)))) Try.underlying46 rfl (info_El _)) hS ?_
      simp only [Act.put, List.setIfInBounds_toArray, List.set_cons_zero, List.set_cons_succ]
      refine wpAnyZ_jobsL [(⟨2, 41⟩, .is (El E4)), (⟨5, 44⟩, .is (El E5)), (⟨6, 12⟩, .rel (fun v w' => ∃ g, v = .pointer (some ⟨g, 0, none⟩) ∧ Blk w' g 46 (El_cells 0))), (⟨7, 13⟩, .rel (fun v w' => ∃ g, v = .pointer (some ⟨g, 0, none⟩) ∧ Blk w' g 46 (El_cells 0)))] [] 2 _ _ _ (by kernel_rfl) (fun _ _ _ _ _ h => h) ?_ (fun _ _ _ _ _ h => h) (fun _ _ h hb => h.below hb) hS ?_ ?_ ?_
      · exact fun _ _ h => by cases h
      · intro j hj
        simp only [List.map_cons, List.map_nil, List.mem_cons, List.not_mem_nil, or_false] at hj
        rcases hj with rfl | rfl | rfl | rfl
        · exact fun _ _ _ h _ => h
        · exact fun _ _ _ h _ => h
        · intro v w1 w2 h hb
          obtain ⟨g, e, H⟩ : ∃ g, v = .pointer (some ⟨g, 0, none⟩) ∧ Blk w1 g 46 (El_cells 0) := h
          exact ⟨g, e, H.below' hb⟩
        · intro v w1 w2 h hb
          obtain ⟨g, e, H⟩ : ∃ g, v = .pointer (some ⟨g, 0, none⟩) ∧ Blk w1 g 46 (El_cells 0) := h
          exact ⟨g, e, H.below' hb⟩
      · intro j hj
        simp only [List.map_cons, List.map_nil, List.mem_cons, List.not_mem_nil, or_false] at hj
        rcases hj with rfl | rfl | rfl | rfl
        · refine job_frame [] (by kernel_rfl) ?_
          show JobAt _ _ _ _ _ _ _
          simp only [putAll, List.foldr_nil]
          intro W K hS' hK
          unfold wpOp
          go_simp
          left
          refine (mul_v E0 E0 E4 _ lE0 lE0 HE4.out).mono ?_
          rintro e v ⟨rfl, b⟩
          exact hK _ _ rfl b (fun g hg => ((block_agg _) g hg).elim)
        · refine job_frame [] (by kernel_rfl) ?_
          show JobAt _ _ _ _ _ _ _
          simp only [putAll, List.foldr_nil]
          intro W K hS' hK
          unfold wpOp
          go_simp
          left
          refine (mul_v E1 E1 E5 _ lE1 lE1 HE5.out).mono ?_
          rintro e v ⟨rfl, b⟩
          exact hK _ _ rfl b (fun g hg => ((block_agg _) g hg).elim)
        · refine job_frame [] (by kernel_rfl) ?_
          show JobAt _ _ _ _ _ _ _
          exact job_alloc 46 (El_cells 0) _ _ rfl rfl rfl (fun W => by go_simp; rfl)
        · refine job_frame [] (by kernel_rfl) ?_
          show JobAt _ _ _ _ _ _ _
          exact job_alloc 46 (El_cells 0) _ _ rfl rfl rfl (fun W => by go_simp; rfl)
      · intro f W hS2 hB1 hR hF hA
        have e2 : f 2 = (El E4) := hR ⟨2, 41⟩ (by simp)
        have e5 : f 5 = (El E5) := hR ⟨5, 44⟩ (by simp)
        obtain ⟨g6r3, e6, A6⟩ : ∃ g, f 6 = .pointer (some ⟨g, 0, none⟩) ∧ Blk W g 46 (El_cells 0) := hR ⟨6, 12⟩ (by simp)
        have n6 : _ ≤ g6r3 := (hF ⟨6, 12⟩ (by simp) g6r3 (by show blockOf (f 6) = _; rw [e6]; rfl)).1
        obtain ⟨g7r3, e7, A7⟩ : ∃ g, f 7 = .pointer (some ⟨g, 0, none⟩) ∧ Blk W g 46 (El_cells 0) := hR ⟨7, 13⟩ (by simp)
        have n7 : _ ≤ g7r3 := (hF ⟨7, 13⟩ (by simp) g7r3 (by show blockOf (f 7) = _; rw [e7]; rfl)).1
        have d6_7 : g6r3 ≠ g7r3 := fun h => hA ⟨6, 12⟩ (by simp) ⟨7, 13⟩ (by simp) (by decide) g6r3 (by show blockOf (f 6) = _; rw [e6]; rfl) (by show blockOf (f 7) = _; rw [e7, h]; rfl)
        clear hA hF hR
        simp only [setAll, putAll, List.map_cons, List.map_nil, List.foldr_cons, List.foldr_nil, Act.put, List.setIfInBounds_toArray, List.set_cons_zero, List.set_cons_succ, e2, e5, e6, e7]
        clear e2 e5 e6 e7
        have hBs := hB1
        replace hB1 := below_setRow hB1 n6 (El_cells E4)
        refine wpAnyZ_store_row 8 rfl (by kernel_rfl) rfl _ _ _ rfl g6r3 (El_cells E4) rfl rfl _ _ A6 (info_El _) rfl (El_one _) (hS.below hB1) ?_
        try simp only [Act.put, List.setIfInBounds_toArray, List.set_cons_zero, List.set_cons_succ]
        replace A7 := A7.rowFar (Ne.symm d6_7) (El_cells E4)
        replace A6 := A6.row (El_cells E4)
        replace hB1 := below_setRow hB1 n7 (El_cells E5)
        refine wpAnyZ_store_row 9 rfl (by kernel_rfl) rfl _ _ _ rfl g7r3 (El_cells E5) rfl rfl _ _ A7 (info_El _) rfl (El_one _) (hS.below hB1) ?_
        try simp only [Act.put, List.setIfInBounds_toArray, List.set_cons_zero, List.set_cons_succ]
        replace A6 := A6.rowFar d6_7 (El_cells E5)
        replace A7 := A7.row (El_cells E5)
        refine wpAnyZ_done (by kernel_rfl) ?_ _
        replace K3 := K3.below' hB1
        replace K4 := K4.below' hB1
        have hS3 := hS.below hB1
        replace hB := hB.trans (hB1.mono hB.size)
        clear hS hS2 hB1 hBs
        have hS : Facts [.blk (g6r3) 46 (El_cells E4), .blk (g7r3) 46 (El_cells E5), .blk (g10r2) 46 (El_cells E2), .blk (g11r2) 46 (El_cells E3), .blk (g10r1) 46 (El_cells E0), .blk (g11r1) 46 (El_cells E1), .blk (w.heap.size) 46 (El_cells X), .blk (w.heap.size + 1) 50 (Rt PA PB), .blk (w.heap.size + 1 + 1) 50 (Rt QA QB)] _ := Facts.cons (f := .blk g6r3 46 (El_cells E4)) A6 (Facts.cons (f := .blk g7r3 46 (El_cells E5)) A7 (hS3))
        clear hS3
        try clear n6 n7
        clear A6 A7
        generalize hWn : World.setRow _ _ _ = Wn at *
        clear hWn
        go_upto_region 4 with fail
        refine wp_region_seq ?_
        refine wpSeq_yield (S := Facts [.blk (g6r3) 46 (El_cells E4), .blk (g7r3) 46 (El_cells E5), .blk (g10r2) 46 (El_cells E2), .blk (g11r2) 46 (El_cells E3), .blk (g10r1) 46 (El_cells E0), .blk (g11r1) 46 (El_cells E1), .blk (w.heap.size) 46 (El_cells X), .blk (w.heap.size + 1) 50 (Rt PA PB), .blk (w.heap.size + 1 + 1) 50 (Rt QA QB)]) (show YieldsIf _ _ _ _ (El E4) _ from yieldsIf_load rfl 46 _ rfl (g6r3) rfl 46 _ _ (.head _) Try.underlying46 rfl (info_El _)) hS ?_
        simp only [Act.put, List.setIfInBounds_toArray, List.set_cons_zero, List.set_cons_succ]
        refine wpSeq_yield (S := Facts [.blk (g6r3) 46 (El_cells E4), .blk (g7r3) 46 (El_cells E5), .blk (g10r2) 46 (El_cells E2), .blk (g11r2) 46 (El_cells E3), .blk (g10r1) 46 (El_cells E0), .blk (g11r1) 46 (El_cells E1), .blk (w.heap.size) 46 (El_cells X), .blk (w.heap.size + 1) 50 (Rt PA PB), .blk (w.heap.size + 1 + 1) 50 (Rt QA QB)]) (show YieldsIf _ _ _ _ (El E5) _ from yieldsIf_load rfl 46 _ rfl (g7r3) rfl 46 _ _ (.tail _ (.head _)) Try.underlying46 rfl (info_El _)) hS ?_
        simp only [Act.put, List.setIfInBounds_toArray, List.set_cons_zero, List.set_cons_succ]
        refine wpSeq_wp rfl ?_
        go_simp
        refine (sub_v E4 E5 E6 _ lE4 lE5 HE6.out).mono ?_
        rintro e v1 ⟨rfl, b⟩
        replace hB := hB.trans (b.mono hB.size)
        replace hS := hS.below b
        replace K3 := K3.below' b
        replace K4 := K4.below' b
        clear b
        show wpSeq _ _ _ _ _ _
        refine wpSeq_alloc 46 (El_cells 0) rfl (fun W => by go_simp; rfl) ?_
        simp only [Act.put, List.setIfInBounds_toArray, List.set_cons_zero, List.set_cons_succ]
        refine wpSeq_store_row rfl 46 _ _ rfl (v1.heap.size) (El_cells E6) rfl rfl _ _ (Blk.new _ _ _) (info_El _) rfl (El_one _) ?_
        try simp only [Act.put, List.setIfInBounds_toArray, List.set_cons_zero, List.set_cons_succ]
        have hb := below_setRow ((Below.refl v1.heap.size v1).alloc (Nat.le_refl _) (.cells (El_cells 0) 46)) (Nat.le_refl v1.heap.size) (El_cells E6)
        have A := (Blk.new v1 46 (El_cells 0)).row (El_cells E6)
        replace hB := hB.trans (hb.mono hB.size)
        replace hS := hS.below hb
        replace K3 := K3.below' hb
        replace K4 := K4.below' hb
        clear hb
        generalize hWn : World.setRow _ _ _ = Wn at *
        clear hWn
        generalize v1.heap.size = G1 at *
        replace hS : Facts [.blk (G1) 46 (El_cells E6), .blk (g6r3) 46 (El_cells E4), .blk (g7r3) 46 (El_cells E5), .blk (g10r2) 46 (El_cells E2), .blk (g11r2) 46 (El_cells E3), .blk (g10r1) 46 (El_cells E0), .blk (g11r1) 46 (El_cells E1), .blk (w.heap.size) 46 (El_cells X), .blk (w.heap.size + 1) 50 (Rt PA PB), .blk (w.heap.size + 1 + 1) 50 (Rt QA QB)] _ := Facts.cons (f := .blk G1 46 (El_cells E6)) A hS
        clear A
        refine wpSeq_nil ?_
        go_upto_region 5 with fail
        replace hS := hS.drew
        replace hB := below_drew hB
        replace K3 := K3.drew
        replace K4 := K4.drew
        refine wp_region_Z (S := Facts [.blk (G1) 46 (El_cells E6), .blk (g6r3) 46 (El_cells E4), .blk (g7r3) 46 (El_cells E5), .blk (g10r2) 46 (El_cells E2), .blk (g11r2) 46 (El_cells E3), .blk (g10r1) 46 (El_cells E0), .blk (g11r1) 46 (El_cells E1), .blk (w.heap.size) 46 (El_cells X), .blk (w.heap.size + 1) 50 (Rt PA PB), .blk (w.heap.size + 1 + 1) 50 (Rt QA QB)]) 9 (by kernel_rfl) ?_
        refine wpAnyZ_takeL 0 rfl (by kernel_rfl) (by kernel_rfl) (by kernel_rfl) (by kernel_rfl) (by kernel_rfl) (fun _ _ _ h => h) (show YieldsIf _ _ _ _ (El E3) _ from yieldsIf_load rfl 46 _ rfl (g11r2) rfl 46 _ _ (.tail _ (.tail _ (.tail _ (.tail _ (.head _))))) Try.underlying46 rfl (info_El _)) hS ?_
        simp only [Act.put, List.setIfInBounds_toArray, List.set_cons_zero, List.set_cons_succ]
        refine wpAnyZ_takeL 1 rfl (by kernel_rfl) (by kernel_rfl) (by kernel_rfl) (by kernel_rfl) (by kernel_rfl) (fun _ _ _ h => h) (show YieldsIf _ _ _ _ (El E0) _ from yieldsIf_load rfl 46 _ rfl (g10r1) rfl 46 _ _ (.tail _ (.tail _ (.tail _ (.tail _ (.tail _ (.head _)))))) Try.underlying46 rfl (info_El _)) hS ?_
        simp only [Act.put, List.setIfInBounds_toArray, List.set_cons_zero, List.set_cons_succ]
        refine wpAnyZ_takeL 3 rfl (by kernel_rfl) (by kernel_rfl) (by kernel_rfl) (by kernel_rfl) (by kernel_rfl) (fun _ _ _ h => h) (show YieldsIf _ _ _ _ (El E2) _ from yieldsIf_load rfl 46 _ rfl (g10r2) rfl 46 _ _ (.tail _ (.tail _ (.tail _ (.head _)))) Try.underlying46 rfl (info_El _)) hS ?_
        simp only [Act.put, List.setIfInBounds_toArray, List.set_cons_zero, List.set_cons_succ]
        refine wpAnyZ_takeL 4 rfl (by kernel_rfl) (by kernel_rfl) (by kernel_rfl) (by kernel_rfl) (by kernel_rfl) (fun _ _ _ h => h) (show YieldsIf _ _ _ _ (El E1) _ from yieldsIf_load rfl 46 _ rfl (g11r1) rfl 46 _ _ (.tail _ (.tail _ (.tail _ (.tail _ (.tail _ (.tail _ (.head _))))))) Try.underlying46 rfl (info_El _)) hS ?_
        simp only [Act.put, List.setIfInBounds_toArray, List.set_cons_zero, List.set_cons_succ]
        refine wpAnyZ_jobsL [(⟨2, 50⟩, .is (El E7)), (⟨5, 53⟩, .is (El E8)), (⟨6, 15⟩, .rel (fun v w' => ∃ g, v = .pointer (some ⟨g, 0, none⟩) ∧ Blk w' g 46 (El_cells 0))), (⟨7, 16⟩, .rel (fun v w' => ∃ g, v = .pointer (some ⟨g, 0, none⟩) ∧ Blk w' g 46 (El_cells 0)))] [] 2 _ _ _ (by kernel_rfl) (fun _ _ _ _ _ h => h) ?_ (fun _ _ _ _ _ h => h) (fun _ _ h hb => h.below hb) hS ?_ ?_ ?_
        · exact fun _ _ h => by cases h
        · intro j hj
          simp only [List.map_cons, List.map_nil, List.mem_cons, List.not_mem_nil, or_false] at hj
          rcases hj with rfl | rfl | rfl | rfl
          · exact fun _ _ _ h _ => h
          · exact fun _ _ _ h _ => h
          · intro v w1 w2 h hb
            obtain ⟨g, e, H⟩ : ∃ g, v = .pointer (some ⟨g, 0, none⟩) ∧ Blk w1 g 46 (El_cells 0) := h
            exact ⟨g, e, H.below' hb⟩
          · intro v w1 w2 h hb
            obtain ⟨g, e, H⟩ : ∃ g, v = .pointer (some ⟨g, 0, none⟩) ∧ Blk w1 g 46 (El_cells 0) := h
            exact ⟨g, e, H.below' hb⟩
        · intro j hj
          simp only [List.map_cons, List.map_nil, List.mem_cons, List.not_mem_nil, or_false] at hj
          rcases hj with rfl | rfl | rfl | rfl
          · refine job_frame [] (by kernel_rfl) ?_
            show JobAt _ _ _ _ _ _ _
            simp only [putAll, List.foldr_nil]
            intro W K hS' hK
            unfold wpOp
            go_simp
            left
            refine (mul_v E3 E0 E7 _ lE3 lE0 HE7.out).mono ?_
            rintro e v ⟨rfl, b⟩
            exact hK _ _ rfl b (fun g hg => ((block_agg _) g hg).elim)
          · refine job_frame [] (by kernel_rfl) ?_
            show JobAt _ _ _ _ _ _ _
            simp only [putAll, List.foldr_nil]
            intro W K hS' hK
            unfold wpOp
            go_simp
            left
            refine (mul_v E2 E1 E8 _ lE2 lE1 HE8.out).mono ?_
            rintro e v ⟨rfl, b⟩
            exact hK _ _ rfl b (fun g hg => ((block_agg _) g hg).elim)
          · refine job_frame [] (by kernel_rfl) ?_
            show JobAt _ _ _ _ _ _ _
            exact job_alloc 46 (El_cells 0) _ _ rfl rfl rfl (fun W => by go_simp; rfl)
          · refine job_frame [] (by kernel_rfl) ?_
            show JobAt _ _ _ _ _ _ _
            exact job_alloc 46 (El_cells 0) _ _ rfl rfl rfl (fun W => by go_simp; rfl)
        · intro f W hS2 hB1 hR hF hA
          have e2 : f 2 = (El E7) := hR ⟨2, 50⟩ (by simp)
          have e5 : f 5 = (El E8) := hR ⟨5, 53⟩ (by simp)
          obtain ⟨g6r5, e6, A6⟩ : ∃ g, f 6 = .pointer (some ⟨g, 0, none⟩) ∧ Blk W g 46 (El_cells 0) := hR ⟨6, 15⟩ (by simp)
          have n6 : _ ≤ g6r5 := (hF ⟨6, 15⟩ (by simp) g6r5 (by show blockOf (f 6) = _; rw [e6]; rfl)).1
          obtain ⟨g7r5, e7, A7⟩ : ∃ g, f 7 = .pointer (some ⟨g, 0, none⟩) ∧ Blk W g 46 (El_cells 0) := hR ⟨7, 16⟩ (by simp)
          have n7 : _ ≤ g7r5 := (hF ⟨7, 16⟩ (by simp) g7r5 (by show blockOf (f 7) = _; rw [e7]; rfl)).1
          have d6_7 : g6r5 ≠ g7r5 := fun h => hA ⟨6, 15⟩ (by simp) ⟨7, 16⟩ (by simp) (by decide) g6r5 (by show blockOf (f 6) = _; rw [e6]; rfl) (by show blockOf (f 7) = _; rw [e7, h]; rfl)
          clear hA hF hR
          simp only [setAll, putAll, List.map_cons, List.map_nil, List.foldr_cons, List.foldr_nil, Act.put, List.setIfInBounds_toArray, List.set_cons_zero, List.set_cons_succ, e2, e5, e6, e7]
          clear e2 e5 e6 e7
          have hBs := hB1
          replace hB1 := below_setRow hB1 n6 (El_cells E7)
          refine wpAnyZ_store_row 8 rfl (by kernel_rfl) rfl _ _ _ rfl g6r5 (El_cells E7) rfl rfl _ _ A6 (info_El _) rfl (El_one _) (hS.below hB1) ?_
          try simp only [Act.put, List.setIfInBounds_toArray, List.set_cons_zero, List.set_cons_succ]
          replace A7 := A7.rowFar (Ne.symm d6_7) (El_cells E7)
          replace A6 := A6.row (El_cells E7)
          replace hB1 := below_setRow hB1 n7 (El_cells E8)
          refine wpAnyZ_store_row 9 rfl (by kernel_rfl) rfl _ _ _ rfl g7r5 (El_cells E8) rfl rfl _ _ A7 (info_El _) rfl (El_one _) (hS.below hB1) ?_
          try simp only [Act.put, List.setIfInBounds_toArray, List.set_cons_zero, List.set_cons_succ]
          replace A6 := A6.rowFar d6_7 (El_cells E8)
          replace A7 := A7.row (El_cells E8)
          refine wpAnyZ_done (by kernel_rfl) ?_ _
          replace K3 := K3.below' hB1
          replace K4 := K4.below' hB1
          have hS3 := hS.below hB1
          replace hB := hB.trans (hB1.mono hB.size)
          clear hS hS2 hB1 hBs
          have hS : Facts [.blk (g6r5) 46 (El_cells E7), .blk (g7r5) 46 (El_cells E8), .blk (G1) 46 (El_cells E6), .blk (g6r3) 46 (El_cells E4), .blk (g7r3) 46 (El_cells E5), .blk (g10r2) 46 (El_cells E2), .blk (g11r2) 46 (El_cells E3), .blk (g10r1) 46 (El_cells E0), .blk (g11r1) 46 (El_cells E1), .blk (w.heap.size) 46 (El_cells X), .blk (w.heap.size + 1) 50 (Rt PA PB), .blk (w.heap.size + 1 + 1) 50 (Rt QA QB)] _ := Facts.cons (f := .blk g6r5 46 (El_cells E7)) A6 (Facts.cons (f := .blk g7r5 46 (El_cells E8)) A7 (hS3))
          clear hS3
          try clear n6 n7
          clear A6 A7
          generalize hWn : World.setRow _ _ _ = Wn at *
          clear hWn
          go_upto_region 6 with fail
          replace hS := hS.drew
          replace hB := below_drew hB
          replace K3 := K3.drew
          replace K4 := K4.drew
          refine wp_region_Z (S := Facts [.blk (g6r5) 46 (El_cells E7), .blk (g7r5) 46 (El_cells E8), .blk (G1) 46 (El_cells E6), .blk (g6r3) 46 (El_cells E4), .blk (g7r3) 46 (El_cells E5), .blk (g10r2) 46 (El_cells E2), .blk (g11r2) 46 (El_cells E3), .blk (g10r1) 46 (El_cells E0), .blk (g11r1) 46 (El_cells E1), .blk (w.heap.size) 46 (El_cells X), .blk (w.heap.size + 1) 50 (Rt PA PB), .blk (w.heap.size + 1 + 1) 50 (Rt QA QB)]) 9 (by kernel_rfl) ?_
          refine wpAnyZ_takeL 0 rfl (by kernel_rfl) (by kernel_rfl) (by kernel_rfl) (by kernel_rfl) (by kernel_rfl) (fun _ _ _ h => h) (show YieldsIf _ _ _ _ (El E7) _ from yieldsIf_load rfl 46 _ rfl (g6r5) rfl 46 _ _ (.head _) Try.underlying46 rfl (info_El _)) hS ?_
          simp only [Act.put, List.setIfInBounds_toArray, List.set_cons_zero, List.set_cons_succ]
          refine wpAnyZ_takeL 1 rfl (by kernel_rfl) (by kernel_rfl) (by kernel_rfl) (by kernel_rfl) (by kernel_rfl) (fun _ _ _ h => h) (show YieldsIf _ _ _ _ (El E8) _ from yieldsIf_load rfl 46 _ rfl (g7r5) rfl 46 _ _ (.tail _ (.head _)) Try.underlying46 rfl (info_El _)) hS ?_
          simp only [Act.put, List.setIfInBounds_toArray, List.set_cons_zero, List.set_cons_succ]
          refine wpAnyZ_takeL 3 rfl (by kernel_rfl) (by kernel_rfl) (by kernel_rfl) (by kernel_rfl) (by kernel_rfl) (fun _ _ _ h => h) (show YieldsIf _ _ _ _ (El E7) _ from yieldsIf_load rfl 46 _ rfl (g6r5) rfl 46 _ _ (.head _) Try.underlying46 rfl (info_El _)) hS ?_
          simp only [Act.put, List.setIfInBounds_toArray, List.set_cons_zero, List.set_cons_succ]
          refine wpAnyZ_takeL 4 rfl (by kernel_rfl) (by kernel_rfl) (by kernel_rfl) (by kernel_rfl) (by kernel_rfl) (fun _ _ _ h => h) (show YieldsIf _ _ _ _ (El E8) _ from yieldsIf_load rfl 46 _ rfl (g7r5) rfl 46 _ _ (.tail _ (.head _)) Try.underlying46 rfl (info_El _)) hS ?_
          simp only [Act.put, List.setIfInBounds_toArray, List.set_cons_zero, List.set_cons_succ]
          refine wpAnyZ_jobsL [(⟨2, 56⟩, .is (El E9)), (⟨5, 59⟩, .is (El E10)), (⟨6, 17⟩, .rel (fun v w' => ∃ g, v = .pointer (some ⟨g, 0, none⟩) ∧ Blk w' g 46 (El_cells 0))), (⟨7, 18⟩, .rel (fun v w' => ∃ g, v = .pointer (some ⟨g, 0, none⟩) ∧ Blk w' g 46 (El_cells 0)))] [] 2 _ _ _ (by kernel_rfl) (fun _ _ _ _ _ h => h) ?_ (fun _ _ _ _ _ h => h) (fun _ _ h hb => h.below hb) hS ?_ ?_ ?_
          · exact fun _ _ h => by cases h
          · intro j hj
            simp only [List.map_cons, List.map_nil, List.mem_cons, List.not_mem_nil, or_false] at hj
            rcases hj with rfl | rfl | rfl | rfl
            · exact fun _ _ _ h _ => h
            · exact fun _ _ _ h _ => h
            · intro v w1 w2 h hb
              obtain ⟨g, e, H⟩ : ∃ g, v = .pointer (some ⟨g, 0, none⟩) ∧ Blk w1 g 46 (El_cells 0) := h
              exact ⟨g, e, H.below' hb⟩
            · intro v w1 w2 h hb
              obtain ⟨g, e, H⟩ : ∃ g, v = .pointer (some ⟨g, 0, none⟩) ∧ Blk w1 g 46 (El_cells 0) := h
              exact ⟨g, e, H.below' hb⟩
          · intro j hj
            simp only [List.map_cons, List.map_nil, List.mem_cons, List.not_mem_nil, or_false] at hj
            rcases hj with rfl | rfl | rfl | rfl
            · refine job_frame [] (by kernel_rfl) ?_
              show JobAt _ _ _ _ _ _ _
              simp only [putAll, List.foldr_nil]
              intro W K hS' hK
              unfold wpOp
              go_simp
              left
              refine (add_v E7 E8 E9 _ lE7 lE8 HE9.out).mono ?_
              rintro e v ⟨rfl, b⟩
              exact hK _ _ rfl b (fun g hg => ((block_agg _) g hg).elim)
            · refine job_frame [] (by kernel_rfl) ?_
              show JobAt _ _ _ _ _ _ _
              simp only [putAll, List.foldr_nil]
              intro W K hS' hK
              unfold wpOp
              go_simp
              left
              refine (sub_v E7 E8 E10 _ lE7 lE8 HE10.out).mono ?_
              rintro e v ⟨rfl, b⟩
              exact hK _ _ rfl b (fun g hg => ((block_agg _) g hg).elim)
            · refine job_frame [] (by kernel_rfl) ?_
              show JobAt _ _ _ _ _ _ _
              exact job_alloc 46 (El_cells 0) _ _ rfl rfl rfl (fun W => by go_simp; rfl)
            · refine job_frame [] (by kernel_rfl) ?_
              show JobAt _ _ _ _ _ _ _
              exact job_alloc 46 (El_cells 0) _ _ rfl rfl rfl (fun W => by go_simp; rfl)
          · intro f W hS2 hB1 hR hF hA
            have e2 : f 2 = (El E9) := hR ⟨2, 56⟩ (by simp)
            have e5 : f 5 = (El E10) := hR ⟨5, 59⟩ (by simp)
            obtain ⟨g6r6, e6, A6⟩ : ∃ g, f 6 = .pointer (some ⟨g, 0, none⟩) ∧ Blk W g 46 (El_cells 0) := hR ⟨6, 17⟩ (by simp)
            have n6 : _ ≤ g6r6 := (hF ⟨6, 17⟩ (by simp) g6r6 (by show blockOf (f 6) = _; rw [e6]; rfl)).1
            obtain ⟨g7r6, e7, A7⟩ : ∃ g, f 7 = .pointer (some ⟨g, 0, none⟩) ∧ Blk W g 46 (El_cells 0) := hR ⟨7, 18⟩ (by simp)
            have n7 : _ ≤ g7r6 := (hF ⟨7, 18⟩ (by simp) g7r6 (by show blockOf (f 7) = _; rw [e7]; rfl)).1
            have d6_7 : g6r6 ≠ g7r6 := fun h => hA ⟨6, 17⟩ (by simp) ⟨7, 18⟩ (by simp) (by decide) g6r6 (by show blockOf (f 6) = _; rw [e6]; rfl) (by show blockOf (f 7) = _; rw [e7, h]; rfl)
            clear hA hF hR
            simp only [setAll, putAll, List.map_cons, List.map_nil, List.foldr_cons, List.foldr_nil, Act.put, List.setIfInBounds_toArray, List.set_cons_zero, List.set_cons_succ, e2, e5, e6, e7]
            clear e2 e5 e6 e7
            have hBs := hB1
            replace hB1 := below_setRow hB1 n6 (El_cells E9)
            refine wpAnyZ_store_row 8 rfl (by kernel_rfl) rfl _ _ _ rfl g6r6 (El_cells E9) rfl rfl _ _ A6 (info_El _) rfl (El_one _) (hS.below hB1) ?_
            try simp only [Act.put, List.setIfInBounds_toArray, List.set_cons_zero, List.set_cons_succ]
            replace A7 := A7.rowFar (Ne.symm d6_7) (El_cells E9)
            replace A6 := A6.row (El_cells E9)
            replace hB1 := below_setRow hB1 n7 (El_cells E10)
            refine wpAnyZ_store_row 9 rfl (by kernel_rfl) rfl _ _ _ rfl g7r6 (El_cells E10) rfl rfl _ _ A7 (info_El _) rfl (El_one _) (hS.below hB1) ?_
            try simp only [Act.put, List.setIfInBounds_toArray, List.set_cons_zero, List.set_cons_succ]
            replace A6 := A6.rowFar d6_7 (El_cells E10)
            replace A7 := A7.row (El_cells E10)
            refine wpAnyZ_done (by kernel_rfl) ?_ _
            replace K3 := K3.below' hB1
            replace K4 := K4.below' hB1
            have hS3 := hS.below hB1
            replace hB := hB.trans (hB1.mono hB.size)
            clear hS hS2 hB1 hBs
            have hS : Facts [.blk (g6r6) 46 (El_cells E9), .blk (g7r6) 46 (El_cells E10), .blk (g6r5) 46 (El_cells E7), .blk (g7r5) 46 (El_cells E8), .blk (G1) 46 (El_cells E6), .blk (g6r3) 46 (El_cells E4), .blk (g7r3) 46 (El_cells E5), .blk (g10r2) 46 (El_cells E2), .blk (g11r2) 46 (El_cells E3), .blk (g10r1) 46 (El_cells E0), .blk (g11r1) 46 (El_cells E1), .blk (w.heap.size) 46 (El_cells X), .blk (w.heap.size + 1) 50 (Rt PA PB), .blk (w.heap.size + 1 + 1) 50 (Rt QA QB)] _ := Facts.cons (f := .blk g6r6 46 (El_cells E9)) A6 (Facts.cons (f := .blk g7r6 46 (El_cells E10)) A7 (hS3))
            clear hS3
            try clear n6 n7
            clear A6 A7
            generalize hWn : World.setRow _ _ _ = Wn at *
            clear hWn
            go_upto_region 7 with fail
            replace hS := hS.drew
            replace hB := below_drew hB
            replace K3 := K3.drew
            replace K4 := K4.drew
            refine wp_region_Z (S := Facts [.blk (g6r6) 46 (El_cells E9), .blk (g7r6) 46 (El_cells E10), .blk (g6r5) 46 (El_cells E7), .blk (g7r5) 46 (El_cells E8), .blk (G1) 46 (El_cells E6), .blk (g6r3) 46 (El_cells E4), .blk (g7r3) 46 (El_cells E5), .blk (g10r2) 46 (El_cells E2), .blk (g11r2) 46 (El_cells E3), .blk (g10r1) 46 (El_cells E0), .blk (g11r1) 46 (El_cells E1), .blk (w.heap.size) 46 (El_cells X), .blk (w.heap.size + 1) 50 (Rt PA PB), .blk (w.heap.size + 1 + 1) 50 (Rt QA QB)]) 11 (by kernel_rfl) ?_
            refine wpAnyZ_takeL 0 rfl (by kernel_rfl) (by kernel_rfl) (by kernel_rfl) (by kernel_rfl) (by kernel_rfl) (fun _ _ _ h => h) (show YieldsIf _ _ _ _ (El E4) _ from yieldsIf_load rfl 46 _ rfl (g6r3) rfl 46 _ _ (.tail _ (.tail _ (.tail _ (.tail _ (.tail _ (.head _)))))) Try.underlying46 rfl (info_El _)) hS ?_
            simp only [Act.put, List.setIfInBounds_toArray, List.set_cons_zero, List.set_cons_succ]
            refine wpAnyZ_takeL 1 rfl (by kernel_rfl) (by kernel_rfl) (by kernel_rfl) (by kernel_rfl) (by kernel_rfl) (fun _ _ _ h => h) (show YieldsIf _ _ _ _ (El E5) _ from yieldsIf_load rfl 46 _ rfl (g7r3) rfl 46 _ _ (.tail _ (.tail _ (.tail _ (.tail _ (.tail _ (.tail _ (.head _))))))) Try.underlying46 rfl (info_El _)) hS ?_
            simp only [Act.put, List.setIfInBounds_toArray, List.set_cons_zero, List.set_cons_succ]
            refine wpAnyZ_takeL 3 rfl (by kernel_rfl) (by kernel_rfl) (by kernel_rfl) (by kernel_rfl) (by kernel_rfl) (fun _ _ _ h => h) (show YieldsIf _ _ _ _ (El E6) _ from yieldsIf_load rfl 46 _ rfl (G1) rfl 46 _ _ (.tail _ (.tail _ (.tail _ (.tail _ (.head _))))) Try.underlying46 rfl (info_El _)) hS ?_
            simp only [Act.put, List.setIfInBounds_toArray, List.set_cons_zero, List.set_cons_succ]
            refine wpAnyZ_takeL 4 rfl (by kernel_rfl) (by kernel_rfl) (by kernel_rfl) (by kernel_rfl) (by kernel_rfl) (fun _ _ _ h => h) (show YieldsIf _ _ _ _ (El E4) _ from yieldsIf_load rfl 46 _ rfl (g6r3) rfl 46 _ _ (.tail _ (.tail _ (.tail _ (.tail _ (.tail _ (.head _)))))) Try.underlying46 rfl (info_El _)) hS ?_
            simp only [Act.put, List.setIfInBounds_toArray, List.set_cons_zero, List.set_cons_succ]
            refine wpAnyZ_takeL 6 rfl (by kernel_rfl) (by kernel_rfl) (by kernel_rfl) (by kernel_rfl) (by kernel_rfl) (fun _ _ _ h => h) (show YieldsIf _ _ _ _ (El E6) _ from yieldsIf_load rfl 46 _ rfl (G1) rfl 46 _ _ (.tail _ (.tail _ (.tail _ (.tail _ (.head _))))) Try.underlying46 rfl (info_El _)) hS ?_
            simp only [Act.put, List.setIfInBounds_toArray, List.set_cons_zero, List.set_cons_succ]
            refine wpAnyZ_one (i := 2) (by kernel_rfl) ?_
            unfold wpOp
            go_simp
            left
            refine (mul_v E4 E5 E11 _ lE4 lE5 HE11.out).mono ?_
            rintro e v2 ⟨rfl, b⟩
            replace hB := hB.trans (b.mono hB.size)
            replace hS := hS.below b
            replace K3 := K3.below' b
            replace K4 := K4.below' b
            clear b
            refine ⟨hS, ?_⟩
            refine wpAnyZ_one (i := 5) (by kernel_rfl) ?_
            unfold wpOp
            go_simp
            left
            refine (small_v 121665 E12 _ (by decide) HE12.out).mono ?_
            rintro e v3 ⟨rfl, b⟩
            replace hB := hB.trans (b.mono hB.size)
            replace hS := hS.below b
            replace K3 := K3.below' b
            replace K4 := K4.below' b
            clear b
            refine ⟨hS, ?_⟩
            refine wpAnyZ_one (i := 7) (by kernel_rfl) ?_
            unfold wpOp
            go_simp
            left
            refine (mul_v E12 E6 E13 _ lE12 lE6 HE13.out).mono ?_
            rintro e v4 ⟨rfl, b⟩
            replace hB := hB.trans (b.mono hB.size)
            replace hS := hS.below b
            replace K3 := K3.below' b
            replace K4 := K4.below' b
            clear b
            refine ⟨hS, ?_⟩
            refine wpAnyZ_one (i := 8) (by kernel_rfl) ?_
            unfold wpOp
            go_simp
            left
            refine (add_v E4 E13 E14 _ lE4 lE13 HE14.out).mono ?_
            rintro e v5 ⟨rfl, b⟩
            replace hB := hB.trans (b.mono hB.size)
            replace hS := hS.below b
            replace K3 := K3.below' b
            replace K4 := K4.below' b
            clear b
            refine ⟨hS, ?_⟩
            refine wpAnyZ_one (i := 9) (by kernel_rfl) ?_
            unfold wpOp
            go_simp
            left
            refine (mul_v E6 E14 E15 _ lE6 lE14 HE15.out).mono ?_
            rintro e v6 ⟨rfl, b⟩
            replace hB := hB.trans (b.mono hB.size)
            replace hS := hS.below b
            replace K3 := K3.below' b
            replace K4 := K4.below' b
            clear b
            refine ⟨hS, ?_⟩
            refine wpAnyZ_takeL 10 rfl (by kernel_rfl) (by kernel_rfl) (by kernel_rfl) (by kernel_rfl) (by kernel_rfl) (fun _ _ _ h => h) (yieldsIf_rt rfl _ _ rfl E11 E15 rfl rfl) hS ?_
            simp only [Act.put, List.setIfInBounds_toArray, List.set_cons_zero, List.set_cons_succ]
            refine wpAnyZ_store_last 11 rfl (by kernel_rfl) rfl _ _ _ rfl (w.heap.size + 1 + 1 + 1) (Rt E11 E15) rfl rfl _ _ K3 (info_Rt _ _) rfl (Rt_one _ _) (by kernel_rfl) ?_
            try simp only [Act.put, List.setIfInBounds_toArray, List.set_cons_zero, List.set_cons_succ]
            replace hB := below_setRow hB (g := w.heap.size + 1 + 1 + 1) (by omega) (Rt E11 E15)
            replace hS : Facts [.blk (g6r6) 46 (El_cells E9), .blk (g7r6) 46 (El_cells E10), .blk (g6r5) 46 (El_cells E7), .blk (g7r5) 46 (El_cells E8), .blk (G1) 46 (El_cells E6), .blk (g6r3) 46 (El_cells E4), .blk (g7r3) 46 (El_cells E5), .blk (g10r2) 46 (El_cells E2), .blk (g11r2) 46 (El_cells E3), .blk (g10r1) 46 (El_cells E0), .blk (g11r1) 46 (El_cells E1), .blk (w.heap.size) 46 (El_cells X), .blk (w.heap.size + 1) 50 (Rt PA PB), .blk (w.heap.size + 1 + 1) 50 (Rt QA QB)] _ := Facts.cons (f := .blk (g6r6) 46 (El_cells E9)) ((hS.blkAt (g6r6) 46 (El_cells E9) (.head _)).rowFar (k := w.heap.size + 1 + 1 + 1) (blk_ne (hS.blkAt (g6r6) 46 (El_cells E9) (.head _)) K3 (by decide)) (Rt E11 E15)) (Facts.cons (f := .blk (g7r6) 46 (El_cells E10)) ((hS.blkAt (g7r6) 46 (El_cells E10) (.tail _ (.head _))).rowFar (k := w.heap.size + 1 + 1 + 1) (blk_ne (hS.blkAt (g7r6) 46 (El_cells E10) (.tail _ (.head _))) K3 (by decide)) (Rt E11 E15)) (Facts.cons (f := .blk (g6r5) 46 (El_cells E7)) ((hS.blkAt (g6r5) 46 (El_cells E7) (.tail _ (.tail _ (.head _)))).rowFar (k := w.heap.size + 1 + 1 + 1) (blk_ne (hS.blkAt (g6r5) 46 (El_cells E7) (.tail _ (.tail _ (.head _)))) K3 (by decide)) (Rt E11 E15)) (Facts.cons (f := .blk (g7r5) 46 (El_cells E8)) ((hS.blkAt (g7r5) 46 (El_cells E8) (.tail _ (.tail _ (.tail _ (.head _))))).rowFar (k := w.heap.size + 1 + 1 + 1) (blk_ne (hS.blkAt (g7r5) 46 (El_cells E8) (.tail _ (.tail _ (.tail _ (.head _))))) K3 (by decide)) (Rt E11 E15)) (Facts.cons (f := .blk (G1) 46 (El_cells E6)) ((hS.blkAt (G1) 46 (El_cells E6) (.tail _ (.tail _ (.tail _ (.tail _ (.head _)))))).rowFar (k := w.heap.size + 1 + 1 + 1) (blk_ne (hS.blkAt (G1) 46 (El_cells E6) (.tail _ (.tail _ (.tail _ (.tail _ (.head _)))))) K3 (by decide)) (Rt E11 E15)) (Facts.cons (f := .blk (g6r3) 46 (El_cells E4)) ((hS.blkAt (g6r3) 46 (El_cells E4) (.tail _ (.tail _ (.tail _ (.tail _ (.tail _ (.head _))))))).rowFar (k := w.heap.size + 1 + 1 + 1) (blk_ne (hS.blkAt (g6r3) 46 (El_cells E4) (.tail _ (.tail _ (.tail _ (.tail _ (.tail _ (.head _))))))) K3 (by decide)) (Rt E11 E15)) (Facts.cons (f := .blk (g7r3) 46 (El_cells E5)) ((hS.blkAt (g7r3) 46 (El_cells E5) (.tail _ (.tail _ (.tail _ (.tail _ (.tail _ (.tail _ (.head _)))))))).rowFar (k := w.heap.size + 1 + 1 + 1) (blk_ne (hS.blkAt (g7r3) 46 (El_cells E5) (.tail _ (.tail _ (.tail _ (.tail _ (.tail _ (.tail _ (.head _)))))))) K3 (by decide)) (Rt E11 E15)) (Facts.cons (f := .blk (g10r2) 46 (El_cells E2)) ((hS.blkAt (g10r2) 46 (El_cells E2) (.tail _ (.tail _ (.tail _ (.tail _ (.tail _ (.tail _ (.tail _ (.head _))))))))).rowFar (k := w.heap.size + 1 + 1 + 1) (blk_ne (hS.blkAt (g10r2) 46 (El_cells E2) (.tail _ (.tail _ (.tail _ (.tail _ (.tail _ (.tail _ (.tail _ (.head _))))))))) K3 (by decide)) (Rt E11 E15)) (Facts.cons (f := .blk (g11r2) 46 (El_cells E3)) ((hS.blkAt (g11r2) 46 (El_cells E3) (.tail _ (.tail _ (.tail _ (.tail _ (.tail _ (.tail _ (.tail _ (.tail _ (.head _)))))))))).rowFar (k := w.heap.size + 1 + 1 + 1) (blk_ne (hS.blkAt (g11r2) 46 (El_cells E3) (.tail _ (.tail _ (.tail _ (.tail _ (.tail _ (.tail _ (.tail _ (.tail _ (.head _)))))))))) K3 (by decide)) (Rt E11 E15)) (Facts.cons (f := .blk (g10r1) 46 (El_cells E0)) ((hS.blkAt (g10r1) 46 (El_cells E0) (.tail _ (.tail _ (.tail _ (.tail _ (.tail _ (.tail _ (.tail _ (.tail _ (.tail _ (.head _))))))))))).rowFar (k := w.heap.size + 1 + 1 + 1) (blk_ne (hS.blkAt (g10r1) 46 (El_cells E0) (.tail _ (.tail _ (.tail _ (.tail _ (.tail _ (.tail _ (.tail _ (.tail _ (.tail _ (.head _))))))))))) K3 (by decide)) (Rt E11 E15)) (Facts.cons (f := .blk (g11r1) 46 (El_cells E1)) ((hS.blkAt (g11r1) 46 (El_cells E1) (.tail _ (.tail _ (.tail _ (.tail _ (.tail _ (.tail _ (.tail _ (.tail _ (.tail _ (.tail _ (.head _)))))))))))).rowFar (k := w.heap.size + 1 + 1 + 1) (blk_ne (hS.blkAt (g11r1) 46 (El_cells E1) (.tail _ (.tail _ (.tail _ (.tail _ (.tail _ (.tail _ (.tail _ (.tail _ (.tail _ (.tail _ (.head _)))))))))))) K3 (by decide)) (Rt E11 E15)) (Facts.cons (f := .blk (w.heap.size) 46 (El_cells X)) ((hS.blkAt (w.heap.size) 46 (El_cells X) (.tail _ (.tail _ (.tail _ (.tail _ (.tail _ (.tail _ (.tail _ (.tail _ (.tail _ (.tail _ (.tail _ (.head _))))))))))))).rowFar (k := w.heap.size + 1 + 1 + 1) (blk_ne (hS.blkAt (w.heap.size) 46 (El_cells X) (.tail _ (.tail _ (.tail _ (.tail _ (.tail _ (.tail _ (.tail _ (.tail _ (.tail _ (.tail _ (.tail _ (.head _))))))))))))) K3 (by decide)) (Rt E11 E15)) (Facts.cons (f := .blk (w.heap.size + 1) 50 (Rt PA PB)) ((hS.blkAt (w.heap.size + 1) 50 (Rt PA PB) (.tail _ (.tail _ (.tail _ (.tail _ (.tail _ (.tail _ (.tail _ (.tail _ (.tail _ (.tail _ (.tail _ (.tail _ (.head _)))))))))))))).rowFar (k := w.heap.size + 1 + 1 + 1) (by omega) (Rt E11 E15)) (Facts.cons (f := .blk (w.heap.size + 1 + 1) 50 (Rt QA QB)) ((hS.blkAt (w.heap.size + 1 + 1) 50 (Rt QA QB) (.tail _ (.tail _ (.tail _ (.tail _ (.tail _ (.tail _ (.tail _ (.tail _ (.tail _ (.tail _ (.tail _ (.tail _ (.tail _ (.head _))))))))))))))).rowFar (k := w.heap.size + 1 + 1 + 1) (by omega) (Rt E11 E15)) (Facts.nil))))))))))))))
            replace K3 := K3.row (Rt E11 E15)
            replace K4 := K4.rowFar (k := w.heap.size + 1 + 1 + 1) (by omega) (Rt E11 E15)
            generalize hWn : World.setRow _ _ _ = Wn at *
            clear hWn
            refine wpAnyZ_done (by kernel_rfl) ?_ _
            go_upto_region 8 with fail
            replace hS := hS.drew
            replace hB := below_drew hB
            replace K3 := K3.drew
            replace K4 := K4.drew
            refine wp_region_Z (S := Facts [.blk (g6r6) 46 (El_cells E9), .blk (g7r6) 46 (El_cells E10), .blk (g6r5) 46 (El_cells E7), .blk (g7r5) 46 (El_cells E8), .blk (G1) 46 (El_cells E6), .blk (g6r3) 46 (El_cells E4), .blk (g7r3) 46 (El_cells E5), .blk (g10r2) 46 (El_cells E2), .blk (g11r2) 46 (El_cells E3), .blk (g10r1) 46 (El_cells E0), .blk (g11r1) 46 (El_cells E1), .blk (w.heap.size) 46 (El_cells X), .blk (w.heap.size + 1) 50 (Rt PA PB), .blk (w.heap.size + 1 + 1) 50 (Rt QA QB)]) 9 (by kernel_rfl) ?_
            refine wpAnyZ_takeL 0 rfl (by kernel_rfl) (by kernel_rfl) (by kernel_rfl) (by kernel_rfl) (by kernel_rfl) (fun _ _ _ h => h) (show YieldsIf _ _ _ _ (El E9) _ from yieldsIf_load rfl 46 _ rfl (g6r6) rfl 46 _ _ (.head _) Try.underlying46 rfl (info_El _)) hS ?_
            simp only [Act.put, List.setIfInBounds_toArray, List.set_cons_zero, List.set_cons_succ]
            refine wpAnyZ_takeL 1 rfl (by kernel_rfl) (by kernel_rfl) (by kernel_rfl) (by kernel_rfl) (by kernel_rfl) (fun _ _ _ h => h) (show YieldsIf _ _ _ _ (El E9) _ from yieldsIf_load rfl 46 _ rfl (g6r6) rfl 46 _ _ (.head _) Try.underlying46 rfl (info_El _)) hS ?_
            simp only [Act.put, List.setIfInBounds_toArray, List.set_cons_zero, List.set_cons_succ]
            refine wpAnyZ_takeL 3 rfl (by kernel_rfl) (by kernel_rfl) (by kernel_rfl) (by kernel_rfl) (by kernel_rfl) (fun _ _ _ h => h) (show YieldsIf _ _ _ _ (El X) _ from yieldsIf_load rfl 46 _ rfl (w.heap.size) rfl 46 _ _ (.tail _ (.tail _ (.tail _ (.tail _ (.tail _ (.tail _ (.tail _ (.tail _ (.tail _ (.tail _ (.tail _ (.head _)))))))))))) Try.underlying46 rfl (info_El _)) hS ?_
            simp only [Act.put, List.setIfInBounds_toArray, List.set_cons_zero, List.set_cons_succ]
            refine wpAnyZ_takeL 4 rfl (by kernel_rfl) (by kernel_rfl) (by kernel_rfl) (by kernel_rfl) (by kernel_rfl) (fun _ _ _ h => h) (show YieldsIf _ _ _ _ (El E10) _ from yieldsIf_load rfl 46 _ rfl (g7r6) rfl 46 _ _ (.tail _ (.head _)) Try.underlying46 rfl (info_El _)) hS ?_
            simp only [Act.put, List.setIfInBounds_toArray, List.set_cons_zero, List.set_cons_succ]
            refine wpAnyZ_takeL 5 rfl (by kernel_rfl) (by kernel_rfl) (by kernel_rfl) (by kernel_rfl) (by kernel_rfl) (fun _ _ _ h => h) (show YieldsIf _ _ _ _ (El E10) _ from yieldsIf_load rfl 46 _ rfl (g7r6) rfl 46 _ _ (.tail _ (.head _)) Try.underlying46 rfl (info_El _)) hS ?_
            simp only [Act.put, List.setIfInBounds_toArray, List.set_cons_zero, List.set_cons_succ]
            refine wpAnyZ_one (i := 2) (by kernel_rfl) ?_
            unfold wpOp
            go_simp
            left
            refine (mul_v E9 E9 E16 _ lE9 lE9 HE16.out).mono ?_
            rintro e v7 ⟨rfl, b⟩
            replace hB := hB.trans (b.mono hB.size)
            replace hS := hS.below b
            replace K3 := K3.below' b
            replace K4 := K4.below' b
            clear b
            refine ⟨hS, ?_⟩
            refine wpAnyZ_one (i := 6) (by kernel_rfl) ?_
            unfold wpOp
            go_simp
            left
            refine (mul_v E10 E10 E17 _ lE10 lE10 HE17.out).mono ?_
            rintro e v8 ⟨rfl, b⟩
            replace hB := hB.trans (b.mono hB.size)
            replace hS := hS.below b
            replace K3 := K3.below' b
            replace K4 := K4.below' b
            clear b
            refine ⟨hS, ?_⟩
            refine wpAnyZ_one (i := 7) (by kernel_rfl) ?_
            unfold wpOp
            go_simp
            left
            refine (mul_v X E17 E18 _ lX lE17 HE18.out).mono ?_
            rintro e v9 ⟨rfl, b⟩
            replace hB := hB.trans (b.mono hB.size)
            replace hS := hS.below b
            replace K3 := K3.below' b
            replace K4 := K4.below' b
            clear b
            refine ⟨hS, ?_⟩
            refine wpAnyZ_takeL 8 rfl (by kernel_rfl) (by kernel_rfl) (by kernel_rfl) (by kernel_rfl) (by kernel_rfl) (fun _ _ _ h => h) (yieldsIf_rt rfl _ _ rfl E16 E18 rfl rfl) hS ?_
            simp only [Act.put, List.setIfInBounds_toArray, List.set_cons_zero, List.set_cons_succ]
            refine wpAnyZ_store_last 9 rfl (by kernel_rfl) rfl _ _ _ rfl (w.heap.size + 1 + 1 + 1 + 1) (Rt E16 E18) rfl rfl _ _ K4 (info_Rt _ _) rfl (Rt_one _ _) (by kernel_rfl) ?_
            try simp only [Act.put, List.setIfInBounds_toArray, List.set_cons_zero, List.set_cons_succ]
            replace hB := below_setRow hB (g := w.heap.size + 1 + 1 + 1 + 1) (by omega) (Rt E16 E18)
            replace hS : Facts [.blk (g6r6) 46 (El_cells E9), .blk (g7r6) 46 (El_cells E10), .blk (g6r5) 46 (El_cells E7), .blk (g7r5) 46 (El_cells E8), .blk (G1) 46 (El_cells E6), .blk (g6r3) 46 (El_cells E4), .blk (g7r3) 46 (El_cells E5), .blk (g10r2) 46 (El_cells E2), .blk (g11r2) 46 (El_cells E3), .blk (g10r1) 46 (El_cells E0), .blk (g11r1) 46 (El_cells E1), .blk (w.heap.size) 46 (El_cells X), .blk (w.heap.size + 1) 50 (Rt PA PB), .blk (w.heap.size + 1 + 1) 50 (Rt QA QB)] _ := Facts.cons (f := .blk (g6r6) 46 (El_cells E9)) ((hS.blkAt (g6r6) 46 (El_cells E9) (.head _)).rowFar (k := w.heap.size + 1 + 1 + 1 + 1) (blk_ne (hS.blkAt (g6r6) 46 (El_cells E9) (.head _)) K4 (by decide)) (Rt E16 E18)) (Facts.cons (f := .blk (g7r6) 46 (El_cells E10)) ((hS.blkAt (g7r6) 46 (El_cells E10) (.tail _ (.head _))).rowFar (k := w.heap.size + 1 + 1 + 1 + 1) (blk_ne (hS.blkAt (g7r6) 46 (El_cells E10) (.tail _ (.head _))) K4 (by decide)) (Rt E16 E18)) (Facts.cons (f := .blk (g6r5) 46 (El_cells E7)) ((hS.blkAt (g6r5) 46 (El_cells E7) (.tail _ (.tail _ (.head _)))).rowFar (k := w.heap.size + 1 + 1 + 1 + 1) (blk_ne (hS.blkAt (g6r5) 46 (El_cells E7) (.tail _ (.tail _ (.head _)))) K4 (by decide)) (Rt E16 E18)) (Facts.cons (f := .blk (g7r5) 46 (El_cells E8)) ((hS.blkAt (g7r5) 46 (El_cells E8) (.tail _ (.tail _ (.tail _ (.head _))))).rowFar (k := w.heap.size + 1 + 1 + 1 + 1) (blk_ne (hS.blkAt (g7r5) 46 (El_cells E8) (.tail _ (.tail _ (.tail _ (.head _))))) K4 (by decide)) (Rt E16 E18)) (Facts.cons (f := .blk (G1) 46 (El_cells E6)) ((hS.blkAt (G1) 46 (El_cells E6) (.tail _ (.tail _ (.tail _ (.tail _ (.head _)))))).rowFar (k := w.heap.size + 1 + 1 + 1 + 1) (blk_ne (hS.blkAt (G1) 46 (El_cells E6) (.tail _ (.tail _ (.tail _ (.tail _ (.head _)))))) K4 (by decide)) (Rt E16 E18)) (Facts.cons (f := .blk (g6r3) 46 (El_cells E4)) ((hS.blkAt (g6r3) 46 (El_cells E4) (.tail _ (.tail _ (.tail _ (.tail _ (.tail _ (.head _))))))).rowFar (k := w.heap.size + 1 + 1 + 1 + 1) (blk_ne (hS.blkAt (g6r3) 46 (El_cells E4) (.tail _ (.tail _ (.tail _ (.tail _ (.tail _ (.head _))))))) K4 (by decide)) (Rt E16 E18)) (Facts.cons (f := .blk (g7r3) 46 (El_cells E5)) ((hS.blkAt (g7r3) 46 (El_cells E5) (.tail _ (.tail _ (.tail _ (.tail _ (.tail _ (.tail _ (.head _)))))))).rowFar (k := w.heap.size + 1 + 1 + 1 + 1) (blk_ne (hS.blkAt (g7r3) 46 (El_cells E5) (.tail _ (.tail _ (.tail _ (.tail _ (.tail _ (.tail _ (.head _)))))))) K4 (by decide)) (Rt E16 E18)) (Facts.cons (f := .blk (g10r2) 46 (El_cells E2)) ((hS.blkAt (g10r2) 46 (El_cells E2) (.tail _ (.tail _ (.tail _ (.tail _ (.tail _ (.tail _ (.tail _ (.head _))))))))).rowFar (k := w.heap.size + 1 + 1 + 1 + 1) (blk_ne (hS.blkAt (g10r2) 46 (El_cells E2) (.tail _ (.tail _ (.tail _ (.tail _ (.tail _ (.tail _ (.tail _ (.head _))))))))) K4 (by decide)) (Rt E16 E18)) (Facts.cons (f := .blk (g11r2) 46 (El_cells E3)) ((hS.blkAt (g11r2) 46 (El_cells E3) (.tail _ (.tail _ (.tail _ (.tail _ (.tail _ (.tail _ (.tail _ (.tail _ (.head _)))))))))).rowFar (k := w.heap.size + 1 + 1 + 1 + 1) (blk_ne (hS.blkAt (g11r2) 46 (El_cells E3) (.tail _ (.tail _ (.tail _ (.tail _ (.tail _ (.tail _ (.tail _ (.tail _ (.head _)))))))))) K4 (by decide)) (Rt E16 E18)) (Facts.cons (f := .blk (g10r1) 46 (El_cells E0)) ((hS.blkAt (g10r1) 46 (El_cells E0) (.tail _ (.tail _ (.tail _ (.tail _ (.tail _ (.tail _ (.tail _ (.tail _ (.tail _ (.head _))))))))))).rowFar (k := w.heap.size + 1 + 1 + 1 + 1) (blk_ne (hS.blkAt (g10r1) 46 (El_cells E0) (.tail _ (.tail _ (.tail _ (.tail _ (.tail _ (.tail _ (.tail _ (.tail _ (.tail _ (.head _))))))))))) K4 (by decide)) (Rt E16 E18)) (Facts.cons (f := .blk (g11r1) 46 (El_cells E1)) ((hS.blkAt (g11r1) 46 (El_cells E1) (.tail _ (.tail _ (.tail _ (.tail _ (.tail _ (.tail _ (.tail _ (.tail _ (.tail _ (.tail _ (.head _)))))))))))).rowFar (k := w.heap.size + 1 + 1 + 1 + 1) (blk_ne (hS.blkAt (g11r1) 46 (El_cells E1) (.tail _ (.tail _ (.tail _ (.tail _ (.tail _ (.tail _ (.tail _ (.tail _ (.tail _ (.tail _ (.head _)))))))))))) K4 (by decide)) (Rt E16 E18)) (Facts.cons (f := .blk (w.heap.size) 46 (El_cells X)) ((hS.blkAt (w.heap.size) 46 (El_cells X) (.tail _ (.tail _ (.tail _ (.tail _ (.tail _ (.tail _ (.tail _ (.tail _ (.tail _ (.tail _ (.tail _ (.head _))))))))))))).rowFar (k := w.heap.size + 1 + 1 + 1 + 1) (blk_ne (hS.blkAt (w.heap.size) 46 (El_cells X) (.tail _ (.tail _ (.tail _ (.tail _ (.tail _ (.tail _ (.tail _ (.tail _ (.tail _ (.tail _ (.tail _ (.head _))))))))))))) K4 (by decide)) (Rt E16 E18)) (Facts.cons (f := .blk (w.heap.size + 1) 50 (Rt PA PB)) ((hS.blkAt (w.heap.size + 1) 50 (Rt PA PB) (.tail _ (.tail _ (.tail _ (.tail _ (.tail _ (.tail _ (.tail _ (.tail _ (.tail _ (.tail _ (.tail _ (.tail _ (.head _)))))))))))))).rowFar (k := w.heap.size + 1 + 1 + 1 + 1) (by omega) (Rt E16 E18)) (Facts.cons (f := .blk (w.heap.size + 1 + 1) 50 (Rt QA QB)) ((hS.blkAt (w.heap.size + 1 + 1) 50 (Rt QA QB) (.tail _ (.tail _ (.tail _ (.tail _ (.tail _ (.tail _ (.tail _ (.tail _ (.tail _ (.tail _ (.tail _ (.tail _ (.tail _ (.head _))))))))))))))).rowFar (k := w.heap.size + 1 + 1 + 1 + 1) (by omega) (Rt E16 E18)) (Facts.nil))))))))))))))
            replace K3 := K3.rowFar (k := w.heap.size + 1 + 1 + 1 + 1) (by omega) (Rt E16 E18)
            replace K4 := K4.row (Rt E16 E18)
            generalize hWn : World.setRow _ _ _ = Wn at *
            clear hWn
            refine wpAnyZ_done (by kernel_rfl) ?_ _
            go_upto_region 9 with fail
            replace hS : Facts [.blk (w.heap.size + 1 + 1 + 1) 50 (Rt E11 E15), .blk (w.heap.size + 1 + 1 + 1 + 1) 50 (Rt E16 E18)] _ := Facts.cons (f := .blk (w.heap.size + 1 + 1 + 1) 50 (Rt E11 E15)) K3 (Facts.cons (f := .blk (w.heap.size + 1 + 1 + 1 + 1) 50 (Rt E16 E18)) K4 Facts.nil)
            clear K3 K4
            replace hS := hS.drew
            replace hB := below_drew hB
            refine wp_region_Z (S := Facts [.blk (w.heap.size + 1 + 1 + 1) 50 (Rt E11 E15), .blk (w.heap.size + 1 + 1 + 1 + 1) 50 (Rt E16 E18)]) 3 (by kernel_rfl) ?_
            refine wpAnyZ_takeL 0 rfl (by kernel_rfl) (by kernel_rfl) (by kernel_rfl) (by kernel_rfl) (by kernel_rfl) (fun _ _ _ h => h) (show YieldsIf _ _ _ _ (RV E11 E15) _ from yieldsIf_load rfl 50 _ rfl (w.heap.size + 1 + 1 + 1) rfl 50 _ _ (.head _) Try.underlying50 rfl (info_Rt _ _)) hS ?_
            simp only [Act.put, List.setIfInBounds_toArray, List.set_cons_zero, List.set_cons_succ]
            refine wpAnyZ_takeL 1 rfl (by kernel_rfl) (by kernel_rfl) (by kernel_rfl) (by kernel_rfl) (by kernel_rfl) (fun _ _ _ h => h) (show YieldsIf _ _ _ _ (RV E16 E18) _ from yieldsIf_load rfl 50 _ rfl (w.heap.size + 1 + 1 + 1 + 1) rfl 50 _ _ (.tail _ (.head _)) Try.underlying50 rfl (info_Rt _ _)) hS ?_
            simp only [Act.put, List.setIfInBounds_toArray, List.set_cons_zero, List.set_cons_succ]
            have hS9 : Facts [.blk (w.heap.size + 1 + 1 + 1) 50 (Rt E11 E15), .blk (w.heap.size + 1 + 1 + 1 + 1) 50 (Rt E16 E18)] (World.setRow _ (w.heap.size + 1 + 1 + 1) (Rt E11 E15)) := Facts.cons (f := .blk (w.heap.size + 1 + 1 + 1) 50 (Rt E11 E15)) ((hS.blkAt (w.heap.size + 1 + 1 + 1) 50 (Rt E11 E15) (.head _)).row _) (Facts.cons (f := .blk (w.heap.size + 1 + 1 + 1 + 1) 50 (Rt E16 E18)) ((hS.blkAt (w.heap.size + 1 + 1 + 1 + 1) 50 (Rt E16 E18) (.tail _ (.head _))).rowFar (k := w.heap.size + 1 + 1 + 1) (by first | omega | exact blk_ne (hS.blkAt _ _ _ (.tail _ (.head _))) (hS.blkAt _ _ _ (.head _)) (by decide)) _) (Facts.nil))
            refine wpAnyZ_store_row 2 rfl (by kernel_rfl) rfl _ _ _ rfl (w.heap.size + 1 + 1 + 1) (Rt E11 E15) rfl rfl _ _ (hS.blkAt _ _ _ (.head _)) (info_Rt _ _) rfl (Rt_one _ _) hS9 ?_
            try simp only [Act.put, List.setIfInBounds_toArray, List.set_cons_zero, List.set_cons_succ]
            replace hB := below_setRow hB (g := w.heap.size + 1 + 1 + 1) (by omega) (Rt E11 E15)
            replace hS := hS9
            clear hS9
            generalize hWn : World.setRow _ _ _ = Wn at *
            clear hWn
            have hS9 : Facts [.blk (w.heap.size + 1 + 1 + 1) 50 (Rt E11 E15), .blk (w.heap.size + 1 + 1 + 1 + 1) 50 (Rt E16 E18)] (World.setRow _ (w.heap.size + 1 + 1 + 1 + 1) (Rt E16 E18)) := Facts.cons (f := .blk (w.heap.size + 1 + 1 + 1) 50 (Rt E11 E15)) ((hS.blkAt (w.heap.size + 1 + 1 + 1) 50 (Rt E11 E15) (.head _)).rowFar (k := w.heap.size + 1 + 1 + 1 + 1) (by first | omega | exact blk_ne (hS.blkAt _ _ _ (.head _)) (hS.blkAt _ _ _ (.tail _ (.head _))) (by decide)) _) (Facts.cons (f := .blk (w.heap.size + 1 + 1 + 1 + 1) 50 (Rt E16 E18)) ((hS.blkAt (w.heap.size + 1 + 1 + 1 + 1) 50 (Rt E16 E18) (.tail _ (.head _))).row _) (Facts.nil))
            refine wpAnyZ_store_last 3 rfl (by kernel_rfl) rfl _ _ _ rfl (w.heap.size + 1 + 1 + 1 + 1) (Rt E16 E18) rfl rfl _ _ (hS.blkAt _ _ _ (.tail _ (.head _))) (info_Rt _ _) rfl (Rt_one _ _) (by kernel_rfl) ?_
            try simp only [Act.put, List.setIfInBounds_toArray, List.set_cons_zero, List.set_cons_succ]
            replace hB := below_setRow hB (g := w.heap.size + 1 + 1 + 1 + 1) (by omega) (Rt E16 E18)
            replace hS := hS9
            clear hS9
            generalize hWn : World.setRow _ _ _ = Wn at *
            clear hWn
            refine wpAnyZ_done (by kernel_rfl) ?_ _
            have K3 := hS.blkAt (w.heap.size + 1 + 1 + 1) 50 (Rt E11 E15) (.head _)
            have K4 := hS.blkAt (w.heap.size + 1 + 1 + 1 + 1) 50 (Rt E16 E18) (.tail _ (.head _))
            have q1 : lx2 PA PB = E11 := by simp only [lx2, lAA, lBB, fa, fs, fm, HE0.out, HE1.out, HE2.out, HE3.out, HE4.out, HE5.out, HE6.out, HE7.out, HE8.out, HE9.out, HE10.out, HE11.out, HE12.out, HE13.out, HE14.out, HE15.out, HE16.out, HE17.out, HE18.out]
            have q2 : lz2 PA PB = E15 := by simp only [lz2, lE, lAA, lBB, fa, fs, fm, HE0.out, HE1.out, HE2.out, HE3.out, HE4.out, HE5.out, HE6.out, HE7.out, HE8.out, HE9.out, HE10.out, HE11.out, HE12.out, HE13.out, HE14.out, HE15.out, HE16.out, HE17.out, HE18.out]
            have q3 : lx3 PA PB QA QB = E16 := by simp only [lx3, lSum, lDA, lCB, fa, fs, fm, HE0.out, HE1.out, HE2.out, HE3.out, HE4.out, HE5.out, HE6.out, HE7.out, HE8.out, HE9.out, HE10.out, HE11.out, HE12.out, HE13.out, HE14.out, HE15.out, HE16.out, HE17.out, HE18.out]
            have q4 : lz3 X PA PB QA QB = E18 := by simp only [lz3, lDif, lDA, lCB, fa, fs, fm, HE0.out, HE1.out, HE2.out, HE3.out, HE4.out, HE5.out, HE6.out, HE7.out, HE8.out, HE9.out, HE10.out, HE11.out, HE12.out, HE13.out, HE14.out, HE15.out, HE16.out, HE17.out, HE18.out]
            have Q := Lib.hid (And.intro q1 (And.intro q2 (And.intro q3 q4)))
            clear q1 q2 q3 q4
            go_wp2
            exact bodyPost_ret (results_two rfl _ _ (w.heap.size + 1 + 1 + 1) (w.heap.size + 1 + 1 + 1 + 1) 50 50 _ _ _ rfl rfl K3 K4 Try.underlying50 rfl (info_Rt _ _) (info_Rt _ _)) rfl ⟨by rw [Q.out.1, Q.out.2.1, Q.out.2.2.1, Q.out.2.2.2], hB⟩
end Go.Proofs.Ytgdhlafggdaipaa
