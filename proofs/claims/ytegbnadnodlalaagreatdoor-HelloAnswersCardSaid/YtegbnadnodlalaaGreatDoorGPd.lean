/- The contract of curve's sum of two (printed by gencurve.py). -/
import Derived.Test.YtegbnadnodlalaaGreatDoorGCi0GPb
namespace Go.Proofs.YtegbnadnodlalaaGreatDoor
open Go.RowKit
set_option maxHeartbeats 4000000 in
set_option maxRecDepth 100000 in
theorem cplus_v (X Y Z T X' Y' Z' T' : Nat) (lX : X < pp) (lY : Y < pp) (lZ : Z < pp) (lX' : X' < pp) (lY' : Y' < pp) (lZ' : Z' < pp) (lT : T < pp) (lT' : T' < pp) (w : World) (GD : Rng w 3 (Iv .u8 (keyOf dN))) :
  Calls Tryz.prog 79 #[PV ⟨X, Y, Z, T⟩, PV ⟨X', Y', Z', T'⟩] w fun e w' => e = .returned (PV (padd ⟨X, Y, Z, T⟩ ⟨X', Y', Z', T'⟩)) ∧ Below w.heap.size w w' := by
 have bGD := GD.blk
 have kdN := Nat.lt_trans dN_lt pp_lt256
 have ldN := dN_lt
 obtain ⟨E0, hE0⟩ : ∃ r, r = X * X' % pp := ⟨_, rfl⟩
 have lE0 : E0 < pp := hE0 ▸ Nat.mod_lt _ pp_pos
 have HE0 := Lib.hid hE0
 clear hE0
 obtain ⟨E1, hE1⟩ : ∃ r, r = Y * Y' % pp := ⟨_, rfl⟩
 have lE1 : E1 < pp := hE1 ▸ Nat.mod_lt _ pp_pos
 have HE1 := Lib.hid hE1
 clear hE1
 obtain ⟨E2, hE2⟩ : ∃ r, r = Z * Z' % pp := ⟨_, rfl⟩
 have lE2 : E2 < pp := hE2 ▸ Nat.mod_lt _ pp_pos
 have HE2 := Lib.hid hE2
 clear hE2
 obtain ⟨E3, hE3⟩ : ∃ r, r = T * T' % pp := ⟨_, rfl⟩
 have lE3 : E3 < pp := hE3 ▸ Nat.mod_lt _ pp_pos
 have HE3 := Lib.hid hE3
 clear hE3
 obtain ⟨E4, hE4⟩ : ∃ r, r = dN * E3 % pp := ⟨_, rfl⟩
 have lE4 : E4 < pp := hE4 ▸ Nat.mod_lt _ pp_pos
 have HE4 := Lib.hid hE4
 clear hE4
 obtain ⟨E5, hE5⟩ : ∃ r, r = (X + Y) % pp := ⟨_, rfl⟩
 have lE5 : E5 < pp := hE5 ▸ Nat.mod_lt _ pp_pos
 have HE5 := Lib.hid hE5
 clear hE5
 obtain ⟨E6, hE6⟩ : ∃ r, r = (X' + Y') % pp := ⟨_, rfl⟩
 have lE6 : E6 < pp := hE6 ▸ Nat.mod_lt _ pp_pos
 have HE6 := Lib.hid hE6
 clear hE6
 obtain ⟨E7, hE7⟩ : ∃ r, r = E5 * E6 % pp := ⟨_, rfl⟩
 have lE7 : E7 < pp := hE7 ▸ Nat.mod_lt _ pp_pos
 have HE7 := Lib.hid hE7
 clear hE7
 obtain ⟨E8, hE8⟩ : ∃ r, r = (E7 + (pp - E0)) % pp := ⟨_, rfl⟩
 have lE8 : E8 < pp := hE8 ▸ Nat.mod_lt _ pp_pos
 have HE8 := Lib.hid hE8
 clear hE8
 obtain ⟨E9, hE9⟩ : ∃ r, r = (E8 + (pp - E1)) % pp := ⟨_, rfl⟩
 have lE9 : E9 < pp := hE9 ▸ Nat.mod_lt _ pp_pos
 have HE9 := Lib.hid hE9
 clear hE9
 obtain ⟨E10, hE10⟩ : ∃ r, r = (E1 + E0) % pp := ⟨_, rfl⟩
 have lE10 : E10 < pp := hE10 ▸ Nat.mod_lt _ pp_pos
 have HE10 := Lib.hid hE10
 clear hE10
 obtain ⟨E11, hE11⟩ : ∃ r, r = (E2 + E4) % pp := ⟨_, rfl⟩
 have lE11 : E11 < pp := hE11 ▸ Nat.mod_lt _ pp_pos
 have HE11 := Lib.hid hE11
 clear hE11
 obtain ⟨E12, hE12⟩ : ∃ r, r = (E2 + (pp - E4)) % pp := ⟨_, rfl⟩
 have lE12 : E12 < pp := hE12 ▸ Nat.mod_lt _ pp_pos
 have HE12 := Lib.hid hE12
 clear hE12
 obtain ⟨E13, hE13⟩ : ∃ r, r = E9 * E12 % pp := ⟨_, rfl⟩
 have lE13 : E13 < pp := hE13 ▸ Nat.mod_lt _ pp_pos
 have HE13 := Lib.hid hE13
 clear hE13
 obtain ⟨E14, hE14⟩ : ∃ r, r = E10 * E11 % pp := ⟨_, rfl⟩
 have lE14 : E14 < pp := hE14 ▸ Nat.mod_lt _ pp_pos
 have HE14 := Lib.hid hE14
 clear hE14
 obtain ⟨E15, hE15⟩ : ∃ r, r = E11 * E12 % pp := ⟨_, rfl⟩
 have lE15 : E15 < pp := hE15 ▸ Nat.mod_lt _ pp_pos
 have HE15 := Lib.hid hE15
 clear hE15
 obtain ⟨E16, hE16⟩ : ∃ r, r = E9 * E10 % pp := ⟨_, rfl⟩
 have lE16 : E16 < pp := hE16 ▸ Nat.mod_lt _ pp_pos
 have HE16 := Lib.hid hE16
 clear hE16
 unfold PV
 go_enter Tryz.func79, Tryz.ntmps79
 go_upto_region 1 with fail
 generalize hW : World.alloc (World.alloc (World.alloc w _) _) _ = W
 have hB : Below w.heap.size w W := hW ▸ (((Below.refl w.heap.size w).alloc (Nat.le_refl _) _).alloc (by simp) _).alloc (by simp; omega) _
 have K0 : Blk W (w.heap.size) 85 (Pc ⟨X, Y, Z, T⟩) := hW ▸ (((Blk.new' (by simp) _ _).alloc _).alloc _)
 have K1 : Blk W (w.heap.size + 1) 85 (Pc ⟨X', Y', Z', T'⟩) := hW ▸ ((Blk.new' (by simp) _ _).alloc _)
 have K2 : Blk W (w.heap.size + 1 + 1) 85 (Pc p40) := hW ▸ (Blk.new' (by simp) _ _)
 have hS : Facts [.blk (w.heap.size) 85 (Pc ⟨X, Y, Z, T⟩), .blk (w.heap.size + 1) 85 (Pc ⟨X', Y', Z', T'⟩), .rng 3 (Iv .u8 (keyOf dN))] W := Facts.cons (f := .blk (w.heap.size) 85 (Pc ⟨X, Y, Z, T⟩)) K0 (Facts.cons (f := .blk (w.heap.size + 1) 85 (Pc ⟨X', Y', Z', T'⟩)) K1 (Facts.cons (f := .rng 3 (Iv .u8 (keyOf dN))) (GD.below hB) (Facts.nil)))
 clear hW K0 K1
 replace hS := hS.drew
 replace hB := below_drew hB
 replace K2 := K2.drew
 refine wp_region_Z (S := Facts [.blk (w.heap.size) 85 (Pc ⟨X, Y, Z, T⟩), .blk (w.heap.size + 1) 85 (Pc ⟨X', Y', Z', T'⟩), .rng 3 (Iv .u8 (keyOf dN))]) 20 (by kernel_rfl) ?_
 refine wpAnyZ_takeL 0 rfl (by kernel_rfl) (by kernel_rfl) (by kernel_rfl) (by kernel_rfl) (by kernel_rfl) (fun _ _ _ h => h) (show YieldsIf _ _ _ _ (.pointer (some ⟨w.heap.size, 0, none⟩)) _ from yieldsIf_pf0 rfl _ rfl (w.heap.size) rfl) hS ?_
 simp only [Act.put, List.setIfInBounds_toArray, List.set_cons_zero, List.set_cons_succ]
 refine wpAnyZ_takeL 1 rfl (by kernel_rfl) (by kernel_rfl) (by kernel_rfl) (by kernel_rfl) (by kernel_rfl) (fun _ _ _ h => h) (show YieldsIf _ _ _ _ (El X) _ from yieldsIf_pl0 rfl _ rfl (w.heap.size) rfl 85 _ (.head _)) hS ?_
 simp only [Act.put, List.setIfInBounds_toArray, List.set_cons_zero, List.set_cons_succ]
 refine wpAnyZ_takeL 2 rfl (by kernel_rfl) (by kernel_rfl) (by kernel_rfl) (by kernel_rfl) (by kernel_rfl) (fun _ _ _ h => h) (show YieldsIf _ _ _ _ (.pointer (some ⟨w.heap.size + 1, 0, none⟩)) _ from yieldsIf_pf0 rfl _ rfl (w.heap.size + 1) rfl) hS ?_
 simp only [Act.put, List.setIfInBounds_toArray, List.set_cons_zero, List.set_cons_succ]
 refine wpAnyZ_takeL 3 rfl (by kernel_rfl) (by kernel_rfl) (by kernel_rfl) (by kernel_rfl) (by kernel_rfl) (fun _ _ _ h => h) (show YieldsIf _ _ _ _ (El X') _ from yieldsIf_pl0 rfl _ rfl (w.heap.size + 1) rfl 85 _ (.tail _ (.head _))) hS ?_
 simp only [Act.put, List.setIfInBounds_toArray, List.set_cons_zero, List.set_cons_succ]
 refine wpAnyZ_takeL 5 rfl (by kernel_rfl) (by kernel_rfl) (by kernel_rfl) (by kernel_rfl) (by kernel_rfl) (fun _ _ _ h => h) (show YieldsIf _ _ _ _ (.pointer (some ⟨w.heap.size, 5, none⟩)) _ from yieldsIf_pf5 rfl _ rfl (w.heap.size) rfl) hS ?_
 simp only [Act.put, List.setIfInBounds_toArray, List.set_cons_zero, List.set_cons_succ]
 refine wpAnyZ_takeL 6 rfl (by kernel_rfl) (by kernel_rfl) (by kernel_rfl) (by kernel_rfl) (by kernel_rfl) (fun _ _ _ h => h) (show YieldsIf _ _ _ _ (El Y) _ from yieldsIf_pl5 rfl _ rfl (w.heap.size) rfl 85 _ (.head _)) hS ?_
 simp only [Act.put, List.setIfInBounds_toArray, List.set_cons_zero, List.set_cons_succ]
 refine wpAnyZ_takeL 7 rfl (by kernel_rfl) (by kernel_rfl) (by kernel_rfl) (by kernel_rfl) (by kernel_rfl) (fun _ _ _ h => h) (show YieldsIf _ _ _ _ (.pointer (some ⟨w.heap.size + 1, 5, none⟩)) _ from yieldsIf_pf5 rfl _ rfl (w.heap.size + 1) rfl) hS ?_
 simp only [Act.put, List.setIfInBounds_toArray, List.set_cons_zero, List.set_cons_succ]
 refine wpAnyZ_takeL 8 rfl (by kernel_rfl) (by kernel_rfl) (by kernel_rfl) (by kernel_rfl) (by kernel_rfl) (fun _ _ _ h => h) (show YieldsIf _ _ _ _ (El Y') _ from yieldsIf_pl5 rfl _ rfl (w.heap.size + 1) rfl 85 _ (.tail _ (.head _))) hS ?_
 simp only [Act.put, List.setIfInBounds_toArray, List.set_cons_zero, List.set_cons_succ]
 refine wpAnyZ_takeL 10 rfl (by kernel_rfl) (by kernel_rfl) (by kernel_rfl) (by kernel_rfl) (by kernel_rfl) (fun _ _ _ h => h) (show YieldsIf _ _ _ _ (.pointer (some ⟨w.heap.size, 10, none⟩)) _ from yieldsIf_pf10 rfl _ rfl (w.heap.size) rfl) hS ?_
 simp only [Act.put, List.setIfInBounds_toArray, List.set_cons_zero, List.set_cons_succ]
 refine wpAnyZ_takeL 11 rfl (by kernel_rfl) (by kernel_rfl) (by kernel_rfl) (by kernel_rfl) (by kernel_rfl) (fun _ _ _ h => h) (show YieldsIf _ _ _ _ (El Z) _ from yieldsIf_pl10 rfl _ rfl (w.heap.size) rfl 85 _ (.head _)) hS ?_
 simp only [Act.put, List.setIfInBounds_toArray, List.set_cons_zero, List.set_cons_succ]
 refine wpAnyZ_takeL 12 rfl (by kernel_rfl) (by kernel_rfl) (by kernel_rfl) (by kernel_rfl) (by kernel_rfl) (fun _ _ _ h => h) (show YieldsIf _ _ _ _ (.pointer (some ⟨w.heap.size + 1, 10, none⟩)) _ from yieldsIf_pf10 rfl _ rfl (w.heap.size + 1) rfl) hS ?_
 simp only [Act.put, List.setIfInBounds_toArray, List.set_cons_zero, List.set_cons_succ]
 refine wpAnyZ_takeL 13 rfl (by kernel_rfl) (by kernel_rfl) (by kernel_rfl) (by kernel_rfl) (by kernel_rfl) (fun _ _ _ h => h) (show YieldsIf _ _ _ _ (El Z') _ from yieldsIf_pl10 rfl _ rfl (w.heap.size + 1) rfl 85 _ (.tail _ (.head _))) hS ?_
 simp only [Act.put, List.setIfInBounds_toArray, List.set_cons_zero, List.set_cons_succ]
 refine wpAnyZ_jobsL [(⟨4, 17⟩, .is (El E0)), (⟨9, 22⟩, .is (El E1)), (⟨14, 27⟩, .is (El E2)), (⟨15, 5⟩, .rel (fun v w' => ∃ g, v = .pointer (some ⟨g, 0, none⟩) ∧ Blk w' g 83 (El_cells 0))), (⟨16, 6⟩, .rel (fun v w' => ∃ g, v = .pointer (some ⟨g, 0, none⟩) ∧ Blk w' g 83 (El_cells 0))), (⟨17, 7⟩, .rel (fun v w' => ∃ g, v = .pointer (some ⟨g, 0, none⟩) ∧ Blk w' g 83 (El_cells 0)))] [] 3 _ _ _ (by kernel_rfl) (fun _ _ _ _ _ h => h) ?_ (fun _ _ _ _ _ h => h) (fun _ _ h hb => h.below hb) hS ?_ ?_ ?_
 · exact fun _ _ h => by cases h
 ·
  intro j hj
  simp only [List.map_cons, List.map_nil, List.mem_cons, List.not_mem_nil, or_false] at hj
  rcases hj with rfl | rfl | rfl | rfl | rfl | rfl
  · exact fun _ _ _ h _ => h
  · exact fun _ _ _ h _ => h
  · exact fun _ _ _ h _ => h
  ·
   intro v w1 w2 h hb
   obtain ⟨g, e, H⟩ : ∃ g, v = .pointer (some ⟨g, 0, none⟩) ∧ Blk w1 g 83 (El_cells 0) := h
   exact ⟨g, e, H.below' hb⟩
  ·
   intro v w1 w2 h hb
   obtain ⟨g, e, H⟩ : ∃ g, v = .pointer (some ⟨g, 0, none⟩) ∧ Blk w1 g 83 (El_cells 0) := h
   exact ⟨g, e, H.below' hb⟩
  ·
   intro v w1 w2 h hb
   obtain ⟨g, e, H⟩ : ∃ g, v = .pointer (some ⟨g, 0, none⟩) ∧ Blk w1 g 83 (El_cells 0) := h
   exact ⟨g, e, H.below' hb⟩
 ·
  intro j hj
  simp only [List.map_cons, List.map_nil, List.mem_cons, List.not_mem_nil, or_false] at hj
  rcases hj with rfl | rfl | rfl | rfl | rfl | rfl
  ·
   refine job_frame [] (by kernel_rfl) ?_
   show JobAt _ _ _ _ _ _ _
   simp only [putAll, List.foldr_nil]
   intro W K hS' hK
   unfold wpOp
   go_simp
   left
   refine (mul_v X X' E0 _ lX lX' HE0.out).mono ?_
   rintro e v ⟨rfl, b⟩
   exact hK _ _ rfl b (fun g hg => ((block_agg _) g hg).elim)
  ·
   refine job_frame [] (by kernel_rfl) ?_
   show JobAt _ _ _ _ _ _ _
   simp only [putAll, List.foldr_nil]
   intro W K hS' hK
   unfold wpOp
   go_simp
   left
   refine (mul_v Y Y' E1 _ lY lY' HE1.out).mono ?_
   rintro e v ⟨rfl, b⟩
   exact hK _ _ rfl b (fun g hg => ((block_agg _) g hg).elim)
  ·
   refine job_frame [] (by kernel_rfl) ?_
   show JobAt _ _ _ _ _ _ _
   simp only [putAll, List.foldr_nil]
   intro W K hS' hK
   unfold wpOp
   go_simp
   left
   refine (mul_v Z Z' E2 _ lZ lZ' HE2.out).mono ?_
   rintro e v ⟨rfl, b⟩
   exact hK _ _ rfl b (fun g hg => ((block_agg _) g hg).elim)
  ·
   refine job_frame [] (by kernel_rfl) ?_
   show JobAt _ _ _ _ _ _ _
   exact job_alloc 83 (El_cells 0) _ _ rfl rfl rfl (fun W => by go_simp; rfl)
  ·
   refine job_frame [] (by kernel_rfl) ?_
   show JobAt _ _ _ _ _ _ _
   exact job_alloc 83 (El_cells 0) _ _ rfl rfl rfl (fun W => by go_simp; rfl)
  ·
   refine job_frame [] (by kernel_rfl) ?_
   show JobAt _ _ _ _ _ _ _
   exact job_alloc 83 (El_cells 0) _ _ rfl rfl rfl (fun W => by go_simp; rfl)
 ·
  intro f W hS2 hB1 hR hF hA
  have e4 : f 4 = (El E0) := hR ⟨4, 17⟩ (by simp)
  have e9 : f 9 = (El E1) := hR ⟨9, 22⟩ (by simp)
  have e14 : f 14 = (El E2) := hR ⟨14, 27⟩ (by simp)
  obtain ⟨g15r1, e15, A15⟩ : ∃ g, f 15 = .pointer (some ⟨g, 0, none⟩) ∧ Blk W g 83 (El_cells 0) := hR ⟨15, 5⟩ (by simp)
  have n15 : _ ≤ g15r1 := (hF ⟨15, 5⟩ (by simp) g15r1 (by show blockOf (f 15) = _; rw [e15]; rfl)).1
  have m15 : w.heap.size ≤ g15r1 := Nat.le_trans hB.size n15
  have u15 := Nat.lt_of_lt_of_le K2.lt n15
  obtain ⟨g16r1, e16, A16⟩ : ∃ g, f 16 = .pointer (some ⟨g, 0, none⟩) ∧ Blk W g 83 (El_cells 0) := hR ⟨16, 6⟩ (by simp)
  have n16 : _ ≤ g16r1 := (hF ⟨16, 6⟩ (by simp) g16r1 (by show blockOf (f 16) = _; rw [e16]; rfl)).1
  have m16 : w.heap.size ≤ g16r1 := Nat.le_trans hB.size n16
  have u16 := Nat.lt_of_lt_of_le K2.lt n16
  obtain ⟨g17r1, e17, A17⟩ : ∃ g, f 17 = .pointer (some ⟨g, 0, none⟩) ∧ Blk W g 83 (El_cells 0) := hR ⟨17, 7⟩ (by simp)
  have n17 : _ ≤ g17r1 := (hF ⟨17, 7⟩ (by simp) g17r1 (by show blockOf (f 17) = _; rw [e17]; rfl)).1
  have m17 : w.heap.size ≤ g17r1 := Nat.le_trans hB.size n17
  have u17 := Nat.lt_of_lt_of_le K2.lt n17
  have d15_16 : g15r1 ≠ g16r1 := fun h => hA ⟨15, 5⟩ (by simp) ⟨16, 6⟩ (by simp) (by decide) g15r1 (by show blockOf (f 15) = _; rw [e15]; rfl) (by show blockOf (f 16) = _; rw [e16, h]; rfl)
  have d15_17 : g15r1 ≠ g17r1 := fun h => hA ⟨15, 5⟩ (by simp) ⟨17, 7⟩ (by simp) (by decide) g15r1 (by show blockOf (f 15) = _; rw [e15]; rfl) (by show blockOf (f 17) = _; rw [e17, h]; rfl)
  have d16_17 : g16r1 ≠ g17r1 := fun h => hA ⟨16, 6⟩ (by simp) ⟨17, 7⟩ (by simp) (by decide) g16r1 (by show blockOf (f 16) = _; rw [e16]; rfl) (by show blockOf (f 17) = _; rw [e17, h]; rfl)
  clear hA hF hR
  simp only [setAll, putAll, List.map_cons, List.map_nil, List.foldr_cons, List.foldr_nil, Act.put, List.setIfInBounds_toArray, List.set_cons_zero, List.set_cons_succ, e4, e9, e14, e15, e16, e17]
  clear e4 e9 e14 e15 e16 e17
  have hBs := hB1
  replace hB1 := below_setRow hB1 n15 (El_cells E0)
  refine wpAnyZ_store_row 18 rfl (by kernel_rfl) rfl _ _ _ rfl g15r1 (El_cells E0) rfl rfl _ _ A15 (info_El _) (El_same _ _) (El_one _) (hS.below hB1) ?_
  try simp only [Act.put, List.setIfInBounds_toArray, List.set_cons_zero, List.set_cons_succ]
  replace A16 := A16.rowFar (Ne.symm d15_16) (El_cells E0)
  replace A17 := A17.rowFar (Ne.symm d15_17) (El_cells E0)
  replace A15 := A15.row (El_cells E0)
  replace hB1 := below_setRow hB1 n16 (El_cells E1)
  refine wpAnyZ_store_row 19 rfl (by kernel_rfl) rfl _ _ _ rfl g16r1 (El_cells E1) rfl rfl _ _ A16 (info_El _) (El_same _ _) (El_one _) (hS.below hB1) ?_
  try simp only [Act.put, List.setIfInBounds_toArray, List.set_cons_zero, List.set_cons_succ]
  replace A15 := A15.rowFar d15_16 (El_cells E1)
  replace A17 := A17.rowFar (Ne.symm d16_17) (El_cells E1)
  replace A16 := A16.row (El_cells E1)
  replace hB1 := below_setRow hB1 n17 (El_cells E2)
  refine wpAnyZ_store_row 20 rfl (by kernel_rfl) rfl _ _ _ rfl g17r1 (El_cells E2) rfl rfl _ _ A17 (info_El _) (El_same _ _) (El_one _) (hS.below hB1) ?_
  try simp only [Act.put, List.setIfInBounds_toArray, List.set_cons_zero, List.set_cons_succ]
  replace A15 := A15.rowFar d15_17 (El_cells E2)
  replace A16 := A16.rowFar d16_17 (El_cells E2)
  replace A17 := A17.row (El_cells E2)
  refine wpAnyZ_done (by kernel_rfl) ?_ _
  replace K2 := K2.below' hB1
  have hS3 := hS.below hB1
  replace hB := hB.trans (hB1.mono hB.size)
  clear hS hS2 hB1 hBs
  have hS : Facts [.blk (g15r1) 83 (El_cells E0), .blk (g16r1) 83 (El_cells E1), .blk (g17r1) 83 (El_cells E2), .blk (w.heap.size) 85 (Pc ⟨X, Y, Z, T⟩), .blk (w.heap.size + 1) 85 (Pc ⟨X', Y', Z', T'⟩), .rng 3 (Iv .u8 (keyOf dN))] _ := Facts.cons (f := .blk g15r1 83 (El_cells E0)) A15 (Facts.cons (f := .blk g16r1 83 (El_cells E1)) A16 (Facts.cons (f := .blk g17r1 83 (El_cells E2)) A17 (hS3)))
  clear hS3
  try clear n15 n16 n17
  clear A15 A16 A17
  generalize hWn : World.setRow _ _ _ = Wn at *
  clear hWn
  go_upto_region 2 with fail
  replace hS := hS.drew
  replace hB := below_drew hB
  replace K2 := K2.drew
  refine wp_region_Z (S := Facts [.blk (g15r1) 83 (El_cells E0), .blk (g16r1) 83 (El_cells E1), .blk (g17r1) 83 (El_cells E2), .blk (w.heap.size) 85 (Pc ⟨X, Y, Z, T⟩), .blk (w.heap.size + 1) 85 (Pc ⟨X', Y', Z', T'⟩), .rng 3 (Iv .u8 (keyOf dN))]) 9 (by kernel_rfl) ?_
  refine wpAnyZ_takeL 0 rfl (by kernel_rfl) (by kernel_rfl) (by kernel_rfl) (by kernel_rfl) (by kernel_rfl) (fun _ _ _ h => h) (show YieldsIf _ _ _ _ (Key (keyOf dN)) _ from yieldsIf_load_mid rfl 23 _ rfl 3 0 rfl (Iv .u8 (keyOf dN)).toList _ (fun _ h => (h.rngAt _ _ (.tail _ (.tail _ (.tail _ (.tail _ (.tail _ (.head _))))))).there) Tryz.underlying23 rfl (info_keyL _)) hS ?_
  simp only [Act.put, List.setIfInBounds_toArray, List.set_cons_zero, List.set_cons_succ]
  refine wpAnyZ_takeL 2 rfl (by kernel_rfl) (by kernel_rfl) (by kernel_rfl) (by kernel_rfl) (by kernel_rfl) (fun _ _ _ h => h) (show YieldsIf _ _ _ _ (.pointer (some ⟨w.heap.size, 15, none⟩)) _ from yieldsIf_pf15 rfl _ rfl (w.heap.size) rfl) hS ?_
  simp only [Act.put, List.setIfInBounds_toArray, List.set_cons_zero, List.set_cons_succ]
  refine wpAnyZ_takeL 3 rfl (by kernel_rfl) (by kernel_rfl) (by kernel_rfl) (by kernel_rfl) (by kernel_rfl) (fun _ _ _ h => h) (show YieldsIf _ _ _ _ (El T) _ from yieldsIf_pl15 rfl _ rfl (w.heap.size) rfl 85 _ (.tail _ (.tail _ (.tail _ (.head _))))) hS ?_
  simp only [Act.put, List.setIfInBounds_toArray, List.set_cons_zero, List.set_cons_succ]
  refine wpAnyZ_takeL 4 rfl (by kernel_rfl) (by kernel_rfl) (by kernel_rfl) (by kernel_rfl) (by kernel_rfl) (fun _ _ _ h => h) (show YieldsIf _ _ _ _ (.pointer (some ⟨w.heap.size + 1, 15, none⟩)) _ from yieldsIf_pf15 rfl _ rfl (w.heap.size + 1) rfl) hS ?_
  simp only [Act.put, List.setIfInBounds_toArray, List.set_cons_zero, List.set_cons_succ]
  refine wpAnyZ_takeL 5 rfl (by kernel_rfl) (by kernel_rfl) (by kernel_rfl) (by kernel_rfl) (by kernel_rfl) (fun _ _ _ h => h) (show YieldsIf _ _ _ _ (El T') _ from yieldsIf_pl15 rfl _ rfl (w.heap.size + 1) rfl 85 _ (.tail _ (.tail _ (.tail _ (.tail _ (.head _)))))) hS ?_
  simp only [Act.put, List.setIfInBounds_toArray, List.set_cons_zero, List.set_cons_succ]
  refine wpAnyZ_jobsL [(⟨1, 29⟩, .is (El dN)), (⟨6, 34⟩, .is (El E3)), (⟨7, 35⟩, .is (El E4)), (⟨8, 8⟩, .rel (fun v w' => ∃ g, v = .pointer (some ⟨g, 0, none⟩) ∧ Blk w' g 83 (El_cells 0)))] [] 1 _ _ _ (by kernel_rfl) (fun _ _ _ _ _ h => h) ?_ (fun _ _ _ _ _ h => h) (fun _ _ h hb => h.below hb) hS ?_ ?_ ?_
  · exact fun _ _ h => by cases h
  ·
   intro j hj
   simp only [List.map_cons, List.map_nil, List.mem_cons, List.not_mem_nil, or_false] at hj
   rcases hj with rfl | rfl | rfl | rfl
   · exact fun _ _ _ h _ => h
   · exact fun _ _ _ h _ => h
   · exact fun _ _ _ h _ => h
   ·
    intro v w1 w2 h hb
    obtain ⟨g, e, H⟩ : ∃ g, v = .pointer (some ⟨g, 0, none⟩) ∧ Blk w1 g 83 (El_cells 0) := h
    exact ⟨g, e, H.below' hb⟩
  ·
   intro j hj
   simp only [List.map_cons, List.map_nil, List.mem_cons, List.not_mem_nil, or_false] at hj
   rcases hj with rfl | rfl | rfl | rfl
   ·
    refine job_frame [] (by kernel_rfl) ?_
    show JobAt _ _ _ _ _ _ _
    simp only [putAll, List.foldr_nil]
    intro W K hS' hK
    unfold wpOp
    go_simp
    left
    refine (of_n dN dN kdN (plN_small dN_lt).symm _).mono ?_
    rintro e v ⟨rfl, b⟩
    exact hK _ _ rfl b (fun g hg => ((block_agg _) g hg).elim)
   ·
    refine job_frame [] (by kernel_rfl) ?_
    show JobAt _ _ _ _ _ _ _
    simp only [putAll, List.foldr_nil]
    intro W K hS' hK
    unfold wpOp
    go_simp
    left
    refine (mul_v T T' E3 _ lT lT' HE3.out).mono ?_
    rintro e v ⟨rfl, b⟩
    exact hK _ _ rfl b (fun g hg => ((block_agg _) g hg).elim)
   ·
    refine job_frame [⟨1, 29⟩, ⟨6, 34⟩] (by kernel_rfl) ?_
    show JobAt _ _ _ _ (Act.put (Act.put _ (some 34) (El E3)) (some 29) (El dN)) _ _
    simp only [Act.put, List.setIfInBounds_toArray, List.set_cons_zero, List.set_cons_succ]
    intro W K hS' hK
    unfold wpOp
    go_simp
    left
    refine (mul_v dN E3 E4 _ ldN lE3 HE4.out).mono ?_
    rintro e v ⟨rfl, b⟩
    exact hK _ _ rfl b (fun g hg => ((block_agg _) g hg).elim)
   ·
    refine job_frame [] (by kernel_rfl) ?_
    show JobAt _ _ _ _ _ _ _
    exact job_alloc 83 (El_cells 0) _ _ rfl rfl rfl (fun W => by go_simp; rfl)
  ·
   intro f W hS2 hB1 hR hF hA
   have e1 : f 1 = (El dN) := hR ⟨1, 29⟩ (by simp)
   have e6 : f 6 = (El E3) := hR ⟨6, 34⟩ (by simp)
   have e7 : f 7 = (El E4) := hR ⟨7, 35⟩ (by simp)
   obtain ⟨g8r2, e8, A8⟩ : ∃ g, f 8 = .pointer (some ⟨g, 0, none⟩) ∧ Blk W g 83 (El_cells 0) := hR ⟨8, 8⟩ (by simp)
   have n8 : _ ≤ g8r2 := (hF ⟨8, 8⟩ (by simp) g8r2 (by show blockOf (f 8) = _; rw [e8]; rfl)).1
   have m8 : w.heap.size ≤ g8r2 := Nat.le_trans hB.size n8
   have u8 := Nat.lt_of_lt_of_le K2.lt n8
   clear hA hF hR
   simp only [setAll, putAll, List.map_cons, List.map_nil, List.foldr_cons, List.foldr_nil, Act.put, List.setIfInBounds_toArray, List.set_cons_zero, List.set_cons_succ, e1, e6, e7, e8]
   clear e1 e6 e7 e8
   have hBs := hB1
   replace hB1 := below_setRow hB1 n8 (El_cells E4)
   refine wpAnyZ_store_row 9 rfl (by kernel_rfl) rfl _ _ _ rfl g8r2 (El_cells E4) rfl rfl _ _ A8 (info_El _) (El_same _ _) (El_one _) (hS.below hB1) ?_
   try simp only [Act.put, List.setIfInBounds_toArray, List.set_cons_zero, List.set_cons_succ]
   replace A8 := A8.row (El_cells E4)
   refine wpAnyZ_done (by kernel_rfl) ?_ _
   replace K2 := K2.below' hB1
   have hS3 := hS.below hB1
   replace hB := hB.trans (hB1.mono hB.size)
   clear hS hS2 hB1 hBs
   have hS : Facts [.blk (g8r2) 83 (El_cells E4), .blk (g15r1) 83 (El_cells E0), .blk (g16r1) 83 (El_cells E1), .blk (g17r1) 83 (El_cells E2), .blk (w.heap.size) 85 (Pc ⟨X, Y, Z, T⟩), .blk (w.heap.size + 1) 85 (Pc ⟨X', Y', Z', T'⟩), .rng 3 (Iv .u8 (keyOf dN))] _ := Facts.cons (f := .blk g8r2 83 (El_cells E4)) A8 (hS3)
   clear hS3
   try clear n8
   clear A8
   generalize hWn : World.setRow _ _ _ = Wn at *
   clear hWn
   go_upto_region 3 with fail
   replace hS := hS.drew
   replace hB := below_drew hB
   replace K2 := K2.drew
   refine wp_region_Z (S := Facts [.blk (g8r2) 83 (El_cells E4), .blk (g15r1) 83 (El_cells E0), .blk (g16r1) 83 (El_cells E1), .blk (g17r1) 83 (El_cells E2), .blk (w.heap.size) 85 (Pc ⟨X, Y, Z, T⟩), .blk (w.heap.size + 1) 85 (Pc ⟨X', Y', Z', T'⟩), .rng 3 (Iv .u8 (keyOf dN))]) 16 (by kernel_rfl) ?_
   refine wpAnyZ_takeL 0 rfl (by kernel_rfl) (by kernel_rfl) (by kernel_rfl) (by kernel_rfl) (by kernel_rfl) (fun _ _ _ h => h) (show YieldsIf _ _ _ _ (.pointer (some ⟨w.heap.size, 0, none⟩)) _ from yieldsIf_pf0 rfl _ rfl (w.heap.size) rfl) hS ?_
   simp only [Act.put, List.setIfInBounds_toArray, List.set_cons_zero, List.set_cons_succ]
   refine wpAnyZ_takeL 1 rfl (by kernel_rfl) (by kernel_rfl) (by kernel_rfl) (by kernel_rfl) (by kernel_rfl) (fun _ _ _ h => h) (show YieldsIf _ _ _ _ (El X) _ from yieldsIf_pl0 rfl _ rfl (w.heap.size) rfl 85 _ (.tail _ (.tail _ (.tail _ (.tail _ (.head _)))))) hS ?_
   simp only [Act.put, List.setIfInBounds_toArray, List.set_cons_zero, List.set_cons_succ]
   refine wpAnyZ_takeL 2 rfl (by kernel_rfl) (by kernel_rfl) (by kernel_rfl) (by kernel_rfl) (by kernel_rfl) (fun _ _ _ h => h) (show YieldsIf _ _ _ _ (.pointer (some ⟨w.heap.size, 5, none⟩)) _ from yieldsIf_pf5 rfl _ rfl (w.heap.size) rfl) hS ?_
   simp only [Act.put, List.setIfInBounds_toArray, List.set_cons_zero, List.set_cons_succ]
   refine wpAnyZ_takeL 3 rfl (by kernel_rfl) (by kernel_rfl) (by kernel_rfl) (by kernel_rfl) (by kernel_rfl) (fun _ _ _ h => h) (show YieldsIf _ _ _ _ (El Y) _ from yieldsIf_pl5 rfl _ rfl (w.heap.size) rfl 85 _ (.tail _ (.tail _ (.tail _ (.tail _ (.head _)))))) hS ?_
   simp only [Act.put, List.setIfInBounds_toArray, List.set_cons_zero, List.set_cons_succ]
   refine wpAnyZ_takeL 5 rfl (by kernel_rfl) (by kernel_rfl) (by kernel_rfl) (by kernel_rfl) (by kernel_rfl) (fun _ _ _ h => h) (show YieldsIf _ _ _ _ (.pointer (some ⟨w.heap.size + 1, 0, none⟩)) _ from yieldsIf_pf0 rfl _ rfl (w.heap.size + 1) rfl) hS ?_
   simp only [Act.put, List.setIfInBounds_toArray, List.set_cons_zero, List.set_cons_succ]
   refine wpAnyZ_takeL 6 rfl (by kernel_rfl) (by kernel_rfl) (by kernel_rfl) (by kernel_rfl) (by kernel_rfl) (fun _ _ _ h => h) (show YieldsIf _ _ _ _ (El X') _ from yieldsIf_pl0 rfl _ rfl (w.heap.size + 1) rfl 85 _ (.tail _ (.tail _ (.tail _ (.tail _ (.tail _ (.head _))))))) hS ?_
   simp only [Act.put, List.setIfInBounds_toArray, List.set_cons_zero, List.set_cons_succ]
   refine wpAnyZ_takeL 7 rfl (by kernel_rfl) (by kernel_rfl) (by kernel_rfl) (by kernel_rfl) (by kernel_rfl) (fun _ _ _ h => h) (show YieldsIf _ _ _ _ (.pointer (some ⟨w.heap.size + 1, 5, none⟩)) _ from yieldsIf_pf5 rfl _ rfl (w.heap.size + 1) rfl) hS ?_
   simp only [Act.put, List.setIfInBounds_toArray, List.set_cons_zero, List.set_cons_succ]
   refine wpAnyZ_takeL 8 rfl (by kernel_rfl) (by kernel_rfl) (by kernel_rfl) (by kernel_rfl) (by kernel_rfl) (fun _ _ _ h => h) (show YieldsIf _ _ _ _ (El Y') _ from yieldsIf_pl5 rfl _ rfl (w.heap.size + 1) rfl 85 _ (.tail _ (.tail _ (.tail _ (.tail _ (.tail _ (.head _))))))) hS ?_
   simp only [Act.put, List.setIfInBounds_toArray, List.set_cons_zero, List.set_cons_succ]
   refine wpAnyZ_takeL 11 rfl (by kernel_rfl) (by kernel_rfl) (by kernel_rfl) (by kernel_rfl) (by kernel_rfl) (fun _ _ _ h => h) (show YieldsIf _ _ _ _ (El E0) _ from yieldsIf_load rfl 83 _ rfl (g15r1) rfl 83 _ _ (.tail _ (.head _)) Tryz.underlying83 rfl (info_El _)) hS ?_
   simp only [Act.put, List.setIfInBounds_toArray, List.set_cons_zero, List.set_cons_succ]
   refine wpAnyZ_takeL 13 rfl (by kernel_rfl) (by kernel_rfl) (by kernel_rfl) (by kernel_rfl) (by kernel_rfl) (fun _ _ _ h => h) (show YieldsIf _ _ _ _ (El E1) _ from yieldsIf_load rfl 83 _ rfl (g16r1) rfl 83 _ _ (.tail _ (.tail _ (.head _))) Tryz.underlying83 rfl (info_El _)) hS ?_
   simp only [Act.put, List.setIfInBounds_toArray, List.set_cons_zero, List.set_cons_succ]
   refine wpAnyZ_jobsL [(⟨4, 40⟩, .is (El E5)), (⟨9, 45⟩, .is (El E6)), (⟨10, 46⟩, .is (El E7)), (⟨12, 48⟩, .is (El E8)), (⟨14, 50⟩, .is (El E9)), (⟨15, 9⟩, .rel (fun v w' => ∃ g, v = .pointer (some ⟨g, 0, none⟩) ∧ Blk w' g 83 (El_cells 0)))] [] 1 _ _ _ (by kernel_rfl) (fun _ _ _ _ _ h => h) ?_ (fun _ _ _ _ _ h => h) (fun _ _ h hb => h.below hb) hS ?_ ?_ ?_
   · exact fun _ _ h => by cases h
   ·
    intro j hj
    simp only [List.map_cons, List.map_nil, List.mem_cons, List.not_mem_nil, or_false] at hj
    rcases hj with rfl | rfl | rfl | rfl | rfl | rfl
    · exact fun _ _ _ h _ => h
    · exact fun _ _ _ h _ => h
    · exact fun _ _ _ h _ => h
    · exact fun _ _ _ h _ => h
    · exact fun _ _ _ h _ => h
    ·
     intro v w1 w2 h hb
     obtain ⟨g, e, H⟩ : ∃ g, v = .pointer (some ⟨g, 0, none⟩) ∧ Blk w1 g 83 (El_cells 0) := h
     exact ⟨g, e, H.below' hb⟩
   ·
    intro j hj
    simp only [List.map_cons, List.map_nil, List.mem_cons, List.not_mem_nil, or_false] at hj
    rcases hj with rfl | rfl | rfl | rfl | rfl | rfl
    ·
     refine job_frame [] (by kernel_rfl) ?_
     show JobAt _ _ _ _ _ _ _
     simp only [putAll, List.foldr_nil]
     intro W K hS' hK
     unfold wpOp
     go_simp
     left
     refine (add_v X Y E5 _ lX lY HE5.out).mono ?_
     rintro e v ⟨rfl, b⟩
     exact hK _ _ rfl b (fun g hg => ((block_agg _) g hg).elim)
    ·
     refine job_frame [] (by kernel_rfl) ?_
     show JobAt _ _ _ _ _ _ _
     simp only [putAll, List.foldr_nil]
     intro W K hS' hK
     unfold wpOp
     go_simp
     left
     refine (add_v X' Y' E6 _ lX' lY' HE6.out).mono ?_
     rintro e v ⟨rfl, b⟩
     exact hK _ _ rfl b (fun g hg => ((block_agg _) g hg).elim)
    ·
     refine job_frame [⟨4, 40⟩, ⟨9, 45⟩] (by kernel_rfl) ?_
     show JobAt _ _ _ _ (Act.put (Act.put _ (some 45) (El E6)) (some 40) (El E5)) _ _
     simp only [Act.put, List.setIfInBounds_toArray, List.set_cons_zero, List.set_cons_succ]
     intro W K hS' hK
     unfold wpOp
     go_simp
     left
     refine (mul_v E5 E6 E7 _ lE5 lE6 HE7.out).mono ?_
     rintro e v ⟨rfl, b⟩
     exact hK _ _ rfl b (fun g hg => ((block_agg _) g hg).elim)
    ·
     refine job_frame [⟨10, 46⟩] (by kernel_rfl) ?_
     show JobAt _ _ _ _ (Act.put _ (some 46) (El E7)) _ _
     simp only [Act.put, List.setIfInBounds_toArray, List.set_cons_zero, List.set_cons_succ]
     intro W K hS' hK
     unfold wpOp
     go_simp
     left
     refine (sub_v E7 E0 E8 _ lE7 lE0 HE8.out).mono ?_
     rintro e v ⟨rfl, b⟩
     exact hK _ _ rfl b (fun g hg => ((block_agg _) g hg).elim)
    ·
     refine job_frame [⟨12, 48⟩] (by kernel_rfl) ?_
     show JobAt _ _ _ _ (Act.put _ (some 48) (El E8)) _ _
     simp only [Act.put, List.setIfInBounds_toArray, List.set_cons_zero, List.set_cons_succ]
     intro W K hS' hK
     unfold wpOp
     go_simp
     left
     refine (sub_v E8 E1 E9 _ lE8 lE1 HE9.out).mono ?_
     rintro e v ⟨rfl, b⟩
     exact hK _ _ rfl b (fun g hg => ((block_agg _) g hg).elim)
    ·
     refine job_frame [] (by kernel_rfl) ?_
     show JobAt _ _ _ _ _ _ _
     exact job_alloc 83 (El_cells 0) _ _ rfl rfl rfl (fun W => by go_simp; rfl)
   ·
    intro f W hS2 hB1 hR hF hA
    have e4 : f 4 = (El E5) := hR ⟨4, 40⟩ (by simp)
    have e9 : f 9 = (El E6) := hR ⟨9, 45⟩ (by simp)
    have e10 : f 10 = (El E7) := hR ⟨10, 46⟩ (by simp)
    have e12 : f 12 = (El E8) := hR ⟨12, 48⟩ (by simp)
    have e14 : f 14 = (El E9) := hR ⟨14, 50⟩ (by simp)
    obtain ⟨g15r3, e15, A15⟩ : ∃ g, f 15 = .pointer (some ⟨g, 0, none⟩) ∧ Blk W g 83 (El_cells 0) := hR ⟨15, 9⟩ (by simp)
    have n15 : _ ≤ g15r3 := (hF ⟨15, 9⟩ (by simp) g15r3 (by show blockOf (f 15) = _; rw [e15]; rfl)).1
    have m15 : w.heap.size ≤ g15r3 := Nat.le_trans hB.size n15
    have u15 := Nat.lt_of_lt_of_le K2.lt n15
    clear hA hF hR
    simp only [setAll, putAll, List.map_cons, List.map_nil, List.foldr_cons, List.foldr_nil, Act.put, List.setIfInBounds_toArray, List.set_cons_zero, List.set_cons_succ, e4, e9, e10, e12, e14, e15]
    clear e4 e9 e10 e12 e14 e15
    have hBs := hB1
    replace hB1 := below_setRow hB1 n15 (El_cells E9)
    refine wpAnyZ_store_row 16 rfl (by kernel_rfl) rfl _ _ _ rfl g15r3 (El_cells E9) rfl rfl _ _ A15 (info_El _) (El_same _ _) (El_one _) (hS.below hB1) ?_
    try simp only [Act.put, List.setIfInBounds_toArray, List.set_cons_zero, List.set_cons_succ]
    replace A15 := A15.row (El_cells E9)
    refine wpAnyZ_done (by kernel_rfl) ?_ _
    replace K2 := K2.below' hB1
    have hS3 := hS.below hB1
    replace hB := hB.trans (hB1.mono hB.size)
    clear hS hS2 hB1 hBs
    have hS : Facts [.blk (g15r3) 83 (El_cells E9), .blk (g8r2) 83 (El_cells E4), .blk (g15r1) 83 (El_cells E0), .blk (g16r1) 83 (El_cells E1), .blk (g17r1) 83 (El_cells E2), .blk (w.heap.size) 85 (Pc ⟨X, Y, Z, T⟩), .blk (w.heap.size + 1) 85 (Pc ⟨X', Y', Z', T'⟩), .rng 3 (Iv .u8 (keyOf dN))] _ := Facts.cons (f := .blk g15r3 83 (El_cells E9)) A15 (hS3)
    clear hS3
    try clear n15
    clear A15
    generalize hWn : World.setRow _ _ _ = Wn at *
    clear hWn
    go_upto_region 4 with fail
    refine wp_region_seq ?_
    refine wpSeq_yield (S := Facts [.blk (g15r3) 83 (El_cells E9), .blk (g8r2) 83 (El_cells E4), .blk (g15r1) 83 (El_cells E0), .blk (g16r1) 83 (El_cells E1), .blk (g17r1) 83 (El_cells E2), .blk (w.heap.size) 85 (Pc ⟨X, Y, Z, T⟩), .blk (w.heap.size + 1) 85 (Pc ⟨X', Y', Z', T'⟩), .rng 3 (Iv .u8 (keyOf dN))]) (show YieldsIf _ _ _ _ (El E1) _ from yieldsIf_load rfl 83 _ rfl (g16r1) rfl 83 _ _ (.tail _ (.tail _ (.tail _ (.head _)))) Tryz.underlying83 rfl (info_El _)) hS ?_
    simp only [Act.put, List.setIfInBounds_toArray, List.set_cons_zero, List.set_cons_succ]
    refine wpSeq_yield (S := Facts [.blk (g15r3) 83 (El_cells E9), .blk (g8r2) 83 (El_cells E4), .blk (g15r1) 83 (El_cells E0), .blk (g16r1) 83 (El_cells E1), .blk (g17r1) 83 (El_cells E2), .blk (w.heap.size) 85 (Pc ⟨X, Y, Z, T⟩), .blk (w.heap.size + 1) 85 (Pc ⟨X', Y', Z', T'⟩), .rng 3 (Iv .u8 (keyOf dN))]) (show YieldsIf _ _ _ _ (El E0) _ from yieldsIf_load rfl 83 _ rfl (g15r1) rfl 83 _ _ (.tail _ (.tail _ (.head _))) Tryz.underlying83 rfl (info_El _)) hS ?_
    simp only [Act.put, List.setIfInBounds_toArray, List.set_cons_zero, List.set_cons_succ]
    refine wpSeq_wp rfl ?_
    go_simp
    refine (add_v E1 E0 E10 _ lE1 lE0 HE10.out).mono ?_
    rintro e v1 ⟨rfl, b⟩
    replace hB := hB.trans (b.mono hB.size)
    replace hS := hS.below b
    replace K2 := K2.below' b
    clear b
    show wpSeq _ _ _ _ _ _
    refine wpSeq_allocQ 83 (El_cells 0) rfl (fun W => by go_simp; rfl) ?_
    intro B1 C1 AB1 b mB1
    simp only [Act.put, List.setIfInBounds_toArray, List.set_cons_zero, List.set_cons_succ]
    have hb := b
    clear b
    refine wpSeq_store_row rfl 83 _ _ rfl (B1) (El_cells E10) rfl rfl _ _ AB1 (info_El _) (El_same _ _) (El_one _) ?_
    try simp only [Act.put, List.setIfInBounds_toArray, List.set_cons_zero, List.set_cons_succ]
    replace AB1 := AB1.row (El_cells E10)
    replace hb := below_setRow hb mB1 (El_cells E10)
    generalize hWn : World.setRow _ _ _ = Wn at *
    clear hWn
    have eB1_0 := Nat.lt_of_lt_of_le (hS.blkAt (g15r3) 83 (El_cells E9) (.head _)).lt mB1
    have eB1_1 := Nat.lt_of_lt_of_le (hS.blkAt (g8r2) 83 (El_cells E4) (.tail _ (.head _))).lt mB1
    have eB1_2 := Nat.lt_of_lt_of_le (hS.blkAt (g15r1) 83 (El_cells E0) (.tail _ (.tail _ (.head _)))).lt mB1
    have eB1_3 := Nat.lt_of_lt_of_le (hS.blkAt (g16r1) 83 (El_cells E1) (.tail _ (.tail _ (.tail _ (.head _))))).lt mB1
    have eB1_4 := Nat.lt_of_lt_of_le (hS.blkAt (g17r1) 83 (El_cells E2) (.tail _ (.tail _ (.tail _ (.tail _ (.head _)))))).lt mB1
    have uB1_K2 := Nat.lt_of_lt_of_le K2.lt mB1
    replace mB1 := Nat.le_trans hB.size mB1
    replace hB := hB.trans (hb.mono hB.size)
    replace hS := hS.below hb
    replace K2 := K2.below' hb
    clear hb
    replace hS : Facts [.blk (B1) 83 (El_cells E10), .blk (g15r3) 83 (El_cells E9), .blk (g8r2) 83 (El_cells E4), .blk (g15r1) 83 (El_cells E0), .blk (g16r1) 83 (El_cells E1), .blk (g17r1) 83 (El_cells E2), .blk (w.heap.size) 85 (Pc ⟨X, Y, Z, T⟩), .blk (w.heap.size + 1) 85 (Pc ⟨X', Y', Z', T'⟩), .rng 3 (Iv .u8 (keyOf dN))] _ := Facts.cons (f := .blk B1 83 (El_cells E10)) AB1 hS
    clear AB1
    refine wpSeq_nil ?_
    go_upto_region 5 with fail
    replace hS := hS.drew
    replace hB := below_drew hB
    replace K2 := K2.drew
    refine wp_region_Z (S := Facts [.blk (B1) 83 (El_cells E10), .blk (g15r3) 83 (El_cells E9), .blk (g8r2) 83 (El_cells E4), .blk (g15r1) 83 (El_cells E0), .blk (g16r1) 83 (El_cells E1), .blk (g17r1) 83 (El_cells E2), .blk (w.heap.size) 85 (Pc ⟨X, Y, Z, T⟩), .blk (w.heap.size + 1) 85 (Pc ⟨X', Y', Z', T'⟩), .rng 3 (Iv .u8 (keyOf dN))]) 9 (by kernel_rfl) ?_
    refine wpAnyZ_takeL 0 rfl (by kernel_rfl) (by kernel_rfl) (by kernel_rfl) (by kernel_rfl) (by kernel_rfl) (fun _ _ _ h => h) (show YieldsIf _ _ _ _ (El E2) _ from yieldsIf_load rfl 83 _ rfl (g17r1) rfl 83 _ _ (.tail _ (.tail _ (.tail _ (.tail _ (.tail _ (.head _)))))) Tryz.underlying83 rfl (info_El _)) hS ?_
    simp only [Act.put, List.setIfInBounds_toArray, List.set_cons_zero, List.set_cons_succ]
    refine wpAnyZ_takeL 1 rfl (by kernel_rfl) (by kernel_rfl) (by kernel_rfl) (by kernel_rfl) (by kernel_rfl) (fun _ _ _ h => h) (show YieldsIf _ _ _ _ (El E4) _ from yieldsIf_load rfl 83 _ rfl (g8r2) rfl 83 _ _ (.tail _ (.tail _ (.head _))) Tryz.underlying83 rfl (info_El _)) hS ?_
    simp only [Act.put, List.setIfInBounds_toArray, List.set_cons_zero, List.set_cons_succ]
    refine wpAnyZ_takeL 3 rfl (by kernel_rfl) (by kernel_rfl) (by kernel_rfl) (by kernel_rfl) (by kernel_rfl) (fun _ _ _ h => h) (show YieldsIf _ _ _ _ (El E2) _ from yieldsIf_load rfl 83 _ rfl (g17r1) rfl 83 _ _ (.tail _ (.tail _ (.tail _ (.tail _ (.tail _ (.head _)))))) Tryz.underlying83 rfl (info_El _)) hS ?_
    simp only [Act.put, List.setIfInBounds_toArray, List.set_cons_zero, List.set_cons_succ]
    refine wpAnyZ_takeL 4 rfl (by kernel_rfl) (by kernel_rfl) (by kernel_rfl) (by kernel_rfl) (by kernel_rfl) (fun _ _ _ h => h) (show YieldsIf _ _ _ _ (El E4) _ from yieldsIf_load rfl 83 _ rfl (g8r2) rfl 83 _ _ (.tail _ (.tail _ (.head _))) Tryz.underlying83 rfl (info_El _)) hS ?_
    simp only [Act.put, List.setIfInBounds_toArray, List.set_cons_zero, List.set_cons_succ]
    refine wpAnyZ_jobsL [(⟨2, 56⟩, .is (El E11)), (⟨5, 59⟩, .is (El E12)), (⟨6, 11⟩, .rel (fun v w' => ∃ g, v = .pointer (some ⟨g, 0, none⟩) ∧ Blk w' g 83 (El_cells 0))), (⟨7, 12⟩, .rel (fun v w' => ∃ g, v = .pointer (some ⟨g, 0, none⟩) ∧ Blk w' g 83 (El_cells 0)))] [] 2 _ _ _ (by kernel_rfl) (fun _ _ _ _ _ h => h) ?_ (fun _ _ _ _ _ h => h) (fun _ _ h hb => h.below hb) hS ?_ ?_ ?_
    · exact fun _ _ h => by cases h
    ·
     intro j hj
     simp only [List.map_cons, List.map_nil, List.mem_cons, List.not_mem_nil, or_false] at hj
     rcases hj with rfl | rfl | rfl | rfl
     · exact fun _ _ _ h _ => h
     · exact fun _ _ _ h _ => h
     ·
      intro v w1 w2 h hb
      obtain ⟨g, e, H⟩ : ∃ g, v = .pointer (some ⟨g, 0, none⟩) ∧ Blk w1 g 83 (El_cells 0) := h
      exact ⟨g, e, H.below' hb⟩
     ·
      intro v w1 w2 h hb
      obtain ⟨g, e, H⟩ : ∃ g, v = .pointer (some ⟨g, 0, none⟩) ∧ Blk w1 g 83 (El_cells 0) := h
      exact ⟨g, e, H.below' hb⟩
    ·
     intro j hj
     simp only [List.map_cons, List.map_nil, List.mem_cons, List.not_mem_nil, or_false] at hj
     rcases hj with rfl | rfl | rfl | rfl
     ·
      refine job_frame [] (by kernel_rfl) ?_
      show JobAt _ _ _ _ _ _ _
      simp only [putAll, List.foldr_nil]
      intro W K hS' hK
      unfold wpOp
      go_simp
      left
      refine (add_v E2 E4 E11 _ lE2 lE4 HE11.out).mono ?_
      rintro e v ⟨rfl, b⟩
      exact hK _ _ rfl b (fun g hg => ((block_agg _) g hg).elim)
     ·
      refine job_frame [] (by kernel_rfl) ?_
      show JobAt _ _ _ _ _ _ _
      simp only [putAll, List.foldr_nil]
      intro W K hS' hK
      unfold wpOp
      go_simp
      left
      refine (sub_v E2 E4 E12 _ lE2 lE4 HE12.out).mono ?_
      rintro e v ⟨rfl, b⟩
      exact hK _ _ rfl b (fun g hg => ((block_agg _) g hg).elim)
     ·
      refine job_frame [] (by kernel_rfl) ?_
      show JobAt _ _ _ _ _ _ _
      exact job_alloc 83 (El_cells 0) _ _ rfl rfl rfl (fun W => by go_simp; rfl)
     ·
      refine job_frame [] (by kernel_rfl) ?_
      show JobAt _ _ _ _ _ _ _
      exact job_alloc 83 (El_cells 0) _ _ rfl rfl rfl (fun W => by go_simp; rfl)
    ·
     intro f W hS2 hB1 hR hF hA
     have e2 : f 2 = (El E11) := hR ⟨2, 56⟩ (by simp)
     have e5 : f 5 = (El E12) := hR ⟨5, 59⟩ (by simp)
     obtain ⟨g6r5, e6, A6⟩ : ∃ g, f 6 = .pointer (some ⟨g, 0, none⟩) ∧ Blk W g 83 (El_cells 0) := hR ⟨6, 11⟩ (by simp)
     have n6 : _ ≤ g6r5 := (hF ⟨6, 11⟩ (by simp) g6r5 (by show blockOf (f 6) = _; rw [e6]; rfl)).1
     have m6 : w.heap.size ≤ g6r5 := Nat.le_trans hB.size n6
     have u6 := Nat.lt_of_lt_of_le K2.lt n6
     obtain ⟨g7r5, e7, A7⟩ : ∃ g, f 7 = .pointer (some ⟨g, 0, none⟩) ∧ Blk W g 83 (El_cells 0) := hR ⟨7, 12⟩ (by simp)
     have n7 : _ ≤ g7r5 := (hF ⟨7, 12⟩ (by simp) g7r5 (by show blockOf (f 7) = _; rw [e7]; rfl)).1
     have m7 : w.heap.size ≤ g7r5 := Nat.le_trans hB.size n7
     have u7 := Nat.lt_of_lt_of_le K2.lt n7
     have d6_7 : g6r5 ≠ g7r5 := fun h => hA ⟨6, 11⟩ (by simp) ⟨7, 12⟩ (by simp) (by decide) g6r5 (by show blockOf (f 6) = _; rw [e6]; rfl) (by show blockOf (f 7) = _; rw [e7, h]; rfl)
     clear hA hF hR
     simp only [setAll, putAll, List.map_cons, List.map_nil, List.foldr_cons, List.foldr_nil, Act.put, List.setIfInBounds_toArray, List.set_cons_zero, List.set_cons_succ, e2, e5, e6, e7]
     clear e2 e5 e6 e7
     have hBs := hB1
     replace hB1 := below_setRow hB1 n6 (El_cells E11)
     refine wpAnyZ_store_row 8 rfl (by kernel_rfl) rfl _ _ _ rfl g6r5 (El_cells E11) rfl rfl _ _ A6 (info_El _) (El_same _ _) (El_one _) (hS.below hB1) ?_
     try simp only [Act.put, List.setIfInBounds_toArray, List.set_cons_zero, List.set_cons_succ]
     replace A7 := A7.rowFar (Ne.symm d6_7) (El_cells E11)
     replace A6 := A6.row (El_cells E11)
     replace hB1 := below_setRow hB1 n7 (El_cells E12)
     refine wpAnyZ_store_row 9 rfl (by kernel_rfl) rfl _ _ _ rfl g7r5 (El_cells E12) rfl rfl _ _ A7 (info_El _) (El_same _ _) (El_one _) (hS.below hB1) ?_
     try simp only [Act.put, List.setIfInBounds_toArray, List.set_cons_zero, List.set_cons_succ]
     replace A6 := A6.rowFar d6_7 (El_cells E12)
     replace A7 := A7.row (El_cells E12)
     refine wpAnyZ_done (by kernel_rfl) ?_ _
     replace K2 := K2.below' hB1
     have hS3 := hS.below hB1
     replace hB := hB.trans (hB1.mono hB.size)
     clear hS hS2 hB1 hBs
     have hS : Facts [.blk (g6r5) 83 (El_cells E11), .blk (g7r5) 83 (El_cells E12), .blk (B1) 83 (El_cells E10), .blk (g15r3) 83 (El_cells E9), .blk (g8r2) 83 (El_cells E4), .blk (g15r1) 83 (El_cells E0), .blk (g16r1) 83 (El_cells E1), .blk (g17r1) 83 (El_cells E2), .blk (w.heap.size) 85 (Pc ⟨X, Y, Z, T⟩), .blk (w.heap.size + 1) 85 (Pc ⟨X', Y', Z', T'⟩), .rng 3 (Iv .u8 (keyOf dN))] _ := Facts.cons (f := .blk g6r5 83 (El_cells E11)) A6 (Facts.cons (f := .blk g7r5 83 (El_cells E12)) A7 (hS3))
     clear hS3
     try clear n6 n7
     clear A6 A7
     generalize hWn : World.setRow _ _ _ = Wn at *
     clear hWn
     go_upto_region 6 with fail
     replace hS := hS.drew
     replace hB := below_drew hB
     replace K2 := K2.drew
     refine wp_region_Z (S := Facts [.blk (g6r5) 83 (El_cells E11), .blk (g7r5) 83 (El_cells E12), .blk (B1) 83 (El_cells E10), .blk (g15r3) 83 (El_cells E9), .blk (g8r2) 83 (El_cells E4), .blk (g15r1) 83 (El_cells E0), .blk (g16r1) 83 (El_cells E1), .blk (g17r1) 83 (El_cells E2), .blk (w.heap.size) 85 (Pc ⟨X, Y, Z, T⟩), .blk (w.heap.size + 1) 85 (Pc ⟨X', Y', Z', T'⟩), .rng 3 (Iv .u8 (keyOf dN))]) 13 (by kernel_rfl) ?_
     refine wpAnyZ_takeL 0 rfl (by kernel_rfl) (by kernel_rfl) (by kernel_rfl) (by kernel_rfl) (by kernel_rfl) (fun _ _ _ h => h) (show YieldsIf _ _ _ _ (El E9) _ from yieldsIf_load rfl 83 _ rfl (g15r3) rfl 83 _ _ (.tail _ (.tail _ (.tail _ (.head _)))) Tryz.underlying83 rfl (info_El _)) hS ?_
     simp only [Act.put, List.setIfInBounds_toArray, List.set_cons_zero, List.set_cons_succ]
     refine wpAnyZ_takeL 1 rfl (by kernel_rfl) (by kernel_rfl) (by kernel_rfl) (by kernel_rfl) (by kernel_rfl) (fun _ _ _ h => h) (show YieldsIf _ _ _ _ (El E12) _ from yieldsIf_load rfl 83 _ rfl (g7r5) rfl 83 _ _ (.tail _ (.head _)) Tryz.underlying83 rfl (info_El _)) hS ?_
     simp only [Act.put, List.setIfInBounds_toArray, List.set_cons_zero, List.set_cons_succ]
     refine wpAnyZ_takeL 3 rfl (by kernel_rfl) (by kernel_rfl) (by kernel_rfl) (by kernel_rfl) (by kernel_rfl) (fun _ _ _ h => h) (show YieldsIf _ _ _ _ (El E10) _ from yieldsIf_load rfl 83 _ rfl (B1) rfl 83 _ _ (.tail _ (.tail _ (.head _))) Tryz.underlying83 rfl (info_El _)) hS ?_
     simp only [Act.put, List.setIfInBounds_toArray, List.set_cons_zero, List.set_cons_succ]
     refine wpAnyZ_takeL 4 rfl (by kernel_rfl) (by kernel_rfl) (by kernel_rfl) (by kernel_rfl) (by kernel_rfl) (fun _ _ _ h => h) (show YieldsIf _ _ _ _ (El E11) _ from yieldsIf_load rfl 83 _ rfl (g6r5) rfl 83 _ _ (.head _) Tryz.underlying83 rfl (info_El _)) hS ?_
     simp only [Act.put, List.setIfInBounds_toArray, List.set_cons_zero, List.set_cons_succ]
     refine wpAnyZ_takeL 6 rfl (by kernel_rfl) (by kernel_rfl) (by kernel_rfl) (by kernel_rfl) (by kernel_rfl) (fun _ _ _ h => h) (show YieldsIf _ _ _ _ (El E11) _ from yieldsIf_load rfl 83 _ rfl (g6r5) rfl 83 _ _ (.head _) Tryz.underlying83 rfl (info_El _)) hS ?_
     simp only [Act.put, List.setIfInBounds_toArray, List.set_cons_zero, List.set_cons_succ]
     refine wpAnyZ_takeL 7 rfl (by kernel_rfl) (by kernel_rfl) (by kernel_rfl) (by kernel_rfl) (by kernel_rfl) (fun _ _ _ h => h) (show YieldsIf _ _ _ _ (El E12) _ from yieldsIf_load rfl 83 _ rfl (g7r5) rfl 83 _ _ (.tail _ (.head _)) Tryz.underlying83 rfl (info_El _)) hS ?_
     simp only [Act.put, List.setIfInBounds_toArray, List.set_cons_zero, List.set_cons_succ]
     refine wpAnyZ_takeL 9 rfl (by kernel_rfl) (by kernel_rfl) (by kernel_rfl) (by kernel_rfl) (by kernel_rfl) (fun _ _ _ h => h) (show YieldsIf _ _ _ _ (El E9) _ from yieldsIf_load rfl 83 _ rfl (g15r3) rfl 83 _ _ (.tail _ (.tail _ (.tail _ (.head _)))) Tryz.underlying83 rfl (info_El _)) hS ?_
     simp only [Act.put, List.setIfInBounds_toArray, List.set_cons_zero, List.set_cons_succ]
     refine wpAnyZ_takeL 10 rfl (by kernel_rfl) (by kernel_rfl) (by kernel_rfl) (by kernel_rfl) (by kernel_rfl) (fun _ _ _ h => h) (show YieldsIf _ _ _ _ (El E10) _ from yieldsIf_load rfl 83 _ rfl (B1) rfl 83 _ _ (.tail _ (.tail _ (.head _))) Tryz.underlying83 rfl (info_El _)) hS ?_
     simp only [Act.put, List.setIfInBounds_toArray, List.set_cons_zero, List.set_cons_succ]
     refine wpAnyZ_one (i := 2) (by kernel_rfl) ?_
     unfold wpOp
     go_simp
     left
     refine (mul_v E9 E12 E13 _ lE9 lE12 HE13.out).mono ?_
     rintro e v2 ⟨rfl, b⟩
     replace hB := hB.trans (b.mono hB.size)
     replace hS := hS.below b
     replace K2 := K2.below' b
     clear b
     refine ⟨hS, ?_⟩
     refine wpAnyZ_one (i := 5) (by kernel_rfl) ?_
     unfold wpOp
     go_simp
     left
     refine (mul_v E10 E11 E14 _ lE10 lE11 HE14.out).mono ?_
     rintro e v3 ⟨rfl, b⟩
     replace hB := hB.trans (b.mono hB.size)
     replace hS := hS.below b
     replace K2 := K2.below' b
     clear b
     refine ⟨hS, ?_⟩
     refine wpAnyZ_one (i := 8) (by kernel_rfl) ?_
     unfold wpOp
     go_simp
     left
     refine (mul_v E11 E12 E15 _ lE11 lE12 HE15.out).mono ?_
     rintro e v4 ⟨rfl, b⟩
     replace hB := hB.trans (b.mono hB.size)
     replace hS := hS.below b
     replace K2 := K2.below' b
     clear b
     refine ⟨hS, ?_⟩
     refine wpAnyZ_one (i := 11) (by kernel_rfl) ?_
     unfold wpOp
     go_simp
     left
     refine (mul_v E9 E10 E16 _ lE9 lE10 HE16.out).mono ?_
     rintro e v5 ⟨rfl, b⟩
     replace hB := hB.trans (b.mono hB.size)
     replace hS := hS.below b
     replace K2 := K2.below' b
     clear b
     refine ⟨hS, ?_⟩
     refine wpAnyZ_takeL 12 rfl (by kernel_rfl) (by kernel_rfl) (by kernel_rfl) (by kernel_rfl) (by kernel_rfl) (fun _ _ _ h => h) (yieldsIf_pt rfl _ _ _ _ rfl E13 E14 E15 E16 rfl rfl rfl rfl) hS ?_
     simp only [Act.put, List.setIfInBounds_toArray, List.set_cons_zero, List.set_cons_succ]
     refine wpAnyZ_store_end 13 rfl (by kernel_rfl) rfl _ _ _ rfl (w.heap.size + 1 + 1) (Pc ⟨E13, E14, E15, E16⟩) rfl rfl _ _ K2 (info_Pc _) (Pc_same _ _) (Pc_one _) (by kernel_rfl) ?_
     try simp only [Act.put, List.setIfInBounds_toArray, List.set_cons_zero, List.set_cons_succ]
     replace hB := below_setRow hB (g := w.heap.size + 1 + 1) (by omega) (Pc ⟨E13, E14, E15, E16⟩)
     replace hS : Facts [.blk (g6r5) 83 (El_cells E11), .blk (g7r5) 83 (El_cells E12), .blk (B1) 83 (El_cells E10), .blk (g15r3) 83 (El_cells E9), .blk (g8r2) 83 (El_cells E4), .blk (g15r1) 83 (El_cells E0), .blk (g16r1) 83 (El_cells E1), .blk (g17r1) 83 (El_cells E2), .blk (w.heap.size) 85 (Pc ⟨X, Y, Z, T⟩), .blk (w.heap.size + 1) 85 (Pc ⟨X', Y', Z', T'⟩), .rng 3 (Iv .u8 (keyOf dN))] _ := Facts.cons (f := .blk (g6r5) 83 (El_cells E11)) ((hS.blkAt (g6r5) 83 (El_cells E11) (.head _)).rowFar (k := w.heap.size + 1 + 1) (blk_ne (hS.blkAt (g6r5) 83 (El_cells E11) (.head _)) K2 (by decide)) (Pc ⟨E13, E14, E15, E16⟩)) (Facts.cons (f := .blk (g7r5) 83 (El_cells E12)) ((hS.blkAt (g7r5) 83 (El_cells E12) (.tail _ (.head _))).rowFar (k := w.heap.size + 1 + 1) (blk_ne (hS.blkAt (g7r5) 83 (El_cells E12) (.tail _ (.head _))) K2 (by decide)) (Pc ⟨E13, E14, E15, E16⟩)) (Facts.cons (f := .blk (B1) 83 (El_cells E10)) ((hS.blkAt (B1) 83 (El_cells E10) (.tail _ (.tail _ (.head _)))).rowFar (k := w.heap.size + 1 + 1) (blk_ne (hS.blkAt (B1) 83 (El_cells E10) (.tail _ (.tail _ (.head _)))) K2 (by decide)) (Pc ⟨E13, E14, E15, E16⟩)) (Facts.cons (f := .blk (g15r3) 83 (El_cells E9)) ((hS.blkAt (g15r3) 83 (El_cells E9) (.tail _ (.tail _ (.tail _ (.head _))))).rowFar (k := w.heap.size + 1 + 1) (blk_ne (hS.blkAt (g15r3) 83 (El_cells E9) (.tail _ (.tail _ (.tail _ (.head _))))) K2 (by decide)) (Pc ⟨E13, E14, E15, E16⟩)) (Facts.cons (f := .blk (g8r2) 83 (El_cells E4)) ((hS.blkAt (g8r2) 83 (El_cells E4) (.tail _ (.tail _ (.tail _ (.tail _ (.head _)))))).rowFar (k := w.heap.size + 1 + 1) (blk_ne (hS.blkAt (g8r2) 83 (El_cells E4) (.tail _ (.tail _ (.tail _ (.tail _ (.head _)))))) K2 (by decide)) (Pc ⟨E13, E14, E15, E16⟩)) (Facts.cons (f := .blk (g15r1) 83 (El_cells E0)) ((hS.blkAt (g15r1) 83 (El_cells E0) (.tail _ (.tail _ (.tail _ (.tail _ (.tail _ (.head _))))))).rowFar (k := w.heap.size + 1 + 1) (blk_ne (hS.blkAt (g15r1) 83 (El_cells E0) (.tail _ (.tail _ (.tail _ (.tail _ (.tail _ (.head _))))))) K2 (by decide)) (Pc ⟨E13, E14, E15, E16⟩)) (Facts.cons (f := .blk (g16r1) 83 (El_cells E1)) ((hS.blkAt (g16r1) 83 (El_cells E1) (.tail _ (.tail _ (.tail _ (.tail _ (.tail _ (.tail _ (.head _)))))))).rowFar (k := w.heap.size + 1 + 1) (blk_ne (hS.blkAt (g16r1) 83 (El_cells E1) (.tail _ (.tail _ (.tail _ (.tail _ (.tail _ (.tail _ (.head _)))))))) K2 (by decide)) (Pc ⟨E13, E14, E15, E16⟩)) (Facts.cons (f := .blk (g17r1) 83 (El_cells E2)) ((hS.blkAt (g17r1) 83 (El_cells E2) (.tail _ (.tail _ (.tail _ (.tail _ (.tail _ (.tail _ (.tail _ (.head _))))))))).rowFar (k := w.heap.size + 1 + 1) (blk_ne (hS.blkAt (g17r1) 83 (El_cells E2) (.tail _ (.tail _ (.tail _ (.tail _ (.tail _ (.tail _ (.tail _ (.head _))))))))) K2 (by decide)) (Pc ⟨E13, E14, E15, E16⟩)) (Facts.cons (f := .blk (w.heap.size) 85 (Pc ⟨X, Y, Z, T⟩)) ((hS.blkAt (w.heap.size) 85 (Pc ⟨X, Y, Z, T⟩) (.tail _ (.tail _ (.tail _ (.tail _ (.tail _ (.tail _ (.tail _ (.tail _ (.head _)))))))))).rowFar (k := w.heap.size + 1 + 1) (by omega) (Pc ⟨E13, E14, E15, E16⟩)) (Facts.cons (f := .blk (w.heap.size + 1) 85 (Pc ⟨X', Y', Z', T'⟩)) ((hS.blkAt (w.heap.size + 1) 85 (Pc ⟨X', Y', Z', T'⟩) (.tail _ (.tail _ (.tail _ (.tail _ (.tail _ (.tail _ (.tail _ (.tail _ (.tail _ (.head _))))))))))).rowFar (k := w.heap.size + 1 + 1) (by omega) (Pc ⟨E13, E14, E15, E16⟩)) (Facts.cons (f := .rng 3 (Iv .u8 (keyOf dN))) ((hS.rngAt _ _ (.tail _ (.tail _ (.tail _ (.tail _ (.tail _ (.tail _ (.tail _ (.tail _ (.tail _ (.tail _ (.head _)))))))))))).rowFar (k := w.heap.size + 1 + 1) (by omega) (Pc ⟨E13, E14, E15, E16⟩)) (Facts.nil)))))))))))
     replace K2 := K2.row (Pc ⟨E13, E14, E15, E16⟩)
     generalize hWn : World.setRow _ _ _ = Wn at *
     clear hWn
     refine wpAnyZ_done (by kernel_rfl) ?_ _
     go_wp2
     exact bodyPost_ret (results_cell_row rfl _ _ _ 85 _ (0, 0) _ rfl K2 Tryz.underlying85 rfl (info_Pc _)) rfl ⟨by simp only [PV, padd, pXX, pYY, pZZ, pDT, pCr, pSt, pUx, pUy, fm, fs, fa, HE0.out, HE1.out, HE2.out, HE3.out, HE4.out, HE5.out, HE6.out, HE7.out, HE8.out, HE9.out, HE10.out, HE11.out, HE12.out, HE13.out, HE14.out, HE15.out, HE16.out], hB⟩
end Go.Proofs.YtegbnadnodlalaaGreatDoor
