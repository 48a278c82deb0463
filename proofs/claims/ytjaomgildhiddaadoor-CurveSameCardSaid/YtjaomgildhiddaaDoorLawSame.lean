/- The law CurveSame (printed by gencurve.py). -/
import Derived.Test.YtjaomgildhiddaaDoorPn
namespace Go.Proofs.YtjaomgildhiddaaDoor
open Go.RowKit

open Ed
theorem same_pt (P B : Pt dd) : P = add ok (add ok P B) (neg B) := by rw [Ed.add_assoc, Ed.add_neg, Ed.add_zero]
theorem same_a (P B : Pt dd) : decide (textN P = textN (add ok (add ok P B) (neg B))) = true := decide_eq_true (by rw [← same_pt])
set_option maxHeartbeats 8000000 in
set_option maxRecDepth 100000 in
theorem same_t (NA NB : Nat) (kNA : NA < p256) (kNB : NB < p256) (w : World) (GX : Rng w 0 (Iv .u8 (keyOf bxN))) (GY : Rng w 1 (Iv .u8 (keyOf byN))) (GD : Rng w 2 (Iv .u8 (keyOf dN))) :
    Calls Tryd.prog 7 #[Key (keyOf NA), Key (keyOf NB), .bool true] w fun e w' => e = .returned (.bool true) ∧ Below w.heap.size w w' := by
  have bGX := GX.blk
  have bGY := GY.blk
  have bGD := GD.blk
  have ipbase := pbase_is
  have ipzero := pzero_is
  unfold Key
  go_enter Tryd.func7, Tryd.ntmps7
  go_upto_region 1 with fail
  generalize hW : World.alloc (World.alloc w _) _ = W
  have hB : Below w.heap.size w W := hW ▸ ((Below.refl w.heap.size w).alloc (Nat.le_refl _) _).alloc (by simp) _
  have K0 : Blk W (w.heap.size) 23 (Iv .u8 (keyOf NA)) := hW ▸ ((Blk.new' (by simp) _ _).alloc _)
  have K1 : Blk W (w.heap.size + 1) 23 (Iv .u8 (keyOf NB)) := hW ▸ (Blk.new' (by simp) _ _)
  have hS : Facts [.blk (w.heap.size) 23 (Iv .u8 (keyOf NA)), .blk (w.heap.size + 1) 23 (Iv .u8 (keyOf NB)), .rng 0 (Iv .u8 (keyOf bxN)), .rng 1 (Iv .u8 (keyOf byN)), .rng 2 (Iv .u8 (keyOf dN))] W := Facts.cons (f := .blk (w.heap.size) 23 (Iv .u8 (keyOf NA))) K0 (Facts.cons (f := .blk (w.heap.size + 1) 23 (Iv .u8 (keyOf NB))) K1 (Facts.cons (f := .rng 0 (Iv .u8 (keyOf bxN))) (GX.below hB) (Facts.cons (f := .rng 1 (Iv .u8 (keyOf byN))) (GY.below hB) (Facts.cons (f := .rng 2 (Iv .u8 (keyOf dN))) (GD.below hB) (Facts.nil)))))
  clear hW K0 K1
  refine wp_region_seq ?_
  refine wpSeq_wp rfl ?_
  go_simp
  refine (awake_any _ (hS.rngAt _ _ (.tail _ (.tail _ (.head _)))) (hS.rngAt _ _ (.tail _ (.tail _ (.tail _ (.head _)))))).mono ?_
  rintro e v1 ⟨rfl, b⟩
  replace hB := hB.trans (b.mono hB.size)
  replace hS := hS.below b
  clear b
  show wpSeq _ _ _ _ _ _
  refine wpSeq_yield (S := Facts [.blk (w.heap.size) 23 (Iv .u8 (keyOf NA)), .blk (w.heap.size + 1) 23 (Iv .u8 (keyOf NB)), .rng 0 (Iv .u8 (keyOf bxN)), .rng 1 (Iv .u8 (keyOf byN)), .rng 2 (Iv .u8 (keyOf dN))]) (yieldsIf_not rfl _ _ rfl true rfl) hS ?_
  simp only [Act.put, List.setIfInBounds_toArray, List.set_cons_zero, List.set_cons_succ]
  refine wpSeq_nil ?_
  go_upto_region 3 with fail
  replace hS := hS.drew
  replace hB := below_drew hB
  refine wp_region_Z (S := Facts [.blk (w.heap.size) 23 (Iv .u8 (keyOf NA)), .blk (w.heap.size + 1) 23 (Iv .u8 (keyOf NB)), .rng 0 (Iv .u8 (keyOf bxN)), .rng 1 (Iv .u8 (keyOf byN)), .rng 2 (Iv .u8 (keyOf dN))]) 9 (by kernel_rfl) ?_
  refine wpAnyZ_takeL 0 rfl (by kernel_rfl) (by kernel_rfl) (by kernel_rfl) (by kernel_rfl) (by kernel_rfl) (fun _ _ _ h => h) (show YieldsIf _ _ _ _ (Key (keyOf NA)) _ from yieldsIf_load rfl 23 _ rfl (w.heap.size) rfl 23 _ _ (.head _) Tryd.underlying23 rfl (info_key _ (keyOf_length _))) hS ?_
  simp only [Act.put, List.setIfInBounds_toArray, List.set_cons_zero, List.set_cons_succ]
  refine wpAnyZ_takeL 3 rfl (by kernel_rfl) (by kernel_rfl) (by kernel_rfl) (by kernel_rfl) (by kernel_rfl) (fun _ _ _ h => h) (show YieldsIf _ _ _ _ (Key (keyOf NB)) _ from yieldsIf_load rfl 23 _ rfl (w.heap.size + 1) rfl 23 _ _ (.tail _ (.head _)) Tryd.underlying23 rfl (info_key _ (keyOf_length _))) hS ?_
  simp only [Act.put, List.setIfInBounds_toArray, List.set_cons_zero, List.set_cons_succ]
  obtain ⟨q0, hq0⟩ : ∃ q : P4, q = pmul NA pbase 256 := ⟨_, rfl⟩
  have iq0 : q0.Is (times ok NA bb) := by rw [hq0]; exact pmul_is256 NA kNA ipbase
  have Hq0 := Lib.hid hq0
  clear hq0
  obtain ⟨q1, hq1⟩ : ∃ q : P4, q = pmul NB pbase 256 := ⟨_, rfl⟩
  have iq1 : q1.Is (times ok NB bb) := by rw [hq1]; exact pmul_is256 NB kNB ipbase
  have Hq1 := Lib.hid hq1
  clear hq1
  refine wpAnyZ_jobsL [(⟨1, 14⟩, .is (PV pbase)), (⟨2, 15⟩, .is (PV q0)), (⟨4, 17⟩, .is (PV pbase)), (⟨5, 18⟩, .is (PV q1)), (⟨6, 7⟩, .rel (fun v w' => ∃ g, v = .pointer (some ⟨g, 0, none⟩) ∧ Blk w' g 38 (Pc p40))), (⟨7, 8⟩, .rel (fun v w' => ∃ g, v = .pointer (some ⟨g, 0, none⟩) ∧ Blk w' g 38 (Pc p40)))] [] 2 _ _ _ (by kernel_rfl) (fun _ _ _ _ _ h => h) ?_ (fun _ _ _ _ _ h => h) (fun _ _ h hb => h.below hb) hS ?_ ?_ ?_
  · exact fun _ _ h => by cases h
  · intro j hj
    simp only [List.map_cons, List.map_nil, List.mem_cons, List.not_mem_nil, or_false] at hj
    rcases hj with rfl | rfl | rfl | rfl | rfl | rfl
    · exact fun _ _ _ h _ => h
    · exact fun _ _ _ h _ => h
    · exact fun _ _ _ h _ => h
    · exact fun _ _ _ h _ => h
    · intro v w1 w2 h hb
      obtain ⟨g, e, H⟩ : ∃ g, v = .pointer (some ⟨g, 0, none⟩) ∧ Blk w1 g 38 (Pc p40) := h
      exact ⟨g, e, H.below' hb⟩
    · intro v w1 w2 h hb
      obtain ⟨g, e, H⟩ : ∃ g, v = .pointer (some ⟨g, 0, none⟩) ∧ Blk w1 g 38 (Pc p40) := h
      exact ⟨g, e, H.below' hb⟩
  · intro j hj
    simp only [List.map_cons, List.map_nil, List.mem_cons, List.not_mem_nil, or_false] at hj
    rcases hj with rfl | rfl | rfl | rfl | rfl | rfl
    · refine job_frame [] (by kernel_rfl) ?_
      show JobAt _ _ _ _ _ _ _
      simp only [putAll, List.foldr_nil]
      intro W K hS' hK
      unfold wpOp
      go_simp
      left
      refine (cbase_v _ (hS'.rngAt _ _ (.tail _ (.tail _ (.head _)))) (hS'.rngAt _ _ (.tail _ (.tail _ (.tail _ (.head _)))))).mono ?_
      rintro e v ⟨rfl, b⟩
      exact hK _ _ rfl b (fun g hg => ((block_agg _) g hg).elim)
    · refine job_frame [⟨1, 14⟩] (by kernel_rfl) ?_
      show JobAt _ _ _ _ (Act.put _ (some 14) (PV pbase)) _ _
      simp only [Act.put, List.setIfInBounds_toArray, List.set_cons_zero, List.set_cons_succ]
      intro W K hS' hK
      unfold wpOp
      go_simp
      left
      refine (mul_d NA pbase q0 kNA ipbase.ok Hq0.out _ (hS'.rngAt _ _ (.tail _ (.tail _ (.tail _ (.tail _ (.head _))))))).mono ?_
      rintro e v ⟨rfl, b⟩
      exact hK _ _ rfl b (fun g hg => ((block_agg _) g hg).elim)
    · refine job_frame [] (by kernel_rfl) ?_
      show JobAt _ _ _ _ _ _ _
      simp only [putAll, List.foldr_nil]
      intro W K hS' hK
      unfold wpOp
      go_simp
      left
      refine (cbase_v _ (hS'.rngAt _ _ (.tail _ (.tail _ (.head _)))) (hS'.rngAt _ _ (.tail _ (.tail _ (.tail _ (.head _)))))).mono ?_
      rintro e v ⟨rfl, b⟩
      exact hK _ _ rfl b (fun g hg => ((block_agg _) g hg).elim)
    · refine job_frame [⟨4, 17⟩] (by kernel_rfl) ?_
      show JobAt _ _ _ _ (Act.put _ (some 17) (PV pbase)) _ _
      simp only [Act.put, List.setIfInBounds_toArray, List.set_cons_zero, List.set_cons_succ]
      intro W K hS' hK
      unfold wpOp
      go_simp
      left
      refine (mul_d NB pbase q1 kNB ipbase.ok Hq1.out _ (hS'.rngAt _ _ (.tail _ (.tail _ (.tail _ (.tail _ (.head _))))))).mono ?_
      rintro e v ⟨rfl, b⟩
      exact hK _ _ rfl b (fun g hg => ((block_agg _) g hg).elim)
    · refine job_frame [] (by kernel_rfl) ?_
      show JobAt _ _ _ _ _ _ _
      exact job_alloc 38 (Pc p40) _ _ rfl rfl rfl (fun W => by go_simp; rfl)
    · refine job_frame [] (by kernel_rfl) ?_
      show JobAt _ _ _ _ _ _ _
      exact job_alloc 38 (Pc p40) _ _ rfl rfl rfl (fun W => by go_simp; rfl)
  · intro f W hS2 hB1 hR hF hA
    have e1 : f 1 = (PV pbase) := hR ⟨1, 14⟩ (by simp)
    have e2 : f 2 = (PV q0) := hR ⟨2, 15⟩ (by simp)
    have e4 : f 4 = (PV pbase) := hR ⟨4, 17⟩ (by simp)
    have e5 : f 5 = (PV q1) := hR ⟨5, 18⟩ (by simp)
    obtain ⟨g6r3, e6, A6⟩ : ∃ g, f 6 = .pointer (some ⟨g, 0, none⟩) ∧ Blk W g 38 (Pc p40) := hR ⟨6, 7⟩ (by simp)
    have n6 : _ ≤ g6r3 := (hF ⟨6, 7⟩ (by simp) g6r3 (by show blockOf (f 6) = _; rw [e6]; rfl)).1
    have m6 : w.heap.size ≤ g6r3 := Nat.le_trans hB.size n6
    obtain ⟨g7r3, e7, A7⟩ : ∃ g, f 7 = .pointer (some ⟨g, 0, none⟩) ∧ Blk W g 38 (Pc p40) := hR ⟨7, 8⟩ (by simp)
    have n7 : _ ≤ g7r3 := (hF ⟨7, 8⟩ (by simp) g7r3 (by show blockOf (f 7) = _; rw [e7]; rfl)).1
    have m7 : w.heap.size ≤ g7r3 := Nat.le_trans hB.size n7
    have d6_7 : g6r3 ≠ g7r3 := fun h => hA ⟨6, 7⟩ (by simp) ⟨7, 8⟩ (by simp) (by decide) g6r3 (by show blockOf (f 6) = _; rw [e6]; rfl) (by show blockOf (f 7) = _; rw [e7, h]; rfl)
    clear hA hF hR
    simp only [setAll, putAll, List.map_cons, List.map_nil, List.foldr_cons, List.foldr_nil, Act.put, List.setIfInBounds_toArray, List.set_cons_zero, List.set_cons_succ, e1, e2, e4, e5, e6, e7]
    clear e1 e2 e4 e5 e6 e7
    have hBs := hB1
    replace hB1 := below_setRow hB1 n6 (Pc q0)
    refine wpAnyZ_store_row 8 rfl (by kernel_rfl) rfl _ _ _ rfl g6r3 (Pc q0) rfl rfl _ _ A6 (info_Pc _) (Pc_same _ _) (Pc_one _) (hS.below hB1) ?_
    try simp only [Act.put, List.setIfInBounds_toArray, List.set_cons_zero, List.set_cons_succ]
    replace A7 := A7.rowFar (Ne.symm d6_7) (Pc q0)
    replace A6 := A6.row (Pc q0)
    replace hB1 := below_setRow hB1 n7 (Pc q1)
    refine wpAnyZ_store_row 9 rfl (by kernel_rfl) rfl _ _ _ rfl g7r3 (Pc q1) rfl rfl _ _ A7 (info_Pc _) (Pc_same _ _) (Pc_one _) (hS.below hB1) ?_
    try simp only [Act.put, List.setIfInBounds_toArray, List.set_cons_zero, List.set_cons_succ]
    replace A6 := A6.rowFar d6_7 (Pc q1)
    replace A7 := A7.row (Pc q1)
    refine wpAnyZ_done (by kernel_rfl) ?_ _
    have hS3 := hS.below hB1
    replace hB := hB.trans (hB1.mono hB.size)
    clear hS hS2 hB1 hBs
    have hS : Facts [.blk (g6r3) 38 (Pc q0), .blk (g7r3) 38 (Pc q1), .blk (w.heap.size) 23 (Iv .u8 (keyOf NA)), .blk (w.heap.size + 1) 23 (Iv .u8 (keyOf NB)), .rng 0 (Iv .u8 (keyOf bxN)), .rng 1 (Iv .u8 (keyOf byN)), .rng 2 (Iv .u8 (keyOf dN))] _ := Facts.cons (f := .blk g6r3 38 (Pc q0)) A6 (Facts.cons (f := .blk g7r3 38 (Pc q1)) A7 (hS3))
    clear hS3
    try clear n6 n7
    clear A6 A7
    generalize hWn : World.setRow _ _ _ = Wn at *
    clear hWn
    go_upto_region 4 with fail
    refine wp_region_seq ?_
    refine wpSeq_yield (S := Facts [.blk (g6r3) 38 (Pc q0), .blk (g7r3) 38 (Pc q1), .blk (w.heap.size) 23 (Iv .u8 (keyOf NA)), .blk (w.heap.size + 1) 23 (Iv .u8 (keyOf NB)), .rng 0 (Iv .u8 (keyOf bxN)), .rng 1 (Iv .u8 (keyOf byN)), .rng 2 (Iv .u8 (keyOf dN))]) (yieldsIf_move rfl _ rfl _ rfl) hS ?_
    simp only [Act.put, List.setIfInBounds_toArray, List.set_cons_zero, List.set_cons_succ]
    refine wpSeq_nil ?_
    go_upto_region 5 with fail
    replace hS := hS.drew
    replace hB := below_drew hB
    refine wp_region_Z (S := Facts [.blk (g6r3) 38 (Pc q0), .blk (g7r3) 38 (Pc q1), .blk (w.heap.size) 23 (Iv .u8 (keyOf NA)), .blk (w.heap.size + 1) 23 (Iv .u8 (keyOf NB)), .rng 0 (Iv .u8 (keyOf bxN)), .rng 1 (Iv .u8 (keyOf byN)), .rng 2 (Iv .u8 (keyOf dN))]) 6 (by kernel_rfl) ?_
    refine wpAnyZ_takeL 0 rfl (by kernel_rfl) (by kernel_rfl) (by kernel_rfl) (by kernel_rfl) (by kernel_rfl) (fun _ _ _ h => h) (show YieldsIf _ _ _ _ (PV q0) _ from yieldsIf_load rfl 38 _ rfl (g6r3) rfl 38 _ _ (.head _) Tryd.underlying38 rfl (info_Pc _)) hS ?_
    simp only [Act.put, List.setIfInBounds_toArray, List.set_cons_zero, List.set_cons_succ]
    refine wpAnyZ_one (i := 1) (by kernel_rfl) ?_
    unfold wpOp
    go_simp
    left
    refine (cbase_v _ (hS.rngAt _ _ (.tail _ (.tail _ (.tail _ (.tail _ (.head _)))))) (hS.rngAt _ _ (.tail _ (.tail _ (.tail _ (.tail _ (.tail _ (.head _)))))))).mono ?_
    rintro e v2 ⟨rfl, b⟩
    replace hB := hB.trans (b.mono hB.size)
    replace hS := hS.below b
    clear b
    refine ⟨hS, ?_⟩
    refine wpAnyZ_one (i := 2) (by kernel_rfl) ?_
    unfold wpOp
    go_simp
    left
    refine (cbase_v _ (hS.rngAt _ _ (.tail _ (.tail _ (.tail _ (.tail _ (.head _)))))) (hS.rngAt _ _ (.tail _ (.tail _ (.tail _ (.tail _ (.tail _ (.head _)))))))).mono ?_
    rintro e v3 ⟨rfl, b⟩
    replace hB := hB.trans (b.mono hB.size)
    replace hS := hS.below b
    clear b
    refine ⟨hS, ?_⟩
    obtain ⟨q2, hq2⟩ : ∃ q : P4, q = pneg pbase := ⟨_, rfl⟩
    have iq2 : q2.Is (neg bb) := by rw [hq2]; exact pneg_is ipbase
    have Hq2 := Lib.hid hq2
    clear hq2
    refine wpAnyZ_one (i := 3) (by kernel_rfl) ?_
    unfold wpOp
    go_simp
    left
    refine (neg_d pbase q2 ipbase.ok Hq2.out _).mono ?_
    rintro e v4 ⟨rfl, b⟩
    replace hB := hB.trans (b.mono hB.size)
    replace hS := hS.below b
    clear b
    refine ⟨hS, ?_⟩
    refine wpAnyZ_points 4 rfl (by kernel_rfl) rfl 3 _ rfl [q0, pbase, q2] (parts3 rfl rfl rfl) rfl (by decide) (by decide) (fun W b => hS.below b) ?_
    intro G1 CG1 AG1 b mG1
    replace hB := hB.trans (b.mono hB.size)
    replace hS := hS.below b
    clear b mG1
    simp only [Act.put, List.setIfInBounds_toArray, List.set_cons_zero, List.set_cons_succ]
    obtain ⟨q3, hq3⟩ : ∃ q : P4, q = psum [q0, pbase, q2] := ⟨_, rfl⟩
    have iq3 : q3.Is (add ok (add ok (times ok NA bb) bb) (neg bb)) := by rw [hq3]; exact psum3 iq0 ipbase iq2
    have Hq3 := Lib.hid hq3
    clear hq3
    refine wpAnyZ_one (i := 5) (by kernel_rfl) ?_
    unfold wpOp
    go_simp
    left
    refine (add_d3 q0 pbase q2 q3 iq0.ok ipbase.ok iq2.ok G1 _ AG1 (hS.rngAt _ _ (.tail _ (.tail _ (.tail _ (.tail _ (.tail _ (.tail _ (.head _)))))))) Hq3.out).mono ?_
    rintro e v5 ⟨rfl, b⟩
    replace hB := hB.trans (b.mono hB.size)
    replace hS := hS.below b
    replace AG1 := AG1.below' b
    clear b
    refine ⟨hS, ?_⟩
    have hS9 : Facts [.blk (g6r3) 38 (Pc q0), .blk (g7r3) 38 (Pc q3), .blk (w.heap.size) 23 (Iv .u8 (keyOf NA)), .blk (w.heap.size + 1) 23 (Iv .u8 (keyOf NB)), .rng 0 (Iv .u8 (keyOf bxN)), .rng 1 (Iv .u8 (keyOf byN)), .rng 2 (Iv .u8 (keyOf dN))] (World.setRow _ (g7r3) (Pc q3)) := Facts.cons (f := .blk (g6r3) 38 (Pc q0)) ((hS.blkAt (g6r3) 38 (Pc q0) (.head _)).rowFar (k := g7r3) (by first | omega | exact blk_ne (hS.blkAt _ _ _ (.head _)) (hS.blkAt _ _ _ (.tail _ (.head _))) (by decide)) _) (Facts.cons (f := .blk (g7r3) 38 (Pc q3)) ((hS.blkAt (g7r3) 38 (Pc q1) (.tail _ (.head _))).row _) (Facts.cons (f := .blk (w.heap.size) 23 (Iv .u8 (keyOf NA))) ((hS.blkAt (w.heap.size) 23 (Iv .u8 (keyOf NA)) (.tail _ (.tail _ (.head _)))).rowFar (k := g7r3) (blk_ne (hS.blkAt _ _ _ (.tail _ (.tail _ (.head _)))) (hS.blkAt _ _ _ (.tail _ (.head _))) (by decide)) _) (Facts.cons (f := .blk (w.heap.size + 1) 23 (Iv .u8 (keyOf NB))) ((hS.blkAt (w.heap.size + 1) 23 (Iv .u8 (keyOf NB)) (.tail _ (.tail _ (.tail _ (.head _))))).rowFar (k := g7r3) (blk_ne (hS.blkAt _ _ _ (.tail _ (.tail _ (.tail _ (.head _))))) (hS.blkAt _ _ _ (.tail _ (.head _))) (by decide)) _) (Facts.cons (f := .rng 0 (Iv .u8 (keyOf bxN))) ((hS.rngAt _ _ (.tail _ (.tail _ (.tail _ (.tail _ (.head _)))))).rowFar (k := g7r3) (by omega) _) (Facts.cons (f := .rng 1 (Iv .u8 (keyOf byN))) ((hS.rngAt _ _ (.tail _ (.tail _ (.tail _ (.tail _ (.tail _ (.head _))))))).rowFar (k := g7r3) (by omega) _) (Facts.cons (f := .rng 2 (Iv .u8 (keyOf dN))) ((hS.rngAt _ _ (.tail _ (.tail _ (.tail _ (.tail _ (.tail _ (.tail _ (.head _)))))))).rowFar (k := g7r3) (by omega) _) (Facts.nil)))))))
    refine wpAnyZ_store_end 6 rfl (by kernel_rfl) rfl _ _ _ rfl (g7r3) (Pc q3) rfl rfl _ _ (hS.blkAt _ _ _ (.tail _ (.head _))) (info_Pc _) (Pc_same _ _) (Pc_one _) (by kernel_rfl) ?_
    try simp only [Act.put, List.setIfInBounds_toArray, List.set_cons_zero, List.set_cons_succ]
    replace hB := below_setRow hB (g := g7r3) (by omega) (Pc q3)
    replace hS := hS9
    clear hS9
    generalize hWn : World.setRow _ _ _ = Wn at *
    clear hWn
    refine wpAnyZ_done (by kernel_rfl) ?_ _
    go_upto_region 6 with fail
    refine wp_region_seq ?_
    refine wpSeq_yield (S := Facts [.blk (g6r3) 38 (Pc q0), .blk (g7r3) 38 (Pc q3), .blk (w.heap.size) 23 (Iv .u8 (keyOf NA)), .blk (w.heap.size + 1) 23 (Iv .u8 (keyOf NB)), .rng 0 (Iv .u8 (keyOf bxN)), .rng 1 (Iv .u8 (keyOf byN)), .rng 2 (Iv .u8 (keyOf dN))]) (show YieldsIf _ _ _ _ (PV q0) _ from yieldsIf_load rfl 38 _ rfl (g6r3) rfl 38 _ _ (.head _) Tryd.underlying38 rfl (info_Pc _)) hS ?_
    simp only [Act.put, List.setIfInBounds_toArray, List.set_cons_zero, List.set_cons_succ]
    obtain ⟨T0, hT0⟩ : ∃ t : Nat, t = textN (times ok NA bb) := ⟨_, rfl⟩
    have kT0 : T0 < p256 := by rw [hT0]; exact textN_lt _
    have HT0 := Lib.hid hT0
    clear hT0
    refine wpSeq_wp rfl ?_
    go_simp
    refine (cenc q0 (times ok NA bb) iq0 T0 HT0.out _).mono ?_
    rintro e v6 ⟨rfl, b⟩
    replace hB := hB.trans (b.mono hB.size)
    replace hS := hS.below b
    clear b
    show wpSeq _ _ _ _ _ _
    refine wpSeq_wp rfl ?_
    go_simp
    refine (cdec_some T0 kT0 (times ok NA bb) HT0.out.symm _).mono ?_
    rintro e v7 ⟨p7, rfl, ip7, b⟩
    replace hB := hB.trans (b.mono hB.size)
    replace hS := hS.below b
    clear b
    show wpSeq _ _ _ _ _ _
    refine wpSeq_yield (S := Facts [.blk (g6r3) 38 (Pc q0), .blk (g7r3) 38 (Pc q3), .blk (w.heap.size) 23 (Iv .u8 (keyOf NA)), .blk (w.heap.size + 1) 23 (Iv .u8 (keyOf NB)), .rng 0 (Iv .u8 (keyOf bxN)), .rng 1 (Iv .u8 (keyOf byN)), .rng 2 (Iv .u8 (keyOf dN))]) (yieldsIf_move rfl _ rfl _ rfl) hS ?_
    simp only [Act.put, List.setIfInBounds_toArray, List.set_cons_zero, List.set_cons_succ]
    refine wpSeq_yield (S := Facts [.blk (g6r3) 38 (Pc q0), .blk (g7r3) 38 (Pc q3), .blk (w.heap.size) 23 (Iv .u8 (keyOf NA)), .blk (w.heap.size + 1) 23 (Iv .u8 (keyOf NB)), .rng 0 (Iv .u8 (keyOf bxN)), .rng 1 (Iv .u8 (keyOf byN)), .rng 2 (Iv .u8 (keyOf dN))]) (show YieldsIf _ _ _ _ (PV p7) _ from yieldsIf_extract rfl _ _ rfl _ rfl _ rfl) hS ?_
    simp only [Act.put, List.setIfInBounds_toArray, List.set_cons_zero, List.set_cons_succ]
    refine wpSeq_yield (S := Facts [.blk (g6r3) 38 (Pc q0), .blk (g7r3) 38 (Pc q3), .blk (w.heap.size) 23 (Iv .u8 (keyOf NA)), .blk (w.heap.size + 1) 23 (Iv .u8 (keyOf NB)), .rng 0 (Iv .u8 (keyOf bxN)), .rng 1 (Iv .u8 (keyOf byN)), .rng 2 (Iv .u8 (keyOf dN))]) (show YieldsIf _ _ _ _ (.bool true) _ from yieldsIf_extract rfl _ _ rfl _ rfl _ rfl) hS ?_
    simp only [Act.put, List.setIfInBounds_toArray, List.set_cons_zero, List.set_cons_succ]
    refine wpSeq_allocQ 38 (Pc p40) rfl (fun W => by go_simp; rfl) ?_
    intro B2 C2 AB2 b mB2
    simp only [Act.put, List.setIfInBounds_toArray, List.set_cons_zero, List.set_cons_succ]
    have hb := b
    clear b
    refine wpSeq_store_row rfl 38 _ _ rfl (B2) (Pc p7) rfl rfl _ _ AB2 (info_Pc _) (Pc_same _ _) (Pc_one _) ?_
    try simp only [Act.put, List.setIfInBounds_toArray, List.set_cons_zero, List.set_cons_succ]
    replace AB2 := AB2.row (Pc p7)
    replace hb := below_setRow hb mB2 (Pc p7)
    generalize hWn : World.setRow _ _ _ = Wn at *
    clear hWn
    have eB2_0 := Nat.lt_of_lt_of_le (hS.blkAt (g6r3) 38 (Pc q0) (.head _)).lt mB2
    have eB2_1 := Nat.lt_of_lt_of_le (hS.blkAt (g7r3) 38 (Pc q3) (.tail _ (.head _))).lt mB2
    replace mB2 := Nat.le_trans hB.size mB2
    replace hB := hB.trans (hb.mono hB.size)
    replace hS := hS.below hb
    clear hb
    replace hS : Facts [.blk (B2) 38 (Pc p7), .blk (g6r3) 38 (Pc q0), .blk (g7r3) 38 (Pc q3), .blk (w.heap.size) 23 (Iv .u8 (keyOf NA)), .blk (w.heap.size + 1) 23 (Iv .u8 (keyOf NB)), .rng 0 (Iv .u8 (keyOf bxN)), .rng 1 (Iv .u8 (keyOf byN)), .rng 2 (Iv .u8 (keyOf dN))] _ := Facts.cons (f := .blk B2 38 (Pc p7)) AB2 hS
    clear AB2
    refine wpSeq_yield (S := Facts [.blk (B2) 38 (Pc p7), .blk (g6r3) 38 (Pc q0), .blk (g7r3) 38 (Pc q3), .blk (w.heap.size) 23 (Iv .u8 (keyOf NA)), .blk (w.heap.size + 1) 23 (Iv .u8 (keyOf NB)), .rng 0 (Iv .u8 (keyOf bxN)), .rng 1 (Iv .u8 (keyOf byN)), .rng 2 (Iv .u8 (keyOf dN))]) (yieldsIf_assign rfl _ rfl _ rfl) hS ?_
    simp only [Act.put, List.setIfInBounds_toArray, List.set_cons_zero, List.set_cons_succ]
    refine wpSeq_nil ?_
    go_upto_region 7 with fail
    replace hS := hS.drew
    replace hB := below_drew hB
    refine wp_region_Z (S := Facts [.blk (B2) 38 (Pc p7), .blk (g6r3) 38 (Pc q0), .blk (g7r3) 38 (Pc q3), .blk (w.heap.size) 23 (Iv .u8 (keyOf NA)), .blk (w.heap.size + 1) 23 (Iv .u8 (keyOf NB)), .rng 0 (Iv .u8 (keyOf bxN)), .rng 1 (Iv .u8 (keyOf byN)), .rng 2 (Iv .u8 (keyOf dN))]) 26 (by kernel_rfl) ?_
    refine wpAnyZ_takeL 0 rfl (by kernel_rfl) (by kernel_rfl) (by kernel_rfl) (by kernel_rfl) (by kernel_rfl) (fun _ _ _ h => h) (show YieldsIf _ _ _ _ (PV q0) _ from yieldsIf_load rfl 38 _ rfl (g6r3) rfl 38 _ _ (.tail _ (.head _)) Tryd.underlying38 rfl (info_Pc _)) hS ?_
    simp only [Act.put, List.setIfInBounds_toArray, List.set_cons_zero, List.set_cons_succ]
    refine wpAnyZ_takeL 1 rfl (by kernel_rfl) (by kernel_rfl) (by kernel_rfl) (by kernel_rfl) (by kernel_rfl) (fun _ _ _ h => h) (show YieldsIf _ _ _ _ (PV q3) _ from yieldsIf_load rfl 38 _ rfl (g7r3) rfl 38 _ _ (.tail _ (.tail _ (.head _))) Tryd.underlying38 rfl (info_Pc _)) hS ?_
    simp only [Act.put, List.setIfInBounds_toArray, List.set_cons_zero, List.set_cons_succ]
    refine wpAnyZ_takeL 3 rfl (by kernel_rfl) (by kernel_rfl) (by kernel_rfl) (by kernel_rfl) (by kernel_rfl) (fun _ _ _ h => h) (show YieldsIf _ _ _ _ (PV q0) _ from yieldsIf_load rfl 38 _ rfl (g6r3) rfl 38 _ _ (.tail _ (.head _)) Tryd.underlying38 rfl (info_Pc _)) hS ?_
    simp only [Act.put, List.setIfInBounds_toArray, List.set_cons_zero, List.set_cons_succ]
    refine wpAnyZ_takeL 5 rfl (by kernel_rfl) (by kernel_rfl) (by kernel_rfl) (by kernel_rfl) (by kernel_rfl) (fun _ _ _ h => h) (show YieldsIf _ _ _ _ (PV q3) _ from yieldsIf_load rfl 38 _ rfl (g7r3) rfl 38 _ _ (.tail _ (.tail _ (.head _))) Tryd.underlying38 rfl (info_Pc _)) hS ?_
    simp only [Act.put, List.setIfInBounds_toArray, List.set_cons_zero, List.set_cons_succ]
    refine wpAnyZ_one (i := 2) (by kernel_rfl) ?_
    unfold wpOp
    go_simp
    left
    refine (csame q0 q3 (times ok NA bb) (add ok (add ok (times ok NA bb) bb) (neg bb)) iq0 iq3 true (same_a _ _) _).mono ?_
    rintro e v8 ⟨rfl, b⟩
    replace hB := hB.trans (b.mono hB.size)
    replace hS := hS.below b
    clear b
    refine ⟨hS, ?_⟩
    refine wpAnyZ_one (i := 4) (by kernel_rfl) ?_
    unfold wpOp
    go_simp
    left
    refine (cenc q0 (times ok NA bb) iq0 T0 HT0.out _).mono ?_
    rintro e v9 ⟨rfl, b⟩
    replace hB := hB.trans (b.mono hB.size)
    replace hS := hS.below b
    clear b
    refine ⟨hS, ?_⟩
    obtain ⟨T1, hT1⟩ : ∃ t : Nat, t = textN (add ok (add ok (times ok NA bb) bb) (neg bb)) := ⟨_, rfl⟩
    have kT1 : T1 < p256 := by rw [hT1]; exact textN_lt _
    have HT1 := Lib.hid hT1
    clear hT1
    refine wpAnyZ_one (i := 6) (by kernel_rfl) ?_
    unfold wpOp
    go_simp
    left
    refine (cenc q3 (add ok (add ok (times ok NA bb) bb) (neg bb)) iq3 T1 HT1.out _).mono ?_
    rintro e v10 ⟨rfl, b⟩
    replace hB := hB.trans (b.mono hB.size)
    replace hS := hS.below b
    clear b
    refine ⟨hS, ?_⟩
    refine wpAnyZ_takeL 7 rfl (by kernel_rfl) (by kernel_rfl) (by kernel_rfl) (by kernel_rfl) (by kernel_rfl) (fun _ _ _ h => h) (yieldsIf_eqlk rfl _ _ rfl T0 T1 rfl rfl true kT0 kT1 (by rw [HT0.out, HT1.out]; exact same_a _ _)) hS ?_
    simp only [Act.put, List.setIfInBounds_toArray, List.set_cons_zero, List.set_cons_succ]
    refine wpAnyZ_takeL 8 rfl (by kernel_rfl) (by kernel_rfl) (by kernel_rfl) (by kernel_rfl) (by kernel_rfl) (fun _ _ _ h => h) (yieldsIf_eqlb rfl _ _ rfl true true rfl rfl true (beq_self_eq_true true)) hS ?_
    simp only [Act.put, List.setIfInBounds_toArray, List.set_cons_zero, List.set_cons_succ]
    refine wpAnyZ_takeL 9 rfl (by kernel_rfl) (by kernel_rfl) (by kernel_rfl) (by kernel_rfl) (by kernel_rfl) (fun _ _ _ h => h) (yieldsIf_move rfl _ rfl _ rfl) hS ?_
    simp only [Act.put, List.setIfInBounds_toArray, List.set_cons_zero, List.set_cons_succ]
    refine wpAnyZ_takeL 10 rfl (by kernel_rfl) (by kernel_rfl) (by kernel_rfl) (by kernel_rfl) (by kernel_rfl) (fun _ _ _ h => h) (yieldsIf_move rfl _ rfl _ rfl) hS ?_
    simp only [Act.put, List.setIfInBounds_toArray, List.set_cons_zero, List.set_cons_succ]
    refine wpAnyZ_takeL 11 rfl (by kernel_rfl) (by kernel_rfl) (by kernel_rfl) (by kernel_rfl) (by kernel_rfl) (fun _ _ _ h => h) (yieldsIf_not rfl _ _ rfl true rfl) hS ?_
    simp only [Act.put, List.setIfInBounds_toArray, List.set_cons_zero, List.set_cons_succ]
    refine wpAnyZ_takeL 12 rfl (by kernel_rfl) (by kernel_rfl) (by kernel_rfl) (by kernel_rfl) (by kernel_rfl) (fun _ _ _ h => h) (yieldsIf_move rfl _ rfl _ rfl) hS ?_
    simp only [Act.put, List.setIfInBounds_toArray, List.set_cons_zero, List.set_cons_succ]
    refine wpAnyZ_takeL 13 rfl (by kernel_rfl) (by kernel_rfl) (by kernel_rfl) (by kernel_rfl) (by kernel_rfl) (fun _ _ _ h => h) (show YieldsIf _ _ _ _ (PV q0) _ from yieldsIf_load rfl 38 _ rfl (g6r3) rfl 38 _ _ (.tail _ (.head _)) Tryd.underlying38 rfl (info_Pc _)) hS ?_
    simp only [Act.put, List.setIfInBounds_toArray, List.set_cons_zero, List.set_cons_succ]
    refine wpAnyZ_takeL 14 rfl (by kernel_rfl) (by kernel_rfl) (by kernel_rfl) (by kernel_rfl) (by kernel_rfl) (fun _ _ _ h => h) (show YieldsIf _ _ _ _ (PV q3) _ from yieldsIf_load rfl 38 _ rfl (g7r3) rfl 38 _ _ (.tail _ (.tail _ (.head _))) Tryd.underlying38 rfl (info_Pc _)) hS ?_
    simp only [Act.put, List.setIfInBounds_toArray, List.set_cons_zero, List.set_cons_succ]
    refine wpAnyZ_one (i := 15) (by kernel_rfl) ?_
    unfold wpOp
    go_simp
    left
    refine (csame q0 q3 (times ok NA bb) (add ok (add ok (times ok NA bb) bb) (neg bb)) iq0 iq3 true (same_a _ _) _).mono ?_
    rintro e v11 ⟨rfl, b⟩
    replace hB := hB.trans (b.mono hB.size)
    replace hS := hS.below b
    clear b
    refine ⟨hS, ?_⟩
    refine wpAnyZ_takeL 16 rfl (by kernel_rfl) (by kernel_rfl) (by kernel_rfl) (by kernel_rfl) (by kernel_rfl) (fun _ _ _ h => h) (yieldsIf_pick rfl _ _ _ rfl false rfl _ rfl) hS ?_
    simp only [Act.put, List.setIfInBounds_toArray, List.set_cons_zero, List.set_cons_succ]
    refine wpAnyZ_takeL 17 rfl (by kernel_rfl) (by kernel_rfl) (by kernel_rfl) (by kernel_rfl) (by kernel_rfl) (fun _ _ _ h => h) (yieldsIf_pick rfl _ _ _ rfl true rfl _ rfl) hS ?_
    simp only [Act.put, List.setIfInBounds_toArray, List.set_cons_zero, List.set_cons_succ]
    refine wpAnyZ_takeL 18 rfl (by kernel_rfl) (by kernel_rfl) (by kernel_rfl) (by kernel_rfl) (by kernel_rfl) (fun _ _ _ h => h) (yieldsIf_move rfl _ rfl _ rfl) hS ?_
    simp only [Act.put, List.setIfInBounds_toArray, List.set_cons_zero, List.set_cons_succ]
    refine wpAnyZ_takeL 19 rfl (by kernel_rfl) (by kernel_rfl) (by kernel_rfl) (by kernel_rfl) (by kernel_rfl) (fun _ _ _ h => h) (yieldsIf_move rfl _ rfl _ rfl) hS ?_
    simp only [Act.put, List.setIfInBounds_toArray, List.set_cons_zero, List.set_cons_succ]
    refine wpAnyZ_takeL 20 rfl (by kernel_rfl) (by kernel_rfl) (by kernel_rfl) (by kernel_rfl) (by kernel_rfl) (fun _ _ _ h => h) (yieldsIf_pick rfl _ _ _ rfl true rfl _ rfl) hS ?_
    simp only [Act.put, List.setIfInBounds_toArray, List.set_cons_zero, List.set_cons_succ]
    refine wpAnyZ_takeL 21 rfl (by kernel_rfl) (by kernel_rfl) (by kernel_rfl) (by kernel_rfl) (by kernel_rfl) (fun _ _ _ h => h) (yieldsIf_move rfl _ rfl _ rfl) hS ?_
    simp only [Act.put, List.setIfInBounds_toArray, List.set_cons_zero, List.set_cons_succ]
    refine wpAnyZ_takeL 22 rfl (by kernel_rfl) (by kernel_rfl) (by kernel_rfl) (by kernel_rfl) (by kernel_rfl) (fun _ _ _ h => h) (show YieldsIf _ _ _ _ (PV p7) _ from yieldsIf_load rfl 38 _ rfl (B2) rfl 38 _ _ (.head _) Tryd.underlying38 rfl (info_Pc _)) hS ?_
    simp only [Act.put, List.setIfInBounds_toArray, List.set_cons_zero, List.set_cons_succ]
    refine wpAnyZ_takeL 23 rfl (by kernel_rfl) (by kernel_rfl) (by kernel_rfl) (by kernel_rfl) (by kernel_rfl) (fun _ _ _ h => h) (show YieldsIf _ _ _ _ (PV q0) _ from yieldsIf_load rfl 38 _ rfl (g6r3) rfl 38 _ _ (.tail _ (.head _)) Tryd.underlying38 rfl (info_Pc _)) hS ?_
    simp only [Act.put, List.setIfInBounds_toArray, List.set_cons_zero, List.set_cons_succ]
    refine wpAnyZ_one (i := 24) (by kernel_rfl) ?_
    unfold wpOp
    go_simp
    left
    refine (csame p7 q0 (times ok NA bb) (times ok NA bb) ip7 iq0 true (decide_eq_true rfl) _).mono ?_
    rintro e v12 ⟨rfl, b⟩
    replace hB := hB.trans (b.mono hB.size)
    replace hS := hS.below b
    clear b
    refine ⟨hS, ?_⟩
    refine wpAnyZ_takeL 25 rfl (by kernel_rfl) (by kernel_rfl) (by kernel_rfl) (by kernel_rfl) (by kernel_rfl) (fun _ _ _ h => h) (yieldsIf_pick rfl _ _ _ rfl true rfl _ rfl) hS ?_
    simp only [Act.put, List.setIfInBounds_toArray, List.set_cons_zero, List.set_cons_succ]
    refine wpAnyZ_one (i := 26) (by kernel_rfl) ?_
    unfold wpOp
    go_simp
    left
    refine wpAnyZ_done (by kernel_rfl) ?_ _
    go_wp2
    exact bodyPost_ret (results_tmp rfl _ _ _) rfl ⟨rfl, hB⟩
set_option maxHeartbeats 8000000 in
set_option maxRecDepth 100000 in
theorem same_f (NA NB : Nat) (kNA : NA < p256) (kNB : NB < p256) (w : World) (GX : Rng w 0 (Iv .u8 (keyOf bxN))) (GY : Rng w 1 (Iv .u8 (keyOf byN))) (GD : Rng w 2 (Iv .u8 (keyOf dN))) :
    Calls Tryd.prog 7 #[Key (keyOf NA), Key (keyOf NB), .bool false] w fun e w' => e = .returned (.bool true) ∧ Below w.heap.size w w' := by
  have bGX := GX.blk
  have bGY := GY.blk
  have bGD := GD.blk
  have ipbase := pbase_is
  have ipzero := pzero_is
  obtain ⟨c, hc⟩ : ∃ c, decide (textN (times ok NA bb) = textN (times ok NB bb)) = c := ⟨_, rfl⟩
  have HC := Lib.hid hc
  clear hc
  unfold Key
  go_enter Tryd.func7, Tryd.ntmps7
  go_upto_region 1 with fail
  generalize hW : World.alloc (World.alloc w _) _ = W
  have hB : Below w.heap.size w W := hW ▸ ((Below.refl w.heap.size w).alloc (Nat.le_refl _) _).alloc (by simp) _
  have K0 : Blk W (w.heap.size) 23 (Iv .u8 (keyOf NA)) := hW ▸ ((Blk.new' (by simp) _ _).alloc _)
  have K1 : Blk W (w.heap.size + 1) 23 (Iv .u8 (keyOf NB)) := hW ▸ (Blk.new' (by simp) _ _)
  have hS : Facts [.blk (w.heap.size) 23 (Iv .u8 (keyOf NA)), .blk (w.heap.size + 1) 23 (Iv .u8 (keyOf NB)), .rng 0 (Iv .u8 (keyOf bxN)), .rng 1 (Iv .u8 (keyOf byN)), .rng 2 (Iv .u8 (keyOf dN))] W := Facts.cons (f := .blk (w.heap.size) 23 (Iv .u8 (keyOf NA))) K0 (Facts.cons (f := .blk (w.heap.size + 1) 23 (Iv .u8 (keyOf NB))) K1 (Facts.cons (f := .rng 0 (Iv .u8 (keyOf bxN))) (GX.below hB) (Facts.cons (f := .rng 1 (Iv .u8 (keyOf byN))) (GY.below hB) (Facts.cons (f := .rng 2 (Iv .u8 (keyOf dN))) (GD.below hB) (Facts.nil)))))
  clear hW K0 K1
  refine wp_region_seq ?_
  refine wpSeq_wp rfl ?_
  go_simp
  refine (awake_any _ (hS.rngAt _ _ (.tail _ (.tail _ (.head _)))) (hS.rngAt _ _ (.tail _ (.tail _ (.tail _ (.head _)))))).mono ?_
  rintro e v1 ⟨rfl, b⟩
  replace hB := hB.trans (b.mono hB.size)
  replace hS := hS.below b
  clear b
  show wpSeq _ _ _ _ _ _
  refine wpSeq_yield (S := Facts [.blk (w.heap.size) 23 (Iv .u8 (keyOf NA)), .blk (w.heap.size + 1) 23 (Iv .u8 (keyOf NB)), .rng 0 (Iv .u8 (keyOf bxN)), .rng 1 (Iv .u8 (keyOf byN)), .rng 2 (Iv .u8 (keyOf dN))]) (yieldsIf_not rfl _ _ rfl true rfl) hS ?_
  simp only [Act.put, List.setIfInBounds_toArray, List.set_cons_zero, List.set_cons_succ]
  refine wpSeq_nil ?_
  go_upto_region 3 with fail
  replace hS := hS.drew
  replace hB := below_drew hB
  refine wp_region_Z (S := Facts [.blk (w.heap.size) 23 (Iv .u8 (keyOf NA)), .blk (w.heap.size + 1) 23 (Iv .u8 (keyOf NB)), .rng 0 (Iv .u8 (keyOf bxN)), .rng 1 (Iv .u8 (keyOf byN)), .rng 2 (Iv .u8 (keyOf dN))]) 9 (by kernel_rfl) ?_
  refine wpAnyZ_takeL 0 rfl (by kernel_rfl) (by kernel_rfl) (by kernel_rfl) (by kernel_rfl) (by kernel_rfl) (fun _ _ _ h => h) (show YieldsIf _ _ _ _ (Key (keyOf NA)) _ from yieldsIf_load rfl 23 _ rfl (w.heap.size) rfl 23 _ _ (.head _) Tryd.underlying23 rfl (info_key _ (keyOf_length _))) hS ?_
  simp only [Act.put, List.setIfInBounds_toArray, List.set_cons_zero, List.set_cons_succ]
  refine wpAnyZ_takeL 3 rfl (by kernel_rfl) (by kernel_rfl) (by kernel_rfl) (by kernel_rfl) (by kernel_rfl) (fun _ _ _ h => h) (show YieldsIf _ _ _ _ (Key (keyOf NB)) _ from yieldsIf_load rfl 23 _ rfl (w.heap.size + 1) rfl 23 _ _ (.tail _ (.head _)) Tryd.underlying23 rfl (info_key _ (keyOf_length _))) hS ?_
  simp only [Act.put, List.setIfInBounds_toArray, List.set_cons_zero, List.set_cons_succ]
  obtain ⟨q0, hq0⟩ : ∃ q : P4, q = pmul NA pbase 256 := ⟨_, rfl⟩
  have iq0 : q0.Is (times ok NA bb) := by rw [hq0]; exact pmul_is256 NA kNA ipbase
  have Hq0 := Lib.hid hq0
  clear hq0
  obtain ⟨q1, hq1⟩ : ∃ q : P4, q = pmul NB pbase 256 := ⟨_, rfl⟩
  have iq1 : q1.Is (times ok NB bb) := by rw [hq1]; exact pmul_is256 NB kNB ipbase
  have Hq1 := Lib.hid hq1
  clear hq1
  refine wpAnyZ_jobsL [(⟨1, 14⟩, .is (PV pbase)), (⟨2, 15⟩, .is (PV q0)), (⟨4, 17⟩, .is (PV pbase)), (⟨5, 18⟩, .is (PV q1)), (⟨6, 7⟩, .rel (fun v w' => ∃ g, v = .pointer (some ⟨g, 0, none⟩) ∧ Blk w' g 38 (Pc p40))), (⟨7, 8⟩, .rel (fun v w' => ∃ g, v = .pointer (some ⟨g, 0, none⟩) ∧ Blk w' g 38 (Pc p40)))] [] 2 _ _ _ (by kernel_rfl) (fun _ _ _ _ _ h => h) ?_ (fun _ _ _ _ _ h => h) (fun _ _ h hb => h.below hb) hS ?_ ?_ ?_
  · exact fun _ _ h => by cases h
  · intro j hj
    simp only [List.map_cons, List.map_nil, List.mem_cons, List.not_mem_nil, or_false] at hj
    rcases hj with rfl | rfl | rfl | rfl | rfl | rfl
    · exact fun _ _ _ h _ => h
    · exact fun _ _ _ h _ => h
    · exact fun _ _ _ h _ => h
    · exact fun _ _ _ h _ => h
    · intro v w1 w2 h hb
      obtain ⟨g, e, H⟩ : ∃ g, v = .pointer (some ⟨g, 0, none⟩) ∧ Blk w1 g 38 (Pc p40) := h
      exact ⟨g, e, H.below' hb⟩
    · intro v w1 w2 h hb
      obtain ⟨g, e, H⟩ : ∃ g, v = .pointer (some ⟨g, 0, none⟩) ∧ Blk w1 g 38 (Pc p40) := h
      exact ⟨g, e, H.below' hb⟩
  · intro j hj
    simp only [List.map_cons, List.map_nil, List.mem_cons, List.not_mem_nil, or_false] at hj
    rcases hj with rfl | rfl | rfl | rfl | rfl | rfl
    · refine job_frame [] (by kernel_rfl) ?_
      show JobAt _ _ _ _ _ _ _
      simp only [putAll, List.foldr_nil]
      intro W K hS' hK
      unfold wpOp
      go_simp
      left
      refine (cbase_v _ (hS'.rngAt _ _ (.tail _ (.tail _ (.head _)))) (hS'.rngAt _ _ (.tail _ (.tail _ (.tail _ (.head _)))))).mono ?_
      rintro e v ⟨rfl, b⟩
      exact hK _ _ rfl b (fun g hg => ((block_agg _) g hg).elim)
    · refine job_frame [⟨1, 14⟩] (by kernel_rfl) ?_
      show JobAt _ _ _ _ (Act.put _ (some 14) (PV pbase)) _ _
      simp only [Act.put, List.setIfInBounds_toArray, List.set_cons_zero, List.set_cons_succ]
      intro W K hS' hK
      unfold wpOp
      go_simp
      left
      refine (mul_d NA pbase q0 kNA ipbase.ok Hq0.out _ (hS'.rngAt _ _ (.tail _ (.tail _ (.tail _ (.tail _ (.head _))))))).mono ?_
      rintro e v ⟨rfl, b⟩
      exact hK _ _ rfl b (fun g hg => ((block_agg _) g hg).elim)
    · refine job_frame [] (by kernel_rfl) ?_
      show JobAt _ _ _ _ _ _ _
      simp only [putAll, List.foldr_nil]
      intro W K hS' hK
      unfold wpOp
      go_simp
      left
      refine (cbase_v _ (hS'.rngAt _ _ (.tail _ (.tail _ (.head _)))) (hS'.rngAt _ _ (.tail _ (.tail _ (.tail _ (.head _)))))).mono ?_
      rintro e v ⟨rfl, b⟩
      exact hK _ _ rfl b (fun g hg => ((block_agg _) g hg).elim)
    · refine job_frame [⟨4, 17⟩] (by kernel_rfl) ?_
      show JobAt _ _ _ _ (Act.put _ (some 17) (PV pbase)) _ _
      simp only [Act.put, List.setIfInBounds_toArray, List.set_cons_zero, List.set_cons_succ]
      intro W K hS' hK
      unfold wpOp
      go_simp
      left
      refine (mul_d NB pbase q1 kNB ipbase.ok Hq1.out _ (hS'.rngAt _ _ (.tail _ (.tail _ (.tail _ (.tail _ (.head _))))))).mono ?_
      rintro e v ⟨rfl, b⟩
      exact hK _ _ rfl b (fun g hg => ((block_agg _) g hg).elim)
    · refine job_frame [] (by kernel_rfl) ?_
      show JobAt _ _ _ _ _ _ _
      exact job_alloc 38 (Pc p40) _ _ rfl rfl rfl (fun W => by go_simp; rfl)
    · refine job_frame [] (by kernel_rfl) ?_
      show JobAt _ _ _ _ _ _ _
      exact job_alloc 38 (Pc p40) _ _ rfl rfl rfl (fun W => by go_simp; rfl)
  · intro f W hS2 hB1 hR hF hA
    have e1 : f 1 = (PV pbase) := hR ⟨1, 14⟩ (by simp)
    have e2 : f 2 = (PV q0) := hR ⟨2, 15⟩ (by simp)
    have e4 : f 4 = (PV pbase) := hR ⟨4, 17⟩ (by simp)
    have e5 : f 5 = (PV q1) := hR ⟨5, 18⟩ (by simp)
    obtain ⟨g6r3, e6, A6⟩ : ∃ g, f 6 = .pointer (some ⟨g, 0, none⟩) ∧ Blk W g 38 (Pc p40) := hR ⟨6, 7⟩ (by simp)
    have n6 : _ ≤ g6r3 := (hF ⟨6, 7⟩ (by simp) g6r3 (by show blockOf (f 6) = _; rw [e6]; rfl)).1
    have m6 : w.heap.size ≤ g6r3 := Nat.le_trans hB.size n6
    obtain ⟨g7r3, e7, A7⟩ : ∃ g, f 7 = .pointer (some ⟨g, 0, none⟩) ∧ Blk W g 38 (Pc p40) := hR ⟨7, 8⟩ (by simp)
    have n7 : _ ≤ g7r3 := (hF ⟨7, 8⟩ (by simp) g7r3 (by show blockOf (f 7) = _; rw [e7]; rfl)).1
    have m7 : w.heap.size ≤ g7r3 := Nat.le_trans hB.size n7
    have d6_7 : g6r3 ≠ g7r3 := fun h => hA ⟨6, 7⟩ (by simp) ⟨7, 8⟩ (by simp) (by decide) g6r3 (by show blockOf (f 6) = _; rw [e6]; rfl) (by show blockOf (f 7) = _; rw [e7, h]; rfl)
    clear hA hF hR
    simp only [setAll, putAll, List.map_cons, List.map_nil, List.foldr_cons, List.foldr_nil, Act.put, List.setIfInBounds_toArray, List.set_cons_zero, List.set_cons_succ, e1, e2, e4, e5, e6, e7]
    clear e1 e2 e4 e5 e6 e7
    have hBs := hB1
    replace hB1 := below_setRow hB1 n6 (Pc q0)
    refine wpAnyZ_store_row 8 rfl (by kernel_rfl) rfl _ _ _ rfl g6r3 (Pc q0) rfl rfl _ _ A6 (info_Pc _) (Pc_same _ _) (Pc_one _) (hS.below hB1) ?_
    try simp only [Act.put, List.setIfInBounds_toArray, List.set_cons_zero, List.set_cons_succ]
    replace A7 := A7.rowFar (Ne.symm d6_7) (Pc q0)
    replace A6 := A6.row (Pc q0)
    replace hB1 := below_setRow hB1 n7 (Pc q1)
    refine wpAnyZ_store_row 9 rfl (by kernel_rfl) rfl _ _ _ rfl g7r3 (Pc q1) rfl rfl _ _ A7 (info_Pc _) (Pc_same _ _) (Pc_one _) (hS.below hB1) ?_
    try simp only [Act.put, List.setIfInBounds_toArray, List.set_cons_zero, List.set_cons_succ]
    replace A6 := A6.rowFar d6_7 (Pc q1)
    replace A7 := A7.row (Pc q1)
    refine wpAnyZ_done (by kernel_rfl) ?_ _
    have hS3 := hS.below hB1
    replace hB := hB.trans (hB1.mono hB.size)
    clear hS hS2 hB1 hBs
    have hS : Facts [.blk (g6r3) 38 (Pc q0), .blk (g7r3) 38 (Pc q1), .blk (w.heap.size) 23 (Iv .u8 (keyOf NA)), .blk (w.heap.size + 1) 23 (Iv .u8 (keyOf NB)), .rng 0 (Iv .u8 (keyOf bxN)), .rng 1 (Iv .u8 (keyOf byN)), .rng 2 (Iv .u8 (keyOf dN))] _ := Facts.cons (f := .blk g6r3 38 (Pc q0)) A6 (Facts.cons (f := .blk g7r3 38 (Pc q1)) A7 (hS3))
    clear hS3
    try clear n6 n7
    clear A6 A7
    generalize hWn : World.setRow _ _ _ = Wn at *
    clear hWn
    go_upto_region 4 with fail
    refine wp_region_seq ?_
    refine wpSeq_yield (S := Facts [.blk (g6r3) 38 (Pc q0), .blk (g7r3) 38 (Pc q1), .blk (w.heap.size) 23 (Iv .u8 (keyOf NA)), .blk (w.heap.size + 1) 23 (Iv .u8 (keyOf NB)), .rng 0 (Iv .u8 (keyOf bxN)), .rng 1 (Iv .u8 (keyOf byN)), .rng 2 (Iv .u8 (keyOf dN))]) (yieldsIf_move rfl _ rfl _ rfl) hS ?_
    simp only [Act.put, List.setIfInBounds_toArray, List.set_cons_zero, List.set_cons_succ]
    refine wpSeq_nil ?_
    go_upto_region 6 with fail
    refine wp_region_seq ?_
    refine wpSeq_yield (S := Facts [.blk (g6r3) 38 (Pc q0), .blk (g7r3) 38 (Pc q1), .blk (w.heap.size) 23 (Iv .u8 (keyOf NA)), .blk (w.heap.size + 1) 23 (Iv .u8 (keyOf NB)), .rng 0 (Iv .u8 (keyOf bxN)), .rng 1 (Iv .u8 (keyOf byN)), .rng 2 (Iv .u8 (keyOf dN))]) (show YieldsIf _ _ _ _ (PV q0) _ from yieldsIf_load rfl 38 _ rfl (g6r3) rfl 38 _ _ (.head _) Tryd.underlying38 rfl (info_Pc _)) hS ?_
    simp only [Act.put, List.setIfInBounds_toArray, List.set_cons_zero, List.set_cons_succ]
    obtain ⟨T0, hT0⟩ : ∃ t : Nat, t = textN (times ok NA bb) := ⟨_, rfl⟩
    have kT0 : T0 < p256 := by rw [hT0]; exact textN_lt _
    have HT0 := Lib.hid hT0
    clear hT0
    refine wpSeq_wp rfl ?_
    go_simp
    refine (cenc q0 (times ok NA bb) iq0 T0 HT0.out _).mono ?_
    rintro e v2 ⟨rfl, b⟩
    replace hB := hB.trans (b.mono hB.size)
    replace hS := hS.below b
    clear b
    show wpSeq _ _ _ _ _ _
    refine wpSeq_wp rfl ?_
    go_simp
    refine (cdec_some T0 kT0 (times ok NA bb) HT0.out.symm _).mono ?_
    rintro e v3 ⟨p3, rfl, ip3, b⟩
    replace hB := hB.trans (b.mono hB.size)
    replace hS := hS.below b
    clear b
    show wpSeq _ _ _ _ _ _
    refine wpSeq_yield (S := Facts [.blk (g6r3) 38 (Pc q0), .blk (g7r3) 38 (Pc q1), .blk (w.heap.size) 23 (Iv .u8 (keyOf NA)), .blk (w.heap.size + 1) 23 (Iv .u8 (keyOf NB)), .rng 0 (Iv .u8 (keyOf bxN)), .rng 1 (Iv .u8 (keyOf byN)), .rng 2 (Iv .u8 (keyOf dN))]) (yieldsIf_move rfl _ rfl _ rfl) hS ?_
    simp only [Act.put, List.setIfInBounds_toArray, List.set_cons_zero, List.set_cons_succ]
    refine wpSeq_yield (S := Facts [.blk (g6r3) 38 (Pc q0), .blk (g7r3) 38 (Pc q1), .blk (w.heap.size) 23 (Iv .u8 (keyOf NA)), .blk (w.heap.size + 1) 23 (Iv .u8 (keyOf NB)), .rng 0 (Iv .u8 (keyOf bxN)), .rng 1 (Iv .u8 (keyOf byN)), .rng 2 (Iv .u8 (keyOf dN))]) (show YieldsIf _ _ _ _ (PV p3) _ from yieldsIf_extract rfl _ _ rfl _ rfl _ rfl) hS ?_
    simp only [Act.put, List.setIfInBounds_toArray, List.set_cons_zero, List.set_cons_succ]
    refine wpSeq_yield (S := Facts [.blk (g6r3) 38 (Pc q0), .blk (g7r3) 38 (Pc q1), .blk (w.heap.size) 23 (Iv .u8 (keyOf NA)), .blk (w.heap.size + 1) 23 (Iv .u8 (keyOf NB)), .rng 0 (Iv .u8 (keyOf bxN)), .rng 1 (Iv .u8 (keyOf byN)), .rng 2 (Iv .u8 (keyOf dN))]) (show YieldsIf _ _ _ _ (.bool true) _ from yieldsIf_extract rfl _ _ rfl _ rfl _ rfl) hS ?_
    simp only [Act.put, List.setIfInBounds_toArray, List.set_cons_zero, List.set_cons_succ]
    refine wpSeq_allocQ 38 (Pc p40) rfl (fun W => by go_simp; rfl) ?_
    intro B1 C1 AB1 b mB1
    simp only [Act.put, List.setIfInBounds_toArray, List.set_cons_zero, List.set_cons_succ]
    have hb := b
    clear b
    refine wpSeq_store_row rfl 38 _ _ rfl (B1) (Pc p3) rfl rfl _ _ AB1 (info_Pc _) (Pc_same _ _) (Pc_one _) ?_
    try simp only [Act.put, List.setIfInBounds_toArray, List.set_cons_zero, List.set_cons_succ]
    replace AB1 := AB1.row (Pc p3)
    replace hb := below_setRow hb mB1 (Pc p3)
    generalize hWn : World.setRow _ _ _ = Wn at *
    clear hWn
    have eB1_0 := Nat.lt_of_lt_of_le (hS.blkAt (g6r3) 38 (Pc q0) (.head _)).lt mB1
    have eB1_1 := Nat.lt_of_lt_of_le (hS.blkAt (g7r3) 38 (Pc q1) (.tail _ (.head _))).lt mB1
    replace mB1 := Nat.le_trans hB.size mB1
    replace hB := hB.trans (hb.mono hB.size)
    replace hS := hS.below hb
    clear hb
    replace hS : Facts [.blk (B1) 38 (Pc p3), .blk (g6r3) 38 (Pc q0), .blk (g7r3) 38 (Pc q1), .blk (w.heap.size) 23 (Iv .u8 (keyOf NA)), .blk (w.heap.size + 1) 23 (Iv .u8 (keyOf NB)), .rng 0 (Iv .u8 (keyOf bxN)), .rng 1 (Iv .u8 (keyOf byN)), .rng 2 (Iv .u8 (keyOf dN))] _ := Facts.cons (f := .blk B1 38 (Pc p3)) AB1 hS
    clear AB1
    refine wpSeq_yield (S := Facts [.blk (B1) 38 (Pc p3), .blk (g6r3) 38 (Pc q0), .blk (g7r3) 38 (Pc q1), .blk (w.heap.size) 23 (Iv .u8 (keyOf NA)), .blk (w.heap.size + 1) 23 (Iv .u8 (keyOf NB)), .rng 0 (Iv .u8 (keyOf bxN)), .rng 1 (Iv .u8 (keyOf byN)), .rng 2 (Iv .u8 (keyOf dN))]) (yieldsIf_assign rfl _ rfl _ rfl) hS ?_
    simp only [Act.put, List.setIfInBounds_toArray, List.set_cons_zero, List.set_cons_succ]
    refine wpSeq_nil ?_
    go_upto_region 7 with fail
    replace hS := hS.drew
    replace hB := below_drew hB
    refine wp_region_Z (S := Facts [.blk (B1) 38 (Pc p3), .blk (g6r3) 38 (Pc q0), .blk (g7r3) 38 (Pc q1), .blk (w.heap.size) 23 (Iv .u8 (keyOf NA)), .blk (w.heap.size + 1) 23 (Iv .u8 (keyOf NB)), .rng 0 (Iv .u8 (keyOf bxN)), .rng 1 (Iv .u8 (keyOf byN)), .rng 2 (Iv .u8 (keyOf dN))]) 26 (by kernel_rfl) ?_
    refine wpAnyZ_takeL 0 rfl (by kernel_rfl) (by kernel_rfl) (by kernel_rfl) (by kernel_rfl) (by kernel_rfl) (fun _ _ _ h => h) (show YieldsIf _ _ _ _ (PV q0) _ from yieldsIf_load rfl 38 _ rfl (g6r3) rfl 38 _ _ (.tail _ (.head _)) Tryd.underlying38 rfl (info_Pc _)) hS ?_
    simp only [Act.put, List.setIfInBounds_toArray, List.set_cons_zero, List.set_cons_succ]
    refine wpAnyZ_takeL 1 rfl (by kernel_rfl) (by kernel_rfl) (by kernel_rfl) (by kernel_rfl) (by kernel_rfl) (fun _ _ _ h => h) (show YieldsIf _ _ _ _ (PV q1) _ from yieldsIf_load rfl 38 _ rfl (g7r3) rfl 38 _ _ (.tail _ (.tail _ (.head _))) Tryd.underlying38 rfl (info_Pc _)) hS ?_
    simp only [Act.put, List.setIfInBounds_toArray, List.set_cons_zero, List.set_cons_succ]
    refine wpAnyZ_takeL 3 rfl (by kernel_rfl) (by kernel_rfl) (by kernel_rfl) (by kernel_rfl) (by kernel_rfl) (fun _ _ _ h => h) (show YieldsIf _ _ _ _ (PV q0) _ from yieldsIf_load rfl 38 _ rfl (g6r3) rfl 38 _ _ (.tail _ (.head _)) Tryd.underlying38 rfl (info_Pc _)) hS ?_
    simp only [Act.put, List.setIfInBounds_toArray, List.set_cons_zero, List.set_cons_succ]
    refine wpAnyZ_takeL 5 rfl (by kernel_rfl) (by kernel_rfl) (by kernel_rfl) (by kernel_rfl) (by kernel_rfl) (fun _ _ _ h => h) (show YieldsIf _ _ _ _ (PV q1) _ from yieldsIf_load rfl 38 _ rfl (g7r3) rfl 38 _ _ (.tail _ (.tail _ (.head _))) Tryd.underlying38 rfl (info_Pc _)) hS ?_
    simp only [Act.put, List.setIfInBounds_toArray, List.set_cons_zero, List.set_cons_succ]
    refine wpAnyZ_one (i := 2) (by kernel_rfl) ?_
    unfold wpOp
    go_simp
    left
    refine (csame q0 q1 (times ok NA bb) (times ok NB bb) iq0 iq1 c (HC.out) _).mono ?_
    rintro e v4 ⟨rfl, b⟩
    replace hB := hB.trans (b.mono hB.size)
    replace hS := hS.below b
    clear b
    refine ⟨hS, ?_⟩
    refine wpAnyZ_one (i := 4) (by kernel_rfl) ?_
    unfold wpOp
    go_simp
    left
    refine (cenc q0 (times ok NA bb) iq0 T0 HT0.out _).mono ?_
    rintro e v5 ⟨rfl, b⟩
    replace hB := hB.trans (b.mono hB.size)
    replace hS := hS.below b
    clear b
    refine ⟨hS, ?_⟩
    obtain ⟨T1, hT1⟩ : ∃ t : Nat, t = textN (times ok NB bb) := ⟨_, rfl⟩
    have kT1 : T1 < p256 := by rw [hT1]; exact textN_lt _
    have HT1 := Lib.hid hT1
    clear hT1
    refine wpAnyZ_one (i := 6) (by kernel_rfl) ?_
    unfold wpOp
    go_simp
    left
    refine (cenc q1 (times ok NB bb) iq1 T1 HT1.out _).mono ?_
    rintro e v6 ⟨rfl, b⟩
    replace hB := hB.trans (b.mono hB.size)
    replace hS := hS.below b
    clear b
    refine ⟨hS, ?_⟩
    refine wpAnyZ_takeL 7 rfl (by kernel_rfl) (by kernel_rfl) (by kernel_rfl) (by kernel_rfl) (by kernel_rfl) (fun _ _ _ h => h) (yieldsIf_eqlk rfl _ _ rfl T0 T1 rfl rfl c kT0 kT1 (by rw [HT0.out, HT1.out]; exact HC.out)) hS ?_
    simp only [Act.put, List.setIfInBounds_toArray, List.set_cons_zero, List.set_cons_succ]
    refine wpAnyZ_takeL 8 rfl (by kernel_rfl) (by kernel_rfl) (by kernel_rfl) (by kernel_rfl) (by kernel_rfl) (fun _ _ _ h => h) (yieldsIf_eqlb rfl _ _ rfl c c rfl rfl true (beq_self_eq_true c)) hS ?_
    simp only [Act.put, List.setIfInBounds_toArray, List.set_cons_zero, List.set_cons_succ]
    refine wpAnyZ_takeL 9 rfl (by kernel_rfl) (by kernel_rfl) (by kernel_rfl) (by kernel_rfl) (by kernel_rfl) (fun _ _ _ h => h) (yieldsIf_move rfl _ rfl _ rfl) hS ?_
    simp only [Act.put, List.setIfInBounds_toArray, List.set_cons_zero, List.set_cons_succ]
    refine wpAnyZ_takeL 10 rfl (by kernel_rfl) (by kernel_rfl) (by kernel_rfl) (by kernel_rfl) (by kernel_rfl) (fun _ _ _ h => h) (yieldsIf_move rfl _ rfl _ rfl) hS ?_
    simp only [Act.put, List.setIfInBounds_toArray, List.set_cons_zero, List.set_cons_succ]
    refine wpAnyZ_takeL 11 rfl (by kernel_rfl) (by kernel_rfl) (by kernel_rfl) (by kernel_rfl) (by kernel_rfl) (fun _ _ _ h => h) (yieldsIf_not rfl _ _ rfl false rfl) hS ?_
    simp only [Act.put, List.setIfInBounds_toArray, List.set_cons_zero, List.set_cons_succ]
    refine wpAnyZ_takeL 12 rfl (by kernel_rfl) (by kernel_rfl) (by kernel_rfl) (by kernel_rfl) (by kernel_rfl) (fun _ _ _ h => h) (yieldsIf_move rfl _ rfl _ rfl) hS ?_
    simp only [Act.put, List.setIfInBounds_toArray, List.set_cons_zero, List.set_cons_succ]
    refine wpAnyZ_takeL 13 rfl (by kernel_rfl) (by kernel_rfl) (by kernel_rfl) (by kernel_rfl) (by kernel_rfl) (fun _ _ _ h => h) (yieldsIf_off rfl) hS ?_
    simp only [Act.put, List.setIfInBounds_toArray, List.set_cons_zero, List.set_cons_succ]
    refine wpAnyZ_takeL 14 rfl (by kernel_rfl) (by kernel_rfl) (by kernel_rfl) (by kernel_rfl) (by kernel_rfl) (fun _ _ _ h => h) (yieldsIf_off rfl) hS ?_
    simp only [Act.put, List.setIfInBounds_toArray, List.set_cons_zero, List.set_cons_succ]
    refine wpAnyZ_takeL 15 rfl (by kernel_rfl) (by kernel_rfl) (by kernel_rfl) (by kernel_rfl) (by kernel_rfl) (fun _ _ _ h => h) (yieldsIf_off rfl) hS ?_
    simp only [Act.put, List.setIfInBounds_toArray, List.set_cons_zero, List.set_cons_succ]
    refine wpAnyZ_takeL 16 rfl (by kernel_rfl) (by kernel_rfl) (by kernel_rfl) (by kernel_rfl) (by kernel_rfl) (fun _ _ _ h => h) (yieldsIf_pick rfl _ _ _ rfl true rfl _ rfl) hS ?_
    simp only [Act.put, List.setIfInBounds_toArray, List.set_cons_zero, List.set_cons_succ]
    refine wpAnyZ_takeL 17 rfl (by kernel_rfl) (by kernel_rfl) (by kernel_rfl) (by kernel_rfl) (by kernel_rfl) (fun _ _ _ h => h) (yieldsIf_pick rfl _ _ _ rfl true rfl _ rfl) hS ?_
    simp only [Act.put, List.setIfInBounds_toArray, List.set_cons_zero, List.set_cons_succ]
    refine wpAnyZ_takeL 18 rfl (by kernel_rfl) (by kernel_rfl) (by kernel_rfl) (by kernel_rfl) (by kernel_rfl) (fun _ _ _ h => h) (yieldsIf_move rfl _ rfl _ rfl) hS ?_
    simp only [Act.put, List.setIfInBounds_toArray, List.set_cons_zero, List.set_cons_succ]
    refine wpAnyZ_takeL 19 rfl (by kernel_rfl) (by kernel_rfl) (by kernel_rfl) (by kernel_rfl) (by kernel_rfl) (fun _ _ _ h => h) (yieldsIf_move rfl _ rfl _ rfl) hS ?_
    simp only [Act.put, List.setIfInBounds_toArray, List.set_cons_zero, List.set_cons_succ]
    refine wpAnyZ_takeL 20 rfl (by kernel_rfl) (by kernel_rfl) (by kernel_rfl) (by kernel_rfl) (by kernel_rfl) (fun _ _ _ h => h) (yieldsIf_pick rfl _ _ _ rfl true rfl _ rfl) hS ?_
    simp only [Act.put, List.setIfInBounds_toArray, List.set_cons_zero, List.set_cons_succ]
    refine wpAnyZ_takeL 21 rfl (by kernel_rfl) (by kernel_rfl) (by kernel_rfl) (by kernel_rfl) (by kernel_rfl) (fun _ _ _ h => h) (yieldsIf_move rfl _ rfl _ rfl) hS ?_
    simp only [Act.put, List.setIfInBounds_toArray, List.set_cons_zero, List.set_cons_succ]
    refine wpAnyZ_takeL 22 rfl (by kernel_rfl) (by kernel_rfl) (by kernel_rfl) (by kernel_rfl) (by kernel_rfl) (fun _ _ _ h => h) (show YieldsIf _ _ _ _ (PV p3) _ from yieldsIf_load rfl 38 _ rfl (B1) rfl 38 _ _ (.head _) Tryd.underlying38 rfl (info_Pc _)) hS ?_
    simp only [Act.put, List.setIfInBounds_toArray, List.set_cons_zero, List.set_cons_succ]
    refine wpAnyZ_takeL 23 rfl (by kernel_rfl) (by kernel_rfl) (by kernel_rfl) (by kernel_rfl) (by kernel_rfl) (fun _ _ _ h => h) (show YieldsIf _ _ _ _ (PV q0) _ from yieldsIf_load rfl 38 _ rfl (g6r3) rfl 38 _ _ (.tail _ (.head _)) Tryd.underlying38 rfl (info_Pc _)) hS ?_
    simp only [Act.put, List.setIfInBounds_toArray, List.set_cons_zero, List.set_cons_succ]
    refine wpAnyZ_one (i := 24) (by kernel_rfl) ?_
    unfold wpOp
    go_simp
    left
    refine (csame p3 q0 (times ok NA bb) (times ok NA bb) ip3 iq0 true (decide_eq_true rfl) _).mono ?_
    rintro e v7 ⟨rfl, b⟩
    replace hB := hB.trans (b.mono hB.size)
    replace hS := hS.below b
    clear b
    refine ⟨hS, ?_⟩
    refine wpAnyZ_takeL 25 rfl (by kernel_rfl) (by kernel_rfl) (by kernel_rfl) (by kernel_rfl) (by kernel_rfl) (fun _ _ _ h => h) (yieldsIf_pick rfl _ _ _ rfl true rfl _ rfl) hS ?_
    simp only [Act.put, List.setIfInBounds_toArray, List.set_cons_zero, List.set_cons_succ]
    refine wpAnyZ_one (i := 26) (by kernel_rfl) ?_
    unfold wpOp
    go_simp
    left
    refine wpAnyZ_done (by kernel_rfl) ?_ _
    go_wp2
    exact bodyPost_ret (results_tmp rfl _ _ _) rfl ⟨rfl, hB⟩
theorem same_n (NA NB : Nat) (kNA : NA < p256) (kNB : NB < p256) (c : Bool) (w : World) (GX : Rng w 0 (Iv .u8 (keyOf bxN))) (GY : Rng w 1 (Iv .u8 (keyOf byN))) (GD : Rng w 2 (Iv .u8 (keyOf dN))) :
    Calls Tryd.prog 7 #[Key (keyOf NA), Key (keyOf NB), .bool c] w fun e w' => e = .returned (.bool true) ∧ Below w.heap.size w w' := by
  cases c
  · exact same_f NA NB kNA kNB w GX GY GD
  · exact same_t NA NB kNA kNB w GX GY GD
end Go.Proofs.YtjaomgildhiddaaDoor
