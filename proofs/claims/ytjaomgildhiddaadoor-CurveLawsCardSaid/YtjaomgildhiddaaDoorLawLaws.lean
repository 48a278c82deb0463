/- The law CurveLaws (printed by gencurve.py). -/
import Derived.Test.YtjaomgildhiddaaDoorPn
namespace Go.Proofs.YtjaomgildhiddaaDoor
open Go.RowKit

open Ed
theorem laws_a (P Q : Pt dd) : decide (textN (add ok P Q) = textN (add ok Q P)) = true := decide_eq_true (by rw [Ed.add_comm])
theorem laws_b (P Q R : Pt dd) : decide (textN (add ok (add ok P Q) R) = textN (add ok P (add ok Q R))) = true := decide_eq_true (by rw [Ed.add_assoc])
theorem laws_c (P Q : Pt dd) (k : Nat) : decide (textN (times ok k (add ok P Q)) = textN (add ok (times ok k P) (times ok k Q))) = true := decide_eq_true (by rw [times_sum])
theorem laws_d (a : Nat) : decide (textN (times ok ell (times ok a bb)) = textN (zero dd)) = true := decide_eq_true (by rw [times_swap, times_ell, times_zero])
theorem neg_neg_pt (P : Pt dd) : neg (neg P) = P := Pt.same (by show - - P.x = P.x; generalize P.x = x; grind) rfl
theorem laws_e (P : Pt dd) : decide (textN (neg (neg P)) = textN P) = true := decide_eq_true (by rw [neg_neg_pt])
set_option maxHeartbeats 8000000 in
set_option maxRecDepth 100000 in
theorem laws_n (NA NB NC NK : Nat) (kNA : NA < p256) (kNB : NB < p256) (kNC : NC < p256) (kNK : NK < p256) (w : World) (GX : Rng w 0 (Iv .u8 (keyOf bxN))) (GY : Rng w 1 (Iv .u8 (keyOf byN))) (GD : Rng w 2 (Iv .u8 (keyOf dN))) :
    Calls Tryd.prog 6 #[Key (keyOf NA), Key (keyOf NB), Key (keyOf NC), Key (keyOf NK)] w fun e w' => e = .returned (.bool true) ∧ Below w.heap.size w w' := by
  have bGX := GX.blk
  have bGY := GY.blk
  have bGD := GD.blk
  have ipbase := pbase_is
  have ipzero := pzero_is
  obtain ⟨q0, hq0⟩ : ∃ q : P4, q = pmul NA pbase 256 := ⟨_, rfl⟩
  have iq0 : q0.Is (times ok NA bb) := by rw [hq0]; exact pmul_is256 NA kNA ipbase
  have Hq0 := Lib.hid hq0
  clear hq0
  obtain ⟨q1, hq1⟩ : ∃ q : P4, q = pmul NB pbase 256 := ⟨_, rfl⟩
  have iq1 : q1.Is (times ok NB bb) := by rw [hq1]; exact pmul_is256 NB kNB ipbase
  have Hq1 := Lib.hid hq1
  clear hq1
  obtain ⟨q2, hq2⟩ : ∃ q : P4, q = pmul NC pbase 256 := ⟨_, rfl⟩
  have iq2 : q2.Is (times ok NC bb) := by rw [hq2]; exact pmul_is256 NC kNC ipbase
  have Hq2 := Lib.hid hq2
  clear hq2
  obtain ⟨q3, hq3⟩ : ∃ q : P4, q = psum [q0, q1] := ⟨_, rfl⟩
  have iq3 : q3.Is (add ok (times ok NA bb) (times ok NB bb)) := by rw [hq3]; exact psum2 iq0 iq1
  have Hq3 := Lib.hid hq3
  clear hq3
  obtain ⟨q4, hq4⟩ : ∃ q : P4, q = psum [q1, q0] := ⟨_, rfl⟩
  have iq4 : q4.Is (add ok (times ok NB bb) (times ok NA bb)) := by rw [hq4]; exact psum2 iq1 iq0
  have Hq4 := Lib.hid hq4
  clear hq4
  obtain ⟨q5, hq5⟩ : ∃ q : P4, q = psum [q3, q2] := ⟨_, rfl⟩
  have iq5 : q5.Is (add ok (add ok (times ok NA bb) (times ok NB bb)) (times ok NC bb)) := by rw [hq5]; exact psum2 iq3 iq2
  have Hq5 := Lib.hid hq5
  clear hq5
  obtain ⟨q6, hq6⟩ : ∃ q : P4, q = psum [q1, q2] := ⟨_, rfl⟩
  have iq6 : q6.Is (add ok (times ok NB bb) (times ok NC bb)) := by rw [hq6]; exact psum2 iq1 iq2
  have Hq6 := Lib.hid hq6
  clear hq6
  obtain ⟨q7, hq7⟩ : ∃ q : P4, q = psum [q0, q6] := ⟨_, rfl⟩
  have iq7 : q7.Is (add ok (times ok NA bb) (add ok (times ok NB bb) (times ok NC bb))) := by rw [hq7]; exact psum2 iq0 iq6
  have Hq7 := Lib.hid hq7
  clear hq7
  obtain ⟨q8, hq8⟩ : ∃ q : P4, q = pmul NK q3 256 := ⟨_, rfl⟩
  have iq8 : q8.Is (times ok NK (add ok (times ok NA bb) (times ok NB bb))) := by rw [hq8]; exact pmul_is256 NK kNK iq3
  have Hq8 := Lib.hid hq8
  clear hq8
  obtain ⟨q9, hq9⟩ : ∃ q : P4, q = pmul NK q0 256 := ⟨_, rfl⟩
  have iq9 : q9.Is (times ok NK (times ok NA bb)) := by rw [hq9]; exact pmul_is256 NK kNK iq0
  have Hq9 := Lib.hid hq9
  clear hq9
  obtain ⟨q10, hq10⟩ : ∃ q : P4, q = pmul NK q1 256 := ⟨_, rfl⟩
  have iq10 : q10.Is (times ok NK (times ok NB bb)) := by rw [hq10]; exact pmul_is256 NK kNK iq1
  have Hq10 := Lib.hid hq10
  clear hq10
  obtain ⟨q11, hq11⟩ : ∃ q : P4, q = psum [q9, q10] := ⟨_, rfl⟩
  have iq11 : q11.Is (add ok (times ok NK (times ok NA bb)) (times ok NK (times ok NB bb))) := by rw [hq11]; exact psum2 iq9 iq10
  have Hq11 := Lib.hid hq11
  clear hq11
  obtain ⟨q12, hq12⟩ : ∃ q : P4, q = pmul ell q0 256 := ⟨_, rfl⟩
  have iq12 : q12.Is (times ok ell (times ok NA bb)) := by rw [hq12]; exact pmul_is256 ell ell_lt iq0
  have Hq12 := Lib.hid hq12
  clear hq12
  obtain ⟨q13, hq13⟩ : ∃ q : P4, q = pneg q0 := ⟨_, rfl⟩
  have iq13 : q13.Is (neg (times ok NA bb)) := by rw [hq13]; exact pneg_is iq0
  have Hq13 := Lib.hid hq13
  clear hq13
  obtain ⟨q14, hq14⟩ : ∃ q : P4, q = pneg q13 := ⟨_, rfl⟩
  have iq14 : q14.Is (neg (neg (times ok NA bb))) := by rw [hq14]; exact pneg_is iq13
  have Hq14 := Lib.hid hq14
  clear hq14
  unfold Key
  go_enter Tryd.func6, Tryd.ntmps6
  go_upto_region 1 with fail
  generalize hW : World.alloc (World.alloc (World.alloc (World.alloc w _) _) _) _ = W
  have hB : Below w.heap.size w W := hW ▸ ((((Below.refl w.heap.size w).alloc (Nat.le_refl _) _).alloc (by simp) _).alloc (by simp; omega) _).alloc (by simp; omega) _
  have K0 : Blk W (w.heap.size) 23 (Iv .u8 (keyOf NA)) := hW ▸ ((((Blk.new' (by simp) _ _).alloc _).alloc _).alloc _)
  have K1 : Blk W (w.heap.size + 1) 23 (Iv .u8 (keyOf NB)) := hW ▸ (((Blk.new' (by simp) _ _).alloc _).alloc _)
  have K2 : Blk W (w.heap.size + 1 + 1) 23 (Iv .u8 (keyOf NC)) := hW ▸ ((Blk.new' (by simp) _ _).alloc _)
  have K3 : Blk W (w.heap.size + 1 + 1 + 1) 23 (Iv .u8 (keyOf NK)) := hW ▸ (Blk.new' (by simp) _ _)
  have hS : Facts [.blk (w.heap.size) 23 (Iv .u8 (keyOf NA)), .blk (w.heap.size + 1) 23 (Iv .u8 (keyOf NB)), .blk (w.heap.size + 1 + 1) 23 (Iv .u8 (keyOf NC)), .blk (w.heap.size + 1 + 1 + 1) 23 (Iv .u8 (keyOf NK)), .rng 0 (Iv .u8 (keyOf bxN)), .rng 1 (Iv .u8 (keyOf byN)), .rng 2 (Iv .u8 (keyOf dN))] W := Facts.cons (f := .blk (w.heap.size) 23 (Iv .u8 (keyOf NA))) K0 (Facts.cons (f := .blk (w.heap.size + 1) 23 (Iv .u8 (keyOf NB))) K1 (Facts.cons (f := .blk (w.heap.size + 1 + 1) 23 (Iv .u8 (keyOf NC))) K2 (Facts.cons (f := .blk (w.heap.size + 1 + 1 + 1) 23 (Iv .u8 (keyOf NK))) K3 (Facts.cons (f := .rng 0 (Iv .u8 (keyOf bxN))) (GX.below hB) (Facts.cons (f := .rng 1 (Iv .u8 (keyOf byN))) (GY.below hB) (Facts.cons (f := .rng 2 (Iv .u8 (keyOf dN))) (GD.below hB) (Facts.nil)))))))
  clear hW K0 K1 K2 K3
  refine wp_region_seq ?_
  refine wpSeq_wp rfl ?_
  go_simp
  refine (awake_any _ (hS.rngAt _ _ (.tail _ (.tail _ (.tail _ (.tail _ (.head _)))))) (hS.rngAt _ _ (.tail _ (.tail _ (.tail _ (.tail _ (.tail _ (.head _)))))))).mono ?_
  rintro e v1 ⟨rfl, b⟩
  replace hB := hB.trans (b.mono hB.size)
  replace hS := hS.below b
  clear b
  show wpSeq _ _ _ _ _ _
  refine wpSeq_yield (S := Facts [.blk (w.heap.size) 23 (Iv .u8 (keyOf NA)), .blk (w.heap.size + 1) 23 (Iv .u8 (keyOf NB)), .blk (w.heap.size + 1 + 1) 23 (Iv .u8 (keyOf NC)), .blk (w.heap.size + 1 + 1 + 1) 23 (Iv .u8 (keyOf NK)), .rng 0 (Iv .u8 (keyOf bxN)), .rng 1 (Iv .u8 (keyOf byN)), .rng 2 (Iv .u8 (keyOf dN))]) (yieldsIf_not rfl _ _ rfl true rfl) hS ?_
  simp only [Act.put, List.setIfInBounds_toArray, List.set_cons_zero, List.set_cons_succ]
  refine wpSeq_nil ?_
  go_upto_region 3 with fail
  replace hS := hS.drew
  replace hB := below_drew hB
  refine wp_region_Z (S := Facts [.blk (w.heap.size) 23 (Iv .u8 (keyOf NA)), .blk (w.heap.size + 1) 23 (Iv .u8 (keyOf NB)), .blk (w.heap.size + 1 + 1) 23 (Iv .u8 (keyOf NC)), .blk (w.heap.size + 1 + 1 + 1) 23 (Iv .u8 (keyOf NK)), .rng 0 (Iv .u8 (keyOf bxN)), .rng 1 (Iv .u8 (keyOf byN)), .rng 2 (Iv .u8 (keyOf dN))]) 14 (by kernel_rfl) ?_
  refine wpAnyZ_takeL 0 rfl (by kernel_rfl) (by kernel_rfl) (by kernel_rfl) (by kernel_rfl) (by kernel_rfl) (fun _ _ _ h => h) (show YieldsIf _ _ _ _ (Key (keyOf NA)) _ from yieldsIf_load rfl 23 _ rfl (w.heap.size) rfl 23 _ _ (.head _) Tryd.underlying23 rfl (info_key _ (keyOf_length _))) hS ?_
  simp only [Act.put, List.setIfInBounds_toArray, List.set_cons_zero, List.set_cons_succ]
  refine wpAnyZ_takeL 3 rfl (by kernel_rfl) (by kernel_rfl) (by kernel_rfl) (by kernel_rfl) (by kernel_rfl) (fun _ _ _ h => h) (show YieldsIf _ _ _ _ (Key (keyOf NB)) _ from yieldsIf_load rfl 23 _ rfl (w.heap.size + 1) rfl 23 _ _ (.tail _ (.head _)) Tryd.underlying23 rfl (info_key _ (keyOf_length _))) hS ?_
  simp only [Act.put, List.setIfInBounds_toArray, List.set_cons_zero, List.set_cons_succ]
  refine wpAnyZ_takeL 6 rfl (by kernel_rfl) (by kernel_rfl) (by kernel_rfl) (by kernel_rfl) (by kernel_rfl) (fun _ _ _ h => h) (show YieldsIf _ _ _ _ (Key (keyOf NC)) _ from yieldsIf_load rfl 23 _ rfl (w.heap.size + 1 + 1) rfl 23 _ _ (.tail _ (.tail _ (.head _))) Tryd.underlying23 rfl (info_key _ (keyOf_length _))) hS ?_
  simp only [Act.put, List.setIfInBounds_toArray, List.set_cons_zero, List.set_cons_succ]
  refine wpAnyZ_jobsL [(⟨1, 16⟩, .is (PV pbase)), (⟨2, 17⟩, .is (PV q0)), (⟨4, 19⟩, .is (PV pbase)), (⟨5, 20⟩, .is (PV q1)), (⟨7, 22⟩, .is (PV pbase)), (⟨8, 23⟩, .is (PV q2)), (⟨9, 9⟩, .rel (fun v w' => ∃ g, v = .pointer (some ⟨g, 0, none⟩) ∧ Blk w' g 38 (Pc p40))), (⟨10, 10⟩, .rel (fun v w' => ∃ g, v = .pointer (some ⟨g, 0, none⟩) ∧ Blk w' g 38 (Pc p40))), (⟨11, 11⟩, .rel (fun v w' => ∃ g, v = .pointer (some ⟨g, 0, none⟩) ∧ Blk w' g 38 (Pc p40)))] [] 3 _ _ _ (by kernel_rfl) (fun _ _ _ _ _ h => h) ?_ (fun _ _ _ _ _ h => h) (fun _ _ h hb => h.below hb) hS ?_ ?_ ?_
  · exact fun _ _ h => by cases h
  · intro j hj
    simp only [List.map_cons, List.map_nil, List.mem_cons, List.not_mem_nil, or_false] at hj
    rcases hj with rfl | rfl | rfl | rfl | rfl | rfl | rfl | rfl | rfl
    · exact fun _ _ _ h _ => h
    · exact fun _ _ _ h _ => h
    · exact fun _ _ _ h _ => h
    · exact fun _ _ _ h _ => h
    · exact fun _ _ _ h _ => h
    · exact fun _ _ _ h _ => h
    · intro v w1 w2 h hb
      obtain ⟨g, e, H⟩ : ∃ g, v = .pointer (some ⟨g, 0, none⟩) ∧ Blk w1 g 38 (Pc p40) := h
      exact ⟨g, e, H.below' hb⟩
    · intro v w1 w2 h hb
      obtain ⟨g, e, H⟩ : ∃ g, v = .pointer (some ⟨g, 0, none⟩) ∧ Blk w1 g 38 (Pc p40) := h
      exact ⟨g, e, H.below' hb⟩
    · intro v w1 w2 h hb
      obtain ⟨g, e, H⟩ : ∃ g, v = .pointer (some ⟨g, 0, none⟩) ∧ Blk w1 g 38 (Pc p40) := h
      exact ⟨g, e, H.below' hb⟩
  · intro j hj
    simp only [List.map_cons, List.map_nil, List.mem_cons, List.not_mem_nil, or_false] at hj
    rcases hj with rfl | rfl | rfl | rfl | rfl | rfl | rfl | rfl | rfl
    · refine job_frame [] (by kernel_rfl) ?_
      show JobAt _ _ _ _ _ _ _
      simp only [putAll, List.foldr_nil]
      intro W K hS' hK
      unfold wpOp
      go_simp
      left
      refine (cbase_v _ (hS'.rngAt _ _ (.tail _ (.tail _ (.tail _ (.tail _ (.head _)))))) (hS'.rngAt _ _ (.tail _ (.tail _ (.tail _ (.tail _ (.tail _ (.head _)))))))).mono ?_
      rintro e v ⟨rfl, b⟩
      exact hK _ _ rfl b (fun g hg => ((block_agg _) g hg).elim)
    · refine job_frame [⟨1, 16⟩] (by kernel_rfl) ?_
      show JobAt _ _ _ _ (Act.put _ (some 16) (PV pbase)) _ _
      simp only [Act.put, List.setIfInBounds_toArray, List.set_cons_zero, List.set_cons_succ]
      intro W K hS' hK
      unfold wpOp
      go_simp
      left
      refine (mul_d NA pbase q0 kNA ipbase.ok Hq0.out _ (hS'.rngAt _ _ (.tail _ (.tail _ (.tail _ (.tail _ (.tail _ (.tail _ (.head _))))))))).mono ?_
      rintro e v ⟨rfl, b⟩
      exact hK _ _ rfl b (fun g hg => ((block_agg _) g hg).elim)
    · refine job_frame [] (by kernel_rfl) ?_
      show JobAt _ _ _ _ _ _ _
      simp only [putAll, List.foldr_nil]
      intro W K hS' hK
      unfold wpOp
      go_simp
      left
      refine (cbase_v _ (hS'.rngAt _ _ (.tail _ (.tail _ (.tail _ (.tail _ (.head _)))))) (hS'.rngAt _ _ (.tail _ (.tail _ (.tail _ (.tail _ (.tail _ (.head _)))))))).mono ?_
      rintro e v ⟨rfl, b⟩
      exact hK _ _ rfl b (fun g hg => ((block_agg _) g hg).elim)
    · refine job_frame [⟨4, 19⟩] (by kernel_rfl) ?_
      show JobAt _ _ _ _ (Act.put _ (some 19) (PV pbase)) _ _
      simp only [Act.put, List.setIfInBounds_toArray, List.set_cons_zero, List.set_cons_succ]
      intro W K hS' hK
      unfold wpOp
      go_simp
      left
      refine (mul_d NB pbase q1 kNB ipbase.ok Hq1.out _ (hS'.rngAt _ _ (.tail _ (.tail _ (.tail _ (.tail _ (.tail _ (.tail _ (.head _))))))))).mono ?_
      rintro e v ⟨rfl, b⟩
      exact hK _ _ rfl b (fun g hg => ((block_agg _) g hg).elim)
    · refine job_frame [] (by kernel_rfl) ?_
      show JobAt _ _ _ _ _ _ _
      simp only [putAll, List.foldr_nil]
      intro W K hS' hK
      unfold wpOp
      go_simp
      left
      refine (cbase_v _ (hS'.rngAt _ _ (.tail _ (.tail _ (.tail _ (.tail _ (.head _)))))) (hS'.rngAt _ _ (.tail _ (.tail _ (.tail _ (.tail _ (.tail _ (.head _)))))))).mono ?_
      rintro e v ⟨rfl, b⟩
      exact hK _ _ rfl b (fun g hg => ((block_agg _) g hg).elim)
    · refine job_frame [⟨7, 22⟩] (by kernel_rfl) ?_
      show JobAt _ _ _ _ (Act.put _ (some 22) (PV pbase)) _ _
      simp only [Act.put, List.setIfInBounds_toArray, List.set_cons_zero, List.set_cons_succ]
      intro W K hS' hK
      unfold wpOp
      go_simp
      left
      refine (mul_d NC pbase q2 kNC ipbase.ok Hq2.out _ (hS'.rngAt _ _ (.tail _ (.tail _ (.tail _ (.tail _ (.tail _ (.tail _ (.head _))))))))).mono ?_
      rintro e v ⟨rfl, b⟩
      exact hK _ _ rfl b (fun g hg => ((block_agg _) g hg).elim)
    · refine job_frame [] (by kernel_rfl) ?_
      show JobAt _ _ _ _ _ _ _
      exact job_alloc 38 (Pc p40) _ _ rfl rfl rfl (fun W => by go_simp; rfl)
    · refine job_frame [] (by kernel_rfl) ?_
      show JobAt _ _ _ _ _ _ _
      exact job_alloc 38 (Pc p40) _ _ rfl rfl rfl (fun W => by go_simp; rfl)
    · refine job_frame [] (by kernel_rfl) ?_
      show JobAt _ _ _ _ _ _ _
      exact job_alloc 38 (Pc p40) _ _ rfl rfl rfl (fun W => by go_simp; rfl)
  · intro f W hS2 hB1 hR hF hA
    have e1 : f 1 = (PV pbase) := hR ⟨1, 16⟩ (by simp)
    have e2 : f 2 = (PV q0) := hR ⟨2, 17⟩ (by simp)
    have e4 : f 4 = (PV pbase) := hR ⟨4, 19⟩ (by simp)
    have e5 : f 5 = (PV q1) := hR ⟨5, 20⟩ (by simp)
    have e7 : f 7 = (PV pbase) := hR ⟨7, 22⟩ (by simp)
    have e8 : f 8 = (PV q2) := hR ⟨8, 23⟩ (by simp)
    obtain ⟨g9r3, e9, A9⟩ : ∃ g, f 9 = .pointer (some ⟨g, 0, none⟩) ∧ Blk W g 38 (Pc p40) := hR ⟨9, 9⟩ (by simp)
    have n9 : _ ≤ g9r3 := (hF ⟨9, 9⟩ (by simp) g9r3 (by show blockOf (f 9) = _; rw [e9]; rfl)).1
    have m9 : w.heap.size ≤ g9r3 := Nat.le_trans hB.size n9
    obtain ⟨g10r3, e10, A10⟩ : ∃ g, f 10 = .pointer (some ⟨g, 0, none⟩) ∧ Blk W g 38 (Pc p40) := hR ⟨10, 10⟩ (by simp)
    have n10 : _ ≤ g10r3 := (hF ⟨10, 10⟩ (by simp) g10r3 (by show blockOf (f 10) = _; rw [e10]; rfl)).1
    have m10 : w.heap.size ≤ g10r3 := Nat.le_trans hB.size n10
    obtain ⟨g11r3, e11, A11⟩ : ∃ g, f 11 = .pointer (some ⟨g, 0, none⟩) ∧ Blk W g 38 (Pc p40) := hR ⟨11, 11⟩ (by simp)
    have n11 : _ ≤ g11r3 := (hF ⟨11, 11⟩ (by simp) g11r3 (by show blockOf (f 11) = _; rw [e11]; rfl)).1
    have m11 : w.heap.size ≤ g11r3 := Nat.le_trans hB.size n11
    have d9_10 : g9r3 ≠ g10r3 := fun h => hA ⟨9, 9⟩ (by simp) ⟨10, 10⟩ (by simp) (by decide) g9r3 (by show blockOf (f 9) = _; rw [e9]; rfl) (by show blockOf (f 10) = _; rw [e10, h]; rfl)
    have d9_11 : g9r3 ≠ g11r3 := fun h => hA ⟨9, 9⟩ (by simp) ⟨11, 11⟩ (by simp) (by decide) g9r3 (by show blockOf (f 9) = _; rw [e9]; rfl) (by show blockOf (f 11) = _; rw [e11, h]; rfl)
    have d10_11 : g10r3 ≠ g11r3 := fun h => hA ⟨10, 10⟩ (by simp) ⟨11, 11⟩ (by simp) (by decide) g10r3 (by show blockOf (f 10) = _; rw [e10]; rfl) (by show blockOf (f 11) = _; rw [e11, h]; rfl)
    clear hA hF hR
    simp only [setAll, putAll, List.map_cons, List.map_nil, List.foldr_cons, List.foldr_nil, Act.put, List.setIfInBounds_toArray, List.set_cons_zero, List.set_cons_succ, e1, e2, e4, e5, e7, e8, e9, e10, e11]
    clear e1 e2 e4 e5 e7 e8 e9 e10 e11
    have hBs := hB1
    replace hB1 := below_setRow hB1 n9 (Pc q0)
    refine wpAnyZ_store_row 12 rfl (by kernel_rfl) rfl _ _ _ rfl g9r3 (Pc q0) rfl rfl _ _ A9 (info_Pc _) (Pc_same _ _) (Pc_one _) (hS.below hB1) ?_
    try simp only [Act.put, List.setIfInBounds_toArray, List.set_cons_zero, List.set_cons_succ]
    replace A10 := A10.rowFar (Ne.symm d9_10) (Pc q0)
    replace A11 := A11.rowFar (Ne.symm d9_11) (Pc q0)
    replace A9 := A9.row (Pc q0)
    replace hB1 := below_setRow hB1 n10 (Pc q1)
    refine wpAnyZ_store_row 13 rfl (by kernel_rfl) rfl _ _ _ rfl g10r3 (Pc q1) rfl rfl _ _ A10 (info_Pc _) (Pc_same _ _) (Pc_one _) (hS.below hB1) ?_
    try simp only [Act.put, List.setIfInBounds_toArray, List.set_cons_zero, List.set_cons_succ]
    replace A9 := A9.rowFar d9_10 (Pc q1)
    replace A11 := A11.rowFar (Ne.symm d10_11) (Pc q1)
    replace A10 := A10.row (Pc q1)
    replace hB1 := below_setRow hB1 n11 (Pc q2)
    refine wpAnyZ_store_row 14 rfl (by kernel_rfl) rfl _ _ _ rfl g11r3 (Pc q2) rfl rfl _ _ A11 (info_Pc _) (Pc_same _ _) (Pc_one _) (hS.below hB1) ?_
    try simp only [Act.put, List.setIfInBounds_toArray, List.set_cons_zero, List.set_cons_succ]
    replace A9 := A9.rowFar d9_11 (Pc q2)
    replace A10 := A10.rowFar d10_11 (Pc q2)
    replace A11 := A11.row (Pc q2)
    refine wpAnyZ_done (by kernel_rfl) ?_ _
    have hS3 := hS.below hB1
    replace hB := hB.trans (hB1.mono hB.size)
    clear hS hS2 hB1 hBs
    have hS : Facts [.blk (g9r3) 38 (Pc q0), .blk (g10r3) 38 (Pc q1), .blk (g11r3) 38 (Pc q2), .blk (w.heap.size) 23 (Iv .u8 (keyOf NA)), .blk (w.heap.size + 1) 23 (Iv .u8 (keyOf NB)), .blk (w.heap.size + 1 + 1) 23 (Iv .u8 (keyOf NC)), .blk (w.heap.size + 1 + 1 + 1) 23 (Iv .u8 (keyOf NK)), .rng 0 (Iv .u8 (keyOf bxN)), .rng 1 (Iv .u8 (keyOf byN)), .rng 2 (Iv .u8 (keyOf dN))] _ := Facts.cons (f := .blk g9r3 38 (Pc q0)) A9 (Facts.cons (f := .blk g10r3 38 (Pc q1)) A10 (Facts.cons (f := .blk g11r3 38 (Pc q2)) A11 (hS3)))
    clear hS3
    try clear n9 n10 n11
    clear A9 A10 A11
    generalize hWn : World.setRow _ _ _ = Wn at *
    clear hWn
    go_upto_region 4 with fail
    refine wp_region_seq ?_
    refine wpSeq_wp rfl ?_
    go_simp
    refine (rl_v _).mono ?_
    rintro e v2 ⟨r2, rfl, Hr2, b⟩
    replace hB := hB.trans (b.mono hB.size)
    replace hS := hS.below b
    clear b
    show wpSeq _ _ _ _ _ _
    refine wpSeq_wp rfl ?_
    go_simp
    refine (rkey_v _ ell _ Hr2).mono ?_
    rintro e v3 ⟨rfl, b⟩
    replace hB := hB.trans (b.mono hB.size)
    replace hS := hS.below b
    replace Hr2 := Hr2.below b
    clear b
    show wpSeq _ _ _ _ _ _
    refine wpSeq_allocQ 23 (Iv .u8 (List.replicate 32 0)) rfl (fun W => by go_simp; rfl) ?_
    intro B1 C1 AB1 b mB1
    simp only [Act.put, List.setIfInBounds_toArray, List.set_cons_zero, List.set_cons_succ]
    have hb := b
    clear b
    refine wpSeq_store_row rfl 23 _ _ rfl (B1) (Iv .u8 (keyOf ell)) rfl rfl _ _ AB1 (info_key _ (keyOf_length _)) (by rw [Iv_size, Iv_size, keyOf_length]; rfl) (Iv_one _ _) ?_
    try simp only [Act.put, List.setIfInBounds_toArray, List.set_cons_zero, List.set_cons_succ]
    replace AB1 := AB1.row (Iv .u8 (keyOf ell))
    replace hb := below_setRow hb mB1 (Iv .u8 (keyOf ell))
    generalize hWn : World.setRow _ _ _ = Wn at *
    clear hWn
    have eB1_3 := Nat.lt_of_lt_of_le (hS.blkAt (w.heap.size) 23 (Iv .u8 (keyOf NA)) (.tail _ (.tail _ (.tail _ (.head _))))).lt mB1
    have eB1_4 := Nat.lt_of_lt_of_le (hS.blkAt (w.heap.size + 1) 23 (Iv .u8 (keyOf NB)) (.tail _ (.tail _ (.tail _ (.tail _ (.head _)))))).lt mB1
    have eB1_5 := Nat.lt_of_lt_of_le (hS.blkAt (w.heap.size + 1 + 1) 23 (Iv .u8 (keyOf NC)) (.tail _ (.tail _ (.tail _ (.tail _ (.tail _ (.head _))))))).lt mB1
    have eB1_6 := Nat.lt_of_lt_of_le (hS.blkAt (w.heap.size + 1 + 1 + 1) 23 (Iv .u8 (keyOf NK)) (.tail _ (.tail _ (.tail _ (.tail _ (.tail _ (.tail _ (.head _)))))))).lt mB1
    replace mB1 := Nat.le_trans hB.size mB1
    replace hB := hB.trans (hb.mono hB.size)
    replace hS := hS.below hb
    replace Hr2 := Hr2.below hb
    clear hb
    replace hS : Facts [.blk (B1) 23 (Iv .u8 (keyOf ell)), .blk (g9r3) 38 (Pc q0), .blk (g10r3) 38 (Pc q1), .blk (g11r3) 38 (Pc q2), .blk (w.heap.size) 23 (Iv .u8 (keyOf NA)), .blk (w.heap.size + 1) 23 (Iv .u8 (keyOf NB)), .blk (w.heap.size + 1 + 1) 23 (Iv .u8 (keyOf NC)), .blk (w.heap.size + 1 + 1 + 1) 23 (Iv .u8 (keyOf NK)), .rng 0 (Iv .u8 (keyOf bxN)), .rng 1 (Iv .u8 (keyOf byN)), .rng 2 (Iv .u8 (keyOf dN))] _ := Facts.cons (f := .blk B1 23 (Iv .u8 (keyOf ell))) AB1 hS
    clear AB1
    refine wpSeq_nil ?_
    go_upto_region 5 with fail
    replace hS := hS.drew
    replace hB := below_drew hB
    replace Hr2 := Hr2.drew
    refine wp_region_Z (S := Facts [.blk (B1) 23 (Iv .u8 (keyOf ell)), .blk (g9r3) 38 (Pc q0), .blk (g10r3) 38 (Pc q1), .blk (g11r3) 38 (Pc q2), .blk (w.heap.size) 23 (Iv .u8 (keyOf NA)), .blk (w.heap.size + 1) 23 (Iv .u8 (keyOf NB)), .blk (w.heap.size + 1 + 1) 23 (Iv .u8 (keyOf NC)), .blk (w.heap.size + 1 + 1 + 1) 23 (Iv .u8 (keyOf NK)), .rng 0 (Iv .u8 (keyOf bxN)), .rng 1 (Iv .u8 (keyOf byN)), .rng 2 (Iv .u8 (keyOf dN))]) 57 (by kernel_rfl) ?_
    refine wpAnyZ_takeL 0 rfl (by kernel_rfl) (by kernel_rfl) (by kernel_rfl) (by kernel_rfl) (by kernel_rfl) (fun _ _ _ h => h) (show YieldsIf _ _ _ _ (PV q0) _ from yieldsIf_load rfl 38 _ rfl (g9r3) rfl 38 _ _ (.tail _ (.head _)) Tryd.underlying38 rfl (info_Pc _)) hS ?_
    simp only [Act.put, List.setIfInBounds_toArray, List.set_cons_zero, List.set_cons_succ]
    refine wpAnyZ_takeL 1 rfl (by kernel_rfl) (by kernel_rfl) (by kernel_rfl) (by kernel_rfl) (by kernel_rfl) (fun _ _ _ h => h) (show YieldsIf _ _ _ _ (PV q1) _ from yieldsIf_load rfl 38 _ rfl (g10r3) rfl 38 _ _ (.tail _ (.tail _ (.head _))) Tryd.underlying38 rfl (info_Pc _)) hS ?_
    simp only [Act.put, List.setIfInBounds_toArray, List.set_cons_zero, List.set_cons_succ]
    refine wpAnyZ_takeL 4 rfl (by kernel_rfl) (by kernel_rfl) (by kernel_rfl) (by kernel_rfl) (by kernel_rfl) (fun _ _ _ h => h) (show YieldsIf _ _ _ _ (PV q1) _ from yieldsIf_load rfl 38 _ rfl (g10r3) rfl 38 _ _ (.tail _ (.tail _ (.head _))) Tryd.underlying38 rfl (info_Pc _)) hS ?_
    simp only [Act.put, List.setIfInBounds_toArray, List.set_cons_zero, List.set_cons_succ]
    refine wpAnyZ_takeL 5 rfl (by kernel_rfl) (by kernel_rfl) (by kernel_rfl) (by kernel_rfl) (by kernel_rfl) (fun _ _ _ h => h) (show YieldsIf _ _ _ _ (PV q0) _ from yieldsIf_load rfl 38 _ rfl (g9r3) rfl 38 _ _ (.tail _ (.head _)) Tryd.underlying38 rfl (info_Pc _)) hS ?_
    simp only [Act.put, List.setIfInBounds_toArray, List.set_cons_zero, List.set_cons_succ]
    refine wpAnyZ_jobsRL [(⟨2, 28⟩, .rel (fun v w' => ∃ g, v = .slice (some ⟨g, 0, none⟩) 2 2 ∧ Blk w' g 38 (Pl [q0, q1]))), (⟨3, 29⟩, .is (PV q3)), (⟨6, 32⟩, .rel (fun v w' => ∃ g, v = .slice (some ⟨g, 0, none⟩) 2 2 ∧ Blk w' g 38 (Pl [q1, q0])))] 51 _ _ _ (by kernel_rfl) (fun _ _ _ _ _ h => h) (fun _ _ h hb => h.below hb) hS ?_ ?_ ?_
    · intro j hj
      simp only [List.map_cons, List.map_nil, List.mem_cons, List.not_mem_nil, or_false] at hj
      rcases hj with rfl | rfl | rfl
      · rintro v w1 w2 ⟨g, e, H⟩ hb
        exact ⟨g, e, H.below' hb⟩
      · exact fun _ _ _ h _ => h
      · rintro v w1 w2 ⟨g, e, H⟩ hb
        exact ⟨g, e, H.below' hb⟩
    · intro j hj
      simp only [List.map_cons, List.map_nil, List.mem_cons, List.not_mem_nil, or_false] at hj
      rcases hj with rfl | rfl | rfl
      · refine jobR_frame [] (by kernel_rfl) ?_
        intro f W K hS' hp hK
        simp only [putAll, List.foldr_cons, List.foldr_nil, Act.put, List.setIfInBounds_toArray, List.set_cons_zero, List.set_cons_succ]
        try simp only [putAll, List.foldr_cons, List.foldr_nil, Act.put, List.setIfInBounds_toArray, List.set_cons_zero, List.set_cons_succ] at hK
        exact wpOp_points 2 rfl rfl 2 _ rfl [q0, q1] (parts2 rfl rfl) rfl (by decide) (by decide) (fun g W' A b => hK _ _ ⟨g, rfl, A⟩ b)
      · refine jobR_frame [⟨2, 28⟩] (by kernel_rfl) ?_
        intro f W K hS' hp hK
        obtain ⟨G2, e2, AG2⟩ : ∃ g, f 2 = .slice (some ⟨g, 0, none⟩) 2 2 ∧ Blk W g 38 (Pl [q0, q1]) := hp ⟨2, 28⟩ (by simp)
        simp only [putAll, List.foldr_cons, List.foldr_nil, Act.put, List.setIfInBounds_toArray, List.set_cons_zero, List.set_cons_succ, e2]
        try simp only [putAll, List.foldr_cons, List.foldr_nil, Act.put, List.setIfInBounds_toArray, List.set_cons_zero, List.set_cons_succ, e2] at hK
        unfold wpOp
        go_simp
        left
        refine (add_d2 q0 q1 q3 iq0.ok iq1.ok G2 _ AG2 (hS'.rngAt _ _ (.tail _ (.tail _ (.tail _ (.tail _ (.tail _ (.tail _ (.tail _ (.tail _ (.tail _ (.tail _ (.head _)))))))))))) Hq3.out).mono ?_
        rintro e v ⟨rfl, b⟩
        exact hK _ _ rfl b
      · refine jobR_frame [] (by kernel_rfl) ?_
        intro f W K hS' hp hK
        simp only [putAll, List.foldr_cons, List.foldr_nil, Act.put, List.setIfInBounds_toArray, List.set_cons_zero, List.set_cons_succ]
        try simp only [putAll, List.foldr_cons, List.foldr_nil, Act.put, List.setIfInBounds_toArray, List.set_cons_zero, List.set_cons_succ] at hK
        exact wpOp_points 6 rfl rfl 2 _ rfl [q1, q0] (parts2 rfl rfl) rfl (by decide) (by decide) (fun g W' A b => hK _ _ ⟨g, rfl, A⟩ b)
    · intro f W hS2 hb hR
      obtain ⟨G2, e2, AG2⟩ : ∃ g, f 2 = .slice (some ⟨g, 0, none⟩) 2 2 ∧ Blk W g 38 (Pl [q0, q1]) := hR ⟨2, 28⟩ (by simp)
      have e3 : f 3 = (PV q3) := hR ⟨3, 29⟩ (by simp)
      obtain ⟨G3, e6, AG3⟩ : ∃ g, f 6 = .slice (some ⟨g, 0, none⟩) 2 2 ∧ Blk W g 38 (Pl [q1, q0]) := hR ⟨6, 32⟩ (by simp)
      clear hR
      simp only [setAll, List.map_cons, List.map_nil, putAll, List.foldr_cons, List.foldr_nil, Act.put, List.setIfInBounds_toArray, List.set_cons_zero, List.set_cons_succ, e2, e3, e6]
      clear e2 e3 e6
      replace hB := hB.trans (hb.mono hB.size)
      replace hS := hS2
      clear hS2
      replace Hr2 := Hr2.below hb
      clear hb
      refine wpAnyZ_one (i := 7) (by kernel_rfl) ?_
      unfold wpOp
      go_simp
      left
      refine (add_d2 q1 q0 q4 iq1.ok iq0.ok G3 _ AG3 (hS.rngAt _ _ (.tail _ (.tail _ (.tail _ (.tail _ (.tail _ (.tail _ (.tail _ (.tail _ (.tail _ (.tail _ (.head _)))))))))))) Hq4.out).mono ?_
      rintro e v4 ⟨rfl, b⟩
      replace hB := hB.trans (b.mono hB.size)
      replace hS := hS.below b
      replace Hr2 := Hr2.below b
      replace AG2 := AG2.below' b
      replace AG3 := AG3.below' b
      clear b
      refine ⟨hS, ?_⟩
      refine wpAnyZ_one (i := 8) (by kernel_rfl) ?_
      unfold wpOp
      go_simp
      left
      refine (csame q3 q4 (add ok (times ok NA bb) (times ok NB bb)) (add ok (times ok NB bb) (times ok NA bb)) iq3 iq4 true (laws_a _ _) _).mono ?_
      rintro e v5 ⟨rfl, b⟩
      replace hB := hB.trans (b.mono hB.size)
      replace hS := hS.below b
      replace Hr2 := Hr2.below b
      replace AG2 := AG2.below' b
      replace AG3 := AG3.below' b
      clear b
      refine ⟨hS, ?_⟩
      refine wpAnyZ_takeL 9 rfl (by kernel_rfl) (by kernel_rfl) (by kernel_rfl) (by kernel_rfl) (by kernel_rfl) (fun _ _ _ h => h) (yieldsIf_move rfl _ rfl _ rfl) hS ?_
      simp only [Act.put, List.setIfInBounds_toArray, List.set_cons_zero, List.set_cons_succ]
      refine wpAnyZ_takeL 10 rfl (by kernel_rfl) (by kernel_rfl) (by kernel_rfl) (by kernel_rfl) (by kernel_rfl) (fun _ _ _ h => h) (show YieldsIf _ _ _ _ (PV q0) _ from yieldsIf_load rfl 38 _ rfl (g9r3) rfl 38 _ _ (.tail _ (.head _)) Tryd.underlying38 rfl (info_Pc _)) hS ?_
      simp only [Act.put, List.setIfInBounds_toArray, List.set_cons_zero, List.set_cons_succ]
      refine wpAnyZ_takeL 11 rfl (by kernel_rfl) (by kernel_rfl) (by kernel_rfl) (by kernel_rfl) (by kernel_rfl) (fun _ _ _ h => h) (show YieldsIf _ _ _ _ (PV q1) _ from yieldsIf_load rfl 38 _ rfl (g10r3) rfl 38 _ _ (.tail _ (.tail _ (.head _))) Tryd.underlying38 rfl (info_Pc _)) hS ?_
      simp only [Act.put, List.setIfInBounds_toArray, List.set_cons_zero, List.set_cons_succ]
      refine wpAnyZ_takeL 14 rfl (by kernel_rfl) (by kernel_rfl) (by kernel_rfl) (by kernel_rfl) (by kernel_rfl) (fun _ _ _ h => h) (show YieldsIf _ _ _ _ (PV q2) _ from yieldsIf_load rfl 38 _ rfl (g11r3) rfl 38 _ _ (.tail _ (.tail _ (.tail _ (.head _)))) Tryd.underlying38 rfl (info_Pc _)) hS ?_
      simp only [Act.put, List.setIfInBounds_toArray, List.set_cons_zero, List.set_cons_succ]
      refine wpAnyZ_takeL 17 rfl (by kernel_rfl) (by kernel_rfl) (by kernel_rfl) (by kernel_rfl) (by kernel_rfl) (fun _ _ _ h => h) (show YieldsIf _ _ _ _ (PV q0) _ from yieldsIf_load rfl 38 _ rfl (g9r3) rfl 38 _ _ (.tail _ (.head _)) Tryd.underlying38 rfl (info_Pc _)) hS ?_
      simp only [Act.put, List.setIfInBounds_toArray, List.set_cons_zero, List.set_cons_succ]
      refine wpAnyZ_takeL 18 rfl (by kernel_rfl) (by kernel_rfl) (by kernel_rfl) (by kernel_rfl) (by kernel_rfl) (fun _ _ _ h => h) (show YieldsIf _ _ _ _ (PV q1) _ from yieldsIf_load rfl 38 _ rfl (g10r3) rfl 38 _ _ (.tail _ (.tail _ (.head _))) Tryd.underlying38 rfl (info_Pc _)) hS ?_
      simp only [Act.put, List.setIfInBounds_toArray, List.set_cons_zero, List.set_cons_succ]
      refine wpAnyZ_takeL 19 rfl (by kernel_rfl) (by kernel_rfl) (by kernel_rfl) (by kernel_rfl) (by kernel_rfl) (fun _ _ _ h => h) (show YieldsIf _ _ _ _ (PV q2) _ from yieldsIf_load rfl 38 _ rfl (g11r3) rfl 38 _ _ (.tail _ (.tail _ (.tail _ (.head _)))) Tryd.underlying38 rfl (info_Pc _)) hS ?_
      simp only [Act.put, List.setIfInBounds_toArray, List.set_cons_zero, List.set_cons_succ]
      refine wpAnyZ_jobsRL [(⟨12, 38⟩, .rel (fun v w' => ∃ g, v = .slice (some ⟨g, 0, none⟩) 2 2 ∧ Blk w' g 38 (Pl [q0, q1]))), (⟨13, 39⟩, .is (PV q3)), (⟨15, 41⟩, .rel (fun v w' => ∃ g, v = .slice (some ⟨g, 0, none⟩) 2 2 ∧ Blk w' g 38 (Pl [q3, q2]))), (⟨16, 42⟩, .is (PV q5)), (⟨20, 46⟩, .rel (fun v w' => ∃ g, v = .slice (some ⟨g, 0, none⟩) 2 2 ∧ Blk w' g 38 (Pl [q1, q2])))] 37 _ _ _ (by kernel_rfl) (fun _ _ _ _ _ h => h) (fun _ _ h hb => h.below hb) hS ?_ ?_ ?_
      · intro j hj
        simp only [List.map_cons, List.map_nil, List.mem_cons, List.not_mem_nil, or_false] at hj
        rcases hj with rfl | rfl | rfl | rfl | rfl
        · rintro v w1 w2 ⟨g, e, H⟩ hb
          exact ⟨g, e, H.below' hb⟩
        · exact fun _ _ _ h _ => h
        · rintro v w1 w2 ⟨g, e, H⟩ hb
          exact ⟨g, e, H.below' hb⟩
        · exact fun _ _ _ h _ => h
        · rintro v w1 w2 ⟨g, e, H⟩ hb
          exact ⟨g, e, H.below' hb⟩
      · intro j hj
        simp only [List.map_cons, List.map_nil, List.mem_cons, List.not_mem_nil, or_false] at hj
        rcases hj with rfl | rfl | rfl | rfl | rfl
        · refine jobR_frame [] (by kernel_rfl) ?_
          intro f W K hS' hp hK
          simp only [putAll, List.foldr_cons, List.foldr_nil, Act.put, List.setIfInBounds_toArray, List.set_cons_zero, List.set_cons_succ]
          try simp only [putAll, List.foldr_cons, List.foldr_nil, Act.put, List.setIfInBounds_toArray, List.set_cons_zero, List.set_cons_succ] at hK
          exact wpOp_points 12 rfl rfl 2 _ rfl [q0, q1] (parts2 rfl rfl) rfl (by decide) (by decide) (fun g W' A b => hK _ _ ⟨g, rfl, A⟩ b)
        · refine jobR_frame [⟨12, 38⟩] (by kernel_rfl) ?_
          intro f W K hS' hp hK
          obtain ⟨G4, e12, AG4⟩ : ∃ g, f 12 = .slice (some ⟨g, 0, none⟩) 2 2 ∧ Blk W g 38 (Pl [q0, q1]) := hp ⟨12, 38⟩ (by simp)
          simp only [putAll, List.foldr_cons, List.foldr_nil, Act.put, List.setIfInBounds_toArray, List.set_cons_zero, List.set_cons_succ, e12]
          try simp only [putAll, List.foldr_cons, List.foldr_nil, Act.put, List.setIfInBounds_toArray, List.set_cons_zero, List.set_cons_succ, e12] at hK
          unfold wpOp
          go_simp
          left
          refine (add_d2 q0 q1 q3 iq0.ok iq1.ok G4 _ AG4 (hS'.rngAt _ _ (.tail _ (.tail _ (.tail _ (.tail _ (.tail _ (.tail _ (.tail _ (.tail _ (.tail _ (.tail _ (.head _)))))))))))) Hq3.out).mono ?_
          rintro e v ⟨rfl, b⟩
          exact hK _ _ rfl b
        · refine jobR_frame [⟨13, 39⟩] (by kernel_rfl) ?_
          intro f W K hS' hp hK
          have e13 : f 13 = (PV q3) := hp ⟨13, 39⟩ (by simp)
          simp only [putAll, List.foldr_cons, List.foldr_nil, Act.put, List.setIfInBounds_toArray, List.set_cons_zero, List.set_cons_succ, e13]
          try simp only [putAll, List.foldr_cons, List.foldr_nil, Act.put, List.setIfInBounds_toArray, List.set_cons_zero, List.set_cons_succ, e13] at hK
          exact wpOp_points 15 rfl rfl 2 _ rfl [q3, q2] (parts2 rfl rfl) rfl (by decide) (by decide) (fun g W' A b => hK _ _ ⟨g, rfl, A⟩ b)
        · refine jobR_frame [⟨15, 41⟩] (by kernel_rfl) ?_
          intro f W K hS' hp hK
          obtain ⟨G5, e15, AG5⟩ : ∃ g, f 15 = .slice (some ⟨g, 0, none⟩) 2 2 ∧ Blk W g 38 (Pl [q3, q2]) := hp ⟨15, 41⟩ (by simp)
          simp only [putAll, List.foldr_cons, List.foldr_nil, Act.put, List.setIfInBounds_toArray, List.set_cons_zero, List.set_cons_succ, e15]
          try simp only [putAll, List.foldr_cons, List.foldr_nil, Act.put, List.setIfInBounds_toArray, List.set_cons_zero, List.set_cons_succ, e15] at hK
          unfold wpOp
          go_simp
          left
          refine (add_d2 q3 q2 q5 iq3.ok iq2.ok G5 _ AG5 (hS'.rngAt _ _ (.tail _ (.tail _ (.tail _ (.tail _ (.tail _ (.tail _ (.tail _ (.tail _ (.tail _ (.tail _ (.head _)))))))))))) Hq5.out).mono ?_
          rintro e v ⟨rfl, b⟩
          exact hK _ _ rfl b
        · refine jobR_frame [] (by kernel_rfl) ?_
          intro f W K hS' hp hK
          simp only [putAll, List.foldr_cons, List.foldr_nil, Act.put, List.setIfInBounds_toArray, List.set_cons_zero, List.set_cons_succ]
          try simp only [putAll, List.foldr_cons, List.foldr_nil, Act.put, List.setIfInBounds_toArray, List.set_cons_zero, List.set_cons_succ] at hK
          exact wpOp_points 20 rfl rfl 2 _ rfl [q1, q2] (parts2 rfl rfl) rfl (by decide) (by decide) (fun g W' A b => hK _ _ ⟨g, rfl, A⟩ b)
      · intro f W hS2 hb hR
        obtain ⟨G4, e12, AG4⟩ : ∃ g, f 12 = .slice (some ⟨g, 0, none⟩) 2 2 ∧ Blk W g 38 (Pl [q0, q1]) := hR ⟨12, 38⟩ (by simp)
        have e13 : f 13 = (PV q3) := hR ⟨13, 39⟩ (by simp)
        obtain ⟨G5, e15, AG5⟩ : ∃ g, f 15 = .slice (some ⟨g, 0, none⟩) 2 2 ∧ Blk W g 38 (Pl [q3, q2]) := hR ⟨15, 41⟩ (by simp)
        have e16 : f 16 = (PV q5) := hR ⟨16, 42⟩ (by simp)
        obtain ⟨G6, e20, AG6⟩ : ∃ g, f 20 = .slice (some ⟨g, 0, none⟩) 2 2 ∧ Blk W g 38 (Pl [q1, q2]) := hR ⟨20, 46⟩ (by simp)
        clear hR
        simp only [setAll, List.map_cons, List.map_nil, putAll, List.foldr_cons, List.foldr_nil, Act.put, List.setIfInBounds_toArray, List.set_cons_zero, List.set_cons_succ, e12, e13, e15, e16, e20]
        clear e12 e13 e15 e16 e20
        replace hB := hB.trans (hb.mono hB.size)
        replace hS := hS2
        clear hS2
        replace Hr2 := Hr2.below hb
        replace AG2 := AG2.below' hb
        replace AG3 := AG3.below' hb
        clear hb
        refine wpAnyZ_one (i := 21) (by kernel_rfl) ?_
        unfold wpOp
        go_simp
        left
        refine (add_d2 q1 q2 q6 iq1.ok iq2.ok G6 _ AG6 (hS.rngAt _ _ (.tail _ (.tail _ (.tail _ (.tail _ (.tail _ (.tail _ (.tail _ (.tail _ (.tail _ (.tail _ (.head _)))))))))))) Hq6.out).mono ?_
        rintro e v6 ⟨rfl, b⟩
        replace hB := hB.trans (b.mono hB.size)
        replace hS := hS.below b
        replace Hr2 := Hr2.below b
        replace AG2 := AG2.below' b
        replace AG3 := AG3.below' b
        replace AG4 := AG4.below' b
        replace AG5 := AG5.below' b
        replace AG6 := AG6.below' b
        clear b
        refine ⟨hS, ?_⟩
        refine wpAnyZ_points 22 rfl (by kernel_rfl) rfl 2 _ rfl [q0, q6] (parts2 rfl rfl) rfl (by decide) (by decide) (fun W b => hS.below b) ?_
        intro G7 CG7 AG7 b mG7
        replace hB := hB.trans (b.mono hB.size)
        replace hS := hS.below b
        replace Hr2 := Hr2.below b
        replace AG2 := AG2.below' b
        replace AG3 := AG3.below' b
        replace AG4 := AG4.below' b
        replace AG5 := AG5.below' b
        replace AG6 := AG6.below' b
        clear b mG7
        simp only [Act.put, List.setIfInBounds_toArray, List.set_cons_zero, List.set_cons_succ]
        refine wpAnyZ_one (i := 23) (by kernel_rfl) ?_
        unfold wpOp
        go_simp
        left
        refine (add_d2 q0 q6 q7 iq0.ok iq6.ok G7 _ AG7 (hS.rngAt _ _ (.tail _ (.tail _ (.tail _ (.tail _ (.tail _ (.tail _ (.tail _ (.tail _ (.tail _ (.tail _ (.head _)))))))))))) Hq7.out).mono ?_
        rintro e v7 ⟨rfl, b⟩
        replace hB := hB.trans (b.mono hB.size)
        replace hS := hS.below b
        replace Hr2 := Hr2.below b
        replace AG2 := AG2.below' b
        replace AG3 := AG3.below' b
        replace AG4 := AG4.below' b
        replace AG5 := AG5.below' b
        replace AG6 := AG6.below' b
        replace AG7 := AG7.below' b
        clear b
        refine ⟨hS, ?_⟩
        refine wpAnyZ_one (i := 24) (by kernel_rfl) ?_
        unfold wpOp
        go_simp
        left
        refine (csame q5 q7 (add ok (add ok (times ok NA bb) (times ok NB bb)) (times ok NC bb)) (add ok (times ok NA bb) (add ok (times ok NB bb) (times ok NC bb))) iq5 iq7 true (laws_b _ _ _) _).mono ?_
        rintro e v8 ⟨rfl, b⟩
        replace hB := hB.trans (b.mono hB.size)
        replace hS := hS.below b
        replace Hr2 := Hr2.below b
        replace AG2 := AG2.below' b
        replace AG3 := AG3.below' b
        replace AG4 := AG4.below' b
        replace AG5 := AG5.below' b
        replace AG6 := AG6.below' b
        replace AG7 := AG7.below' b
        clear b
        refine ⟨hS, ?_⟩
        refine wpAnyZ_takeL 25 rfl (by kernel_rfl) (by kernel_rfl) (by kernel_rfl) (by kernel_rfl) (by kernel_rfl) (fun _ _ _ h => h) (yieldsIf_pick rfl _ _ _ rfl true rfl _ rfl) hS ?_
        simp only [Act.put, List.setIfInBounds_toArray, List.set_cons_zero, List.set_cons_succ]
        refine wpAnyZ_takeL 26 rfl (by kernel_rfl) (by kernel_rfl) (by kernel_rfl) (by kernel_rfl) (by kernel_rfl) (fun _ _ _ h => h) (yieldsIf_move rfl _ rfl _ rfl) hS ?_
        simp only [Act.put, List.setIfInBounds_toArray, List.set_cons_zero, List.set_cons_succ]
        refine wpAnyZ_takeL 27 rfl (by kernel_rfl) (by kernel_rfl) (by kernel_rfl) (by kernel_rfl) (by kernel_rfl) (fun _ _ _ h => h) (show YieldsIf _ _ _ _ (Key (keyOf NK)) _ from yieldsIf_load rfl 23 _ rfl (w.heap.size + 1 + 1 + 1) rfl 23 _ _ (.tail _ (.tail _ (.tail _ (.tail _ (.tail _ (.tail _ (.tail _ (.head _)))))))) Tryd.underlying23 rfl (info_key _ (keyOf_length _))) hS ?_
        simp only [Act.put, List.setIfInBounds_toArray, List.set_cons_zero, List.set_cons_succ]
        refine wpAnyZ_takeL 28 rfl (by kernel_rfl) (by kernel_rfl) (by kernel_rfl) (by kernel_rfl) (by kernel_rfl) (fun _ _ _ h => h) (show YieldsIf _ _ _ _ (PV q0) _ from yieldsIf_load rfl 38 _ rfl (g9r3) rfl 38 _ _ (.tail _ (.head _)) Tryd.underlying38 rfl (info_Pc _)) hS ?_
        simp only [Act.put, List.setIfInBounds_toArray, List.set_cons_zero, List.set_cons_succ]
        refine wpAnyZ_takeL 29 rfl (by kernel_rfl) (by kernel_rfl) (by kernel_rfl) (by kernel_rfl) (by kernel_rfl) (fun _ _ _ h => h) (show YieldsIf _ _ _ _ (PV q1) _ from yieldsIf_load rfl 38 _ rfl (g10r3) rfl 38 _ _ (.tail _ (.tail _ (.head _))) Tryd.underlying38 rfl (info_Pc _)) hS ?_
        simp only [Act.put, List.setIfInBounds_toArray, List.set_cons_zero, List.set_cons_succ]
        refine wpAnyZ_takeL 33 rfl (by kernel_rfl) (by kernel_rfl) (by kernel_rfl) (by kernel_rfl) (by kernel_rfl) (fun _ _ _ h => h) (show YieldsIf _ _ _ _ (Key (keyOf NK)) _ from yieldsIf_load rfl 23 _ rfl (w.heap.size + 1 + 1 + 1) rfl 23 _ _ (.tail _ (.tail _ (.tail _ (.tail _ (.tail _ (.tail _ (.tail _ (.head _)))))))) Tryd.underlying23 rfl (info_key _ (keyOf_length _))) hS ?_
        simp only [Act.put, List.setIfInBounds_toArray, List.set_cons_zero, List.set_cons_succ]
        refine wpAnyZ_takeL 34 rfl (by kernel_rfl) (by kernel_rfl) (by kernel_rfl) (by kernel_rfl) (by kernel_rfl) (fun _ _ _ h => h) (show YieldsIf _ _ _ _ (PV q0) _ from yieldsIf_load rfl 38 _ rfl (g9r3) rfl 38 _ _ (.tail _ (.head _)) Tryd.underlying38 rfl (info_Pc _)) hS ?_
        simp only [Act.put, List.setIfInBounds_toArray, List.set_cons_zero, List.set_cons_succ]
        refine wpAnyZ_takeL 36 rfl (by kernel_rfl) (by kernel_rfl) (by kernel_rfl) (by kernel_rfl) (by kernel_rfl) (fun _ _ _ h => h) (show YieldsIf _ _ _ _ (Key (keyOf NK)) _ from yieldsIf_load rfl 23 _ rfl (w.heap.size + 1 + 1 + 1) rfl 23 _ _ (.tail _ (.tail _ (.tail _ (.tail _ (.tail _ (.tail _ (.tail _ (.head _)))))))) Tryd.underlying23 rfl (info_key _ (keyOf_length _))) hS ?_
        simp only [Act.put, List.setIfInBounds_toArray, List.set_cons_zero, List.set_cons_succ]
        refine wpAnyZ_takeL 37 rfl (by kernel_rfl) (by kernel_rfl) (by kernel_rfl) (by kernel_rfl) (by kernel_rfl) (fun _ _ _ h => h) (show YieldsIf _ _ _ _ (PV q1) _ from yieldsIf_load rfl 38 _ rfl (g10r3) rfl 38 _ _ (.tail _ (.tail _ (.head _))) Tryd.underlying38 rfl (info_Pc _)) hS ?_
        simp only [Act.put, List.setIfInBounds_toArray, List.set_cons_zero, List.set_cons_succ]
        refine wpAnyZ_points 30 rfl (by kernel_rfl) rfl 2 _ rfl [q0, q1] (parts2 rfl rfl) rfl (by decide) (by decide) (fun W b => hS.below b) ?_
        intro G8 CG8 AG8 b mG8
        replace hB := hB.trans (b.mono hB.size)
        replace hS := hS.below b
        replace Hr2 := Hr2.below b
        replace AG2 := AG2.below' b
        replace AG3 := AG3.below' b
        replace AG4 := AG4.below' b
        replace AG5 := AG5.below' b
        replace AG6 := AG6.below' b
        replace AG7 := AG7.below' b
        clear b mG8
        simp only [Act.put, List.setIfInBounds_toArray, List.set_cons_zero, List.set_cons_succ]
        refine wpAnyZ_one (i := 31) (by kernel_rfl) ?_
        unfold wpOp
        go_simp
        left
        refine (add_d2 q0 q1 q3 iq0.ok iq1.ok G8 _ AG8 (hS.rngAt _ _ (.tail _ (.tail _ (.tail _ (.tail _ (.tail _ (.tail _ (.tail _ (.tail _ (.tail _ (.tail _ (.head _)))))))))))) Hq3.out).mono ?_
        rintro e v9 ⟨rfl, b⟩
        replace hB := hB.trans (b.mono hB.size)
        replace hS := hS.below b
        replace Hr2 := Hr2.below b
        replace AG2 := AG2.below' b
        replace AG3 := AG3.below' b
        replace AG4 := AG4.below' b
        replace AG5 := AG5.below' b
        replace AG6 := AG6.below' b
        replace AG7 := AG7.below' b
        replace AG8 := AG8.below' b
        clear b
        refine ⟨hS, ?_⟩
        refine wpAnyZ_one (i := 32) (by kernel_rfl) ?_
        unfold wpOp
        go_simp
        left
        refine (mul_d NK q3 q8 kNK iq3.ok Hq8.out _ (hS.rngAt _ _ (.tail _ (.tail _ (.tail _ (.tail _ (.tail _ (.tail _ (.tail _ (.tail _ (.tail _ (.tail _ (.head _))))))))))))).mono ?_
        rintro e v10 ⟨rfl, b⟩
        replace hB := hB.trans (b.mono hB.size)
        replace hS := hS.below b
        replace Hr2 := Hr2.below b
        replace AG2 := AG2.below' b
        replace AG3 := AG3.below' b
        replace AG4 := AG4.below' b
        replace AG5 := AG5.below' b
        replace AG6 := AG6.below' b
        replace AG7 := AG7.below' b
        replace AG8 := AG8.below' b
        clear b
        refine ⟨hS, ?_⟩
        refine wpAnyZ_one (i := 35) (by kernel_rfl) ?_
        unfold wpOp
        go_simp
        left
        refine (mul_d NK q0 q9 kNK iq0.ok Hq9.out _ (hS.rngAt _ _ (.tail _ (.tail _ (.tail _ (.tail _ (.tail _ (.tail _ (.tail _ (.tail _ (.tail _ (.tail _ (.head _))))))))))))).mono ?_
        rintro e v11 ⟨rfl, b⟩
        replace hB := hB.trans (b.mono hB.size)
        replace hS := hS.below b
        replace Hr2 := Hr2.below b
        replace AG2 := AG2.below' b
        replace AG3 := AG3.below' b
        replace AG4 := AG4.below' b
        replace AG5 := AG5.below' b
        replace AG6 := AG6.below' b
        replace AG7 := AG7.below' b
        replace AG8 := AG8.below' b
        clear b
        refine ⟨hS, ?_⟩
        refine wpAnyZ_one (i := 38) (by kernel_rfl) ?_
        unfold wpOp
        go_simp
        left
        refine (mul_d NK q1 q10 kNK iq1.ok Hq10.out _ (hS.rngAt _ _ (.tail _ (.tail _ (.tail _ (.tail _ (.tail _ (.tail _ (.tail _ (.tail _ (.tail _ (.tail _ (.head _))))))))))))).mono ?_
        rintro e v12 ⟨rfl, b⟩
        replace hB := hB.trans (b.mono hB.size)
        replace hS := hS.below b
        replace Hr2 := Hr2.below b
        replace AG2 := AG2.below' b
        replace AG3 := AG3.below' b
        replace AG4 := AG4.below' b
        replace AG5 := AG5.below' b
        replace AG6 := AG6.below' b
        replace AG7 := AG7.below' b
        replace AG8 := AG8.below' b
        clear b
        refine ⟨hS, ?_⟩
        refine wpAnyZ_points 39 rfl (by kernel_rfl) rfl 2 _ rfl [q9, q10] (parts2 rfl rfl) rfl (by decide) (by decide) (fun W b => hS.below b) ?_
        intro G9 CG9 AG9 b mG9
        replace hB := hB.trans (b.mono hB.size)
        replace hS := hS.below b
        replace Hr2 := Hr2.below b
        replace AG2 := AG2.below' b
        replace AG3 := AG3.below' b
        replace AG4 := AG4.below' b
        replace AG5 := AG5.below' b
        replace AG6 := AG6.below' b
        replace AG7 := AG7.below' b
        replace AG8 := AG8.below' b
        clear b mG9
        simp only [Act.put, List.setIfInBounds_toArray, List.set_cons_zero, List.set_cons_succ]
        refine wpAnyZ_one (i := 40) (by kernel_rfl) ?_
        unfold wpOp
        go_simp
        left
        refine (add_d2 q9 q10 q11 iq9.ok iq10.ok G9 _ AG9 (hS.rngAt _ _ (.tail _ (.tail _ (.tail _ (.tail _ (.tail _ (.tail _ (.tail _ (.tail _ (.tail _ (.tail _ (.head _)))))))))))) Hq11.out).mono ?_
        rintro e v13 ⟨rfl, b⟩
        replace hB := hB.trans (b.mono hB.size)
        replace hS := hS.below b
        replace Hr2 := Hr2.below b
        replace AG2 := AG2.below' b
        replace AG3 := AG3.below' b
        replace AG4 := AG4.below' b
        replace AG5 := AG5.below' b
        replace AG6 := AG6.below' b
        replace AG7 := AG7.below' b
        replace AG8 := AG8.below' b
        replace AG9 := AG9.below' b
        clear b
        refine ⟨hS, ?_⟩
        refine wpAnyZ_one (i := 41) (by kernel_rfl) ?_
        unfold wpOp
        go_simp
        left
        refine (csame q8 q11 (times ok NK (add ok (times ok NA bb) (times ok NB bb))) (add ok (times ok NK (times ok NA bb)) (times ok NK (times ok NB bb))) iq8 iq11 true (laws_c _ _ _) _).mono ?_
        rintro e v14 ⟨rfl, b⟩
        replace hB := hB.trans (b.mono hB.size)
        replace hS := hS.below b
        replace Hr2 := Hr2.below b
        replace AG2 := AG2.below' b
        replace AG3 := AG3.below' b
        replace AG4 := AG4.below' b
        replace AG5 := AG5.below' b
        replace AG6 := AG6.below' b
        replace AG7 := AG7.below' b
        replace AG8 := AG8.below' b
        replace AG9 := AG9.below' b
        clear b
        refine ⟨hS, ?_⟩
        refine wpAnyZ_takeL 42 rfl (by kernel_rfl) (by kernel_rfl) (by kernel_rfl) (by kernel_rfl) (by kernel_rfl) (fun _ _ _ h => h) (yieldsIf_pick rfl _ _ _ rfl true rfl _ rfl) hS ?_
        simp only [Act.put, List.setIfInBounds_toArray, List.set_cons_zero, List.set_cons_succ]
        refine wpAnyZ_takeL 43 rfl (by kernel_rfl) (by kernel_rfl) (by kernel_rfl) (by kernel_rfl) (by kernel_rfl) (fun _ _ _ h => h) (yieldsIf_move rfl _ rfl _ rfl) hS ?_
        simp only [Act.put, List.setIfInBounds_toArray, List.set_cons_zero, List.set_cons_succ]
        refine wpAnyZ_takeL 44 rfl (by kernel_rfl) (by kernel_rfl) (by kernel_rfl) (by kernel_rfl) (by kernel_rfl) (fun _ _ _ h => h) (show YieldsIf _ _ _ _ (Key (keyOf ell)) _ from yieldsIf_load rfl 23 _ rfl (B1) rfl 23 _ _ (.head _) Tryd.underlying23 rfl (info_key _ (keyOf_length _))) hS ?_
        simp only [Act.put, List.setIfInBounds_toArray, List.set_cons_zero, List.set_cons_succ]
        refine wpAnyZ_takeL 45 rfl (by kernel_rfl) (by kernel_rfl) (by kernel_rfl) (by kernel_rfl) (by kernel_rfl) (fun _ _ _ h => h) (show YieldsIf _ _ _ _ (PV q0) _ from yieldsIf_load rfl 38 _ rfl (g9r3) rfl 38 _ _ (.tail _ (.head _)) Tryd.underlying38 rfl (info_Pc _)) hS ?_
        simp only [Act.put, List.setIfInBounds_toArray, List.set_cons_zero, List.set_cons_succ]
        refine wpAnyZ_one (i := 46) (by kernel_rfl) ?_
        unfold wpOp
        go_simp
        left
        refine (mul_d ell q0 q12 ell_lt iq0.ok Hq12.out _ (hS.rngAt _ _ (.tail _ (.tail _ (.tail _ (.tail _ (.tail _ (.tail _ (.tail _ (.tail _ (.tail _ (.tail _ (.head _))))))))))))).mono ?_
        rintro e v15 ⟨rfl, b⟩
        replace hB := hB.trans (b.mono hB.size)
        replace hS := hS.below b
        replace Hr2 := Hr2.below b
        replace AG2 := AG2.below' b
        replace AG3 := AG3.below' b
        replace AG4 := AG4.below' b
        replace AG5 := AG5.below' b
        replace AG6 := AG6.below' b
        replace AG7 := AG7.below' b
        replace AG8 := AG8.below' b
        replace AG9 := AG9.below' b
        clear b
        refine ⟨hS, ?_⟩
        refine wpAnyZ_one (i := 47) (by kernel_rfl) ?_
        unfold wpOp
        go_simp
        left
        refine (czero_v _).mono ?_
        rintro e v16 ⟨rfl, b⟩
        replace hB := hB.trans (b.mono hB.size)
        replace hS := hS.below b
        replace Hr2 := Hr2.below b
        replace AG2 := AG2.below' b
        replace AG3 := AG3.below' b
        replace AG4 := AG4.below' b
        replace AG5 := AG5.below' b
        replace AG6 := AG6.below' b
        replace AG7 := AG7.below' b
        replace AG8 := AG8.below' b
        replace AG9 := AG9.below' b
        clear b
        refine ⟨hS, ?_⟩
        refine wpAnyZ_one (i := 48) (by kernel_rfl) ?_
        unfold wpOp
        go_simp
        left
        refine (csame q12 pzero (times ok ell (times ok NA bb)) (zero dd) iq12 ipzero true (laws_d _) _).mono ?_
        rintro e v17 ⟨rfl, b⟩
        replace hB := hB.trans (b.mono hB.size)
        replace hS := hS.below b
        replace Hr2 := Hr2.below b
        replace AG2 := AG2.below' b
        replace AG3 := AG3.below' b
        replace AG4 := AG4.below' b
        replace AG5 := AG5.below' b
        replace AG6 := AG6.below' b
        replace AG7 := AG7.below' b
        replace AG8 := AG8.below' b
        replace AG9 := AG9.below' b
        clear b
        refine ⟨hS, ?_⟩
        refine wpAnyZ_takeL 49 rfl (by kernel_rfl) (by kernel_rfl) (by kernel_rfl) (by kernel_rfl) (by kernel_rfl) (fun _ _ _ h => h) (yieldsIf_pick rfl _ _ _ rfl true rfl _ rfl) hS ?_
        simp only [Act.put, List.setIfInBounds_toArray, List.set_cons_zero, List.set_cons_succ]
        refine wpAnyZ_takeL 50 rfl (by kernel_rfl) (by kernel_rfl) (by kernel_rfl) (by kernel_rfl) (by kernel_rfl) (fun _ _ _ h => h) (yieldsIf_move rfl _ rfl _ rfl) hS ?_
        simp only [Act.put, List.setIfInBounds_toArray, List.set_cons_zero, List.set_cons_succ]
        refine wpAnyZ_takeL 51 rfl (by kernel_rfl) (by kernel_rfl) (by kernel_rfl) (by kernel_rfl) (by kernel_rfl) (fun _ _ _ h => h) (show YieldsIf _ _ _ _ (PV q0) _ from yieldsIf_load rfl 38 _ rfl (g9r3) rfl 38 _ _ (.tail _ (.head _)) Tryd.underlying38 rfl (info_Pc _)) hS ?_
        simp only [Act.put, List.setIfInBounds_toArray, List.set_cons_zero, List.set_cons_succ]
        refine wpAnyZ_takeL 54 rfl (by kernel_rfl) (by kernel_rfl) (by kernel_rfl) (by kernel_rfl) (by kernel_rfl) (fun _ _ _ h => h) (show YieldsIf _ _ _ _ (PV q0) _ from yieldsIf_load rfl 38 _ rfl (g9r3) rfl 38 _ _ (.tail _ (.head _)) Tryd.underlying38 rfl (info_Pc _)) hS ?_
        simp only [Act.put, List.setIfInBounds_toArray, List.set_cons_zero, List.set_cons_succ]
        refine wpAnyZ_one (i := 52) (by kernel_rfl) ?_
        unfold wpOp
        go_simp
        left
        refine (neg_d q0 q13 iq0.ok Hq13.out _).mono ?_
        rintro e v18 ⟨rfl, b⟩
        replace hB := hB.trans (b.mono hB.size)
        replace hS := hS.below b
        replace Hr2 := Hr2.below b
        replace AG2 := AG2.below' b
        replace AG3 := AG3.below' b
        replace AG4 := AG4.below' b
        replace AG5 := AG5.below' b
        replace AG6 := AG6.below' b
        replace AG7 := AG7.below' b
        replace AG8 := AG8.below' b
        replace AG9 := AG9.below' b
        clear b
        refine ⟨hS, ?_⟩
        refine wpAnyZ_one (i := 53) (by kernel_rfl) ?_
        unfold wpOp
        go_simp
        left
        refine (neg_d q13 q14 iq13.ok Hq14.out _).mono ?_
        rintro e v19 ⟨rfl, b⟩
        replace hB := hB.trans (b.mono hB.size)
        replace hS := hS.below b
        replace Hr2 := Hr2.below b
        replace AG2 := AG2.below' b
        replace AG3 := AG3.below' b
        replace AG4 := AG4.below' b
        replace AG5 := AG5.below' b
        replace AG6 := AG6.below' b
        replace AG7 := AG7.below' b
        replace AG8 := AG8.below' b
        replace AG9 := AG9.below' b
        clear b
        refine ⟨hS, ?_⟩
        refine wpAnyZ_one (i := 55) (by kernel_rfl) ?_
        unfold wpOp
        go_simp
        left
        refine (csame q14 q0 (neg (neg (times ok NA bb))) (times ok NA bb) iq14 iq0 true (laws_e _) _).mono ?_
        rintro e v20 ⟨rfl, b⟩
        replace hB := hB.trans (b.mono hB.size)
        replace hS := hS.below b
        replace Hr2 := Hr2.below b
        replace AG2 := AG2.below' b
        replace AG3 := AG3.below' b
        replace AG4 := AG4.below' b
        replace AG5 := AG5.below' b
        replace AG6 := AG6.below' b
        replace AG7 := AG7.below' b
        replace AG8 := AG8.below' b
        replace AG9 := AG9.below' b
        clear b
        refine ⟨hS, ?_⟩
        refine wpAnyZ_takeL 56 rfl (by kernel_rfl) (by kernel_rfl) (by kernel_rfl) (by kernel_rfl) (by kernel_rfl) (fun _ _ _ h => h) (yieldsIf_pick rfl _ _ _ rfl true rfl _ rfl) hS ?_
        simp only [Act.put, List.setIfInBounds_toArray, List.set_cons_zero, List.set_cons_succ]
        refine wpAnyZ_one (i := 57) (by kernel_rfl) ?_
        unfold wpOp
        go_simp
        left
        refine wpAnyZ_done (by kernel_rfl) ?_ _
        go_wp2
        exact bodyPost_ret (results_tmp rfl _ _ _) rfl ⟨rfl, hB⟩
end Go.Proofs.YtjaomgildhiddaaDoor
