/- The law CurveEight (printed by gencurve.py). -/
import Derived.Test.YtjaomgildhiddaaDoorPn
namespace Go.Proofs.YtjaomgildhiddaaDoor
open Go.RowKit

open Ed
theorem eight_a (P : Pt dd) : decide (textN (times ok ell (times ok 8 P)) = textN (zero dd)) = true := decide_eq_true (by rw [← times_times, times_eight_ell])
theorem eight_b (P : Pt dd) : decide (textN (times ok 2 P) = textN (add ok P P)) = true := decide_eq_true (by rw [times_two])
/-- The highest bit turned. -/
def flipN (T : Nat) : Nat := T % 57896044618658097711785492504343953926634992332820282019728792003956564819968 + (1 - T / 57896044618658097711785492504343953926634992332820282019728792003956564819968) * 57896044618658097711785492504343953926634992332820282019728792003956564819968
theorem flipN_lt (T : Nat) (_h : T < p256) : flipN T < p256 := by
  unfold flipN p256
  have := Nat.mod_lt T (show 0 < 57896044618658097711785492504343953926634992332820282019728792003956564819968 by decide)
  have : 1 - T / 57896044618658097711785492504343953926634992332820282019728792003956564819968 ≤ 1 := by omega
  generalize 1 - T / 57896044618658097711785492504343953926634992332820282019728792003956564819968 = q at *
  generalize T % 57896044618658097711785492504343953926634992332820282019728792003956564819968 = r at *
  omega
theorem xor_128 : ∀ n : Fin 256, bits .xor .u8 (n.val : Int) 128 = ((n.val % 128 + (1 - n.val / 128) * 128 : Nat) : Int) := by decide +kernel
theorem flip_mod (T : Nat) (h : T < p256) : flipN T % 57896044618658097711785492504343953926634992332820282019728792003956564819968 = T % 57896044618658097711785492504343953926634992332820282019728792003956564819968 ∧ flipN T / 57896044618658097711785492504343953926634992332820282019728792003956564819968 = 1 - T / 57896044618658097711785492504343953926634992332820282019728792003956564819968 := by
  unfold p256 at h
  unfold flipN
  omega
theorem key_flip (T : Nat) (h : T < p256) : (keyOf T).set 31 ((byteAt T 31 % 128 + (1 - byteAt T 31 / 128) * 128 : Nat) : Int) = keyOf (flipN T) := by
  obtain ⟨h1, h2⟩ := flip_mod T h
  refine keyOf_set _ _ _ (fun i hi => ?_) ?_
  · rw [← byteAt_low T i hi, ← byteAt_low (flipN T) i hi, h1]
  · have e1 := byteAt_31 T
    have e2 := byteAt_31 (flipN T)
    have e3 := byteAt_top T h
    have e4 := byteAt_top (flipN T) (flipN_lt T h)
    rw [h1, e1] at e2
    rw [h2, ← e3] at e4
    omega
theorem eight_c (P : Pt dd) : (decide (textN P = flipN (textN (neg P))) != decide (textN (neg P) = textN P)) = true := by
  have hy : (neg P).y = P.y := rfl
  have hm := textN_mod (neg P)
  have hd := textN_div (neg P)
  rw [hy] at hm
  have hm2 := textN_mod P
  have hd2 := textN_div P
  by_cases z : P.x.val = 0
  · have hx : P.x = 0 := Fin.ext z
    have hn : (neg P).x.val = 0 := by
      show (-P.x).val = 0
      rw [hx]
      decide +kernel
    have e2 : textN (neg P) = textN P := by
      rw [hn] at hd
      rw [z] at hd2
      omega
    have e1 : ¬ textN P = flipN (textN (neg P)) := fun e => by
      obtain ⟨h1, h2⟩ := flip_mod (textN (neg P)) (textN_lt _)
      rw [← e, hd, hd2, hn, z] at h2
      omega
    rw [decide_eq_false e1, decide_eq_true e2]
    rfl
  · have hn : (neg P).x.val % 2 = 1 - P.x.val % 2 := by
      have h1 : (-P.x).val = fneg P.x.val := by
        have h2 := F_fneg P.x.val P.x.isLt
        rw [x_of] at h2
        rw [← h2, F_val (fneg_lt _)]
      show (-P.x).val % 2 = _
      rw [h1]
      exact fneg_odd P.x.isLt z
    have e2 : ¬ textN (neg P) = textN P := fun e => by
      rw [e, hd2, hn] at hd
      omega
    have e1 : textN P = flipN (textN (neg P)) := by
      unfold flipN
      rw [hm, hd, hn]
      omega
    rw [decide_eq_true e1, decide_eq_false e2]
    rfl
set_option maxHeartbeats 8000000 in
set_option maxRecDepth 100000 in
theorem eight_t (NK : Nat) (kNK : NK < p256) (P : Pt dd) (hP : textN P = NK) (w : World) (GX : Rng w 0 (Iv .u8 (keyOf bxN))) (GY : Rng w 1 (Iv .u8 (keyOf byN))) (GD : Rng w 2 (Iv .u8 (keyOf dN))) :
    Calls Tryd.prog 8 #[Key (keyOf NK)] w fun e w' => e = .returned (.bool true) ∧ Below w.heap.size w w' := by
  have bGX := GX.blk
  have bGY := GY.blk
  have bGD := GD.blk
  have ipbase := pbase_is
  have ipzero := pzero_is
  obtain ⟨z, hz⟩ : ∃ z, decide (textN (neg P) = textN P) = z := ⟨_, rfl⟩
  obtain ⟨d, hd⟩ : ∃ d, decide (textN P = flipN (textN (neg P))) = d := ⟨_, rfl⟩
  have hx := eight_c P
  rw [hz, hd] at hx
  have HZ := Lib.hid hz
  have HD := Lib.hid hd
  have HX := Lib.hid hx
  have HP := Lib.hid hP
  clear hz hd hx hP
  unfold Key
  go_enter Tryd.func8, Tryd.ntmps8
  go_upto_region 1 with fail
  generalize hW : World.alloc w _ = W
  have hB : Below w.heap.size w W := hW ▸ (Below.refl w.heap.size w).alloc (Nat.le_refl _) _
  have K0 : Blk W (w.heap.size) 23 (Iv .u8 (keyOf NK)) := hW ▸ (Blk.new' (by simp) _ _)
  have hS : Facts [.blk (w.heap.size) 23 (Iv .u8 (keyOf NK)), .rng 0 (Iv .u8 (keyOf bxN)), .rng 1 (Iv .u8 (keyOf byN)), .rng 2 (Iv .u8 (keyOf dN))] W := Facts.cons (f := .blk (w.heap.size) 23 (Iv .u8 (keyOf NK))) K0 (Facts.cons (f := .rng 0 (Iv .u8 (keyOf bxN))) (GX.below hB) (Facts.cons (f := .rng 1 (Iv .u8 (keyOf byN))) (GY.below hB) (Facts.cons (f := .rng 2 (Iv .u8 (keyOf dN))) (GD.below hB) (Facts.nil))))
  clear hW K0
  refine wp_region_seq ?_
  refine wpSeq_wp rfl ?_
  go_simp
  refine (awake_any _ (hS.rngAt _ _ (.tail _ (.head _))) (hS.rngAt _ _ (.tail _ (.tail _ (.head _))))).mono ?_
  rintro e v1 ⟨rfl, b⟩
  replace hB := hB.trans (b.mono hB.size)
  replace hS := hS.below b
  clear b
  show wpSeq _ _ _ _ _ _
  refine wpSeq_yield (S := Facts [.blk (w.heap.size) 23 (Iv .u8 (keyOf NK)), .rng 0 (Iv .u8 (keyOf bxN)), .rng 1 (Iv .u8 (keyOf byN)), .rng 2 (Iv .u8 (keyOf dN))]) (yieldsIf_not rfl _ _ rfl true rfl) hS ?_
  simp only [Act.put, List.setIfInBounds_toArray, List.set_cons_zero, List.set_cons_succ]
  refine wpSeq_nil ?_
  go_upto_region 3 with fail
  refine wp_region_seq ?_
  refine wpSeq_yield (S := Facts [.blk (w.heap.size) 23 (Iv .u8 (keyOf NK)), .rng 0 (Iv .u8 (keyOf bxN)), .rng 1 (Iv .u8 (keyOf byN)), .rng 2 (Iv .u8 (keyOf dN))]) (show YieldsIf _ _ _ _ (Key (keyOf NK)) _ from yieldsIf_load rfl 23 _ rfl (w.heap.size) rfl 23 _ _ (.head _) Tryd.underlying23 rfl (info_key _ (keyOf_length _))) hS ?_
  simp only [Act.put, List.setIfInBounds_toArray, List.set_cons_zero, List.set_cons_succ]
  refine wpSeq_wp rfl ?_
  go_simp
  refine (cdec_some NK kNK P HP.out _).mono ?_
  rintro e v2 ⟨p2, rfl, ip2, b⟩
  replace hB := hB.trans (b.mono hB.size)
  replace hS := hS.below b
  clear b
  show wpSeq _ _ _ _ _ _
  refine wpSeq_yield (S := Facts [.blk (w.heap.size) 23 (Iv .u8 (keyOf NK)), .rng 0 (Iv .u8 (keyOf bxN)), .rng 1 (Iv .u8 (keyOf byN)), .rng 2 (Iv .u8 (keyOf dN))]) (yieldsIf_move rfl _ rfl _ rfl) hS ?_
  simp only [Act.put, List.setIfInBounds_toArray, List.set_cons_zero, List.set_cons_succ]
  refine wpSeq_yield (S := Facts [.blk (w.heap.size) 23 (Iv .u8 (keyOf NK)), .rng 0 (Iv .u8 (keyOf bxN)), .rng 1 (Iv .u8 (keyOf byN)), .rng 2 (Iv .u8 (keyOf dN))]) (show YieldsIf _ _ _ _ (PV p2) _ from yieldsIf_extract rfl _ _ rfl _ rfl _ rfl) hS ?_
  simp only [Act.put, List.setIfInBounds_toArray, List.set_cons_zero, List.set_cons_succ]
  refine wpSeq_yield (S := Facts [.blk (w.heap.size) 23 (Iv .u8 (keyOf NK)), .rng 0 (Iv .u8 (keyOf bxN)), .rng 1 (Iv .u8 (keyOf byN)), .rng 2 (Iv .u8 (keyOf dN))]) (show YieldsIf _ _ _ _ (.bool true) _ from yieldsIf_extract rfl _ _ rfl _ rfl _ rfl) hS ?_
  simp only [Act.put, List.setIfInBounds_toArray, List.set_cons_zero, List.set_cons_succ]
  refine wpSeq_allocQ 38 (Pc p40) rfl (fun W => by go_simp; rfl) ?_
  intro B1 C1 AB1 b mB1
  simp only [Act.put, List.setIfInBounds_toArray, List.set_cons_zero, List.set_cons_succ]
  have hb := b
  clear b
  refine wpSeq_store_row rfl 38 _ _ rfl (B1) (Pc p2) rfl rfl _ _ AB1 (info_Pc _) (Pc_same _ _) (Pc_one _) ?_
  try simp only [Act.put, List.setIfInBounds_toArray, List.set_cons_zero, List.set_cons_succ]
  replace AB1 := AB1.row (Pc p2)
  replace hb := below_setRow hb mB1 (Pc p2)
  generalize hWn : World.setRow _ _ _ = Wn at *
  clear hWn
  replace mB1 := Nat.le_trans hB.size mB1
  replace hB := hB.trans (hb.mono hB.size)
  replace hS := hS.below hb
  clear hb
  replace hS : Facts [.blk (B1) 38 (Pc p2), .blk (w.heap.size) 23 (Iv .u8 (keyOf NK)), .rng 0 (Iv .u8 (keyOf bxN)), .rng 1 (Iv .u8 (keyOf byN)), .rng 2 (Iv .u8 (keyOf dN))] _ := Facts.cons (f := .blk B1 38 (Pc p2)) AB1 hS
  clear AB1
  refine wpSeq_yield (S := Facts [.blk (B1) 38 (Pc p2), .blk (w.heap.size) 23 (Iv .u8 (keyOf NK)), .rng 0 (Iv .u8 (keyOf bxN)), .rng 1 (Iv .u8 (keyOf byN)), .rng 2 (Iv .u8 (keyOf dN))]) (yieldsIf_assign rfl _ rfl _ rfl) hS ?_
  simp only [Act.put, List.setIfInBounds_toArray, List.set_cons_zero, List.set_cons_succ]
  refine wpSeq_nil ?_
  go_upto_region 4 with fail
  refine wp_region_seq ?_
  refine wpSeq_yield (S := Facts [.blk (B1) 38 (Pc p2), .blk (w.heap.size) 23 (Iv .u8 (keyOf NK)), .rng 0 (Iv .u8 (keyOf bxN)), .rng 1 (Iv .u8 (keyOf byN)), .rng 2 (Iv .u8 (keyOf dN))]) (yieldsIf_move rfl _ rfl _ rfl) hS ?_
  simp only [Act.put, List.setIfInBounds_toArray, List.set_cons_zero, List.set_cons_succ]
  refine wpSeq_yield (S := Facts [.blk (B1) 38 (Pc p2), .blk (w.heap.size) 23 (Iv .u8 (keyOf NK)), .rng 0 (Iv .u8 (keyOf bxN)), .rng 1 (Iv .u8 (keyOf byN)), .rng 2 (Iv .u8 (keyOf dN))]) (yieldsIf_not rfl _ _ rfl true rfl) hS ?_
  simp only [Act.put, List.setIfInBounds_toArray, List.set_cons_zero, List.set_cons_succ]
  refine wpSeq_nil ?_
  go_upto_region 6 with fail
  refine wp_region_seq ?_
  refine wpSeq_wp rfl ?_
  go_simp
  refine (rl_v _).mono ?_
  rintro e v3 ⟨r3, rfl, Hr3, b⟩
  replace hB := hB.trans (b.mono hB.size)
  replace hS := hS.below b
  clear b
  show wpSeq _ _ _ _ _ _
  refine wpSeq_wp rfl ?_
  go_simp
  refine (rkey_v _ ell _ Hr3).mono ?_
  rintro e v4 ⟨rfl, b⟩
  replace hB := hB.trans (b.mono hB.size)
  replace hS := hS.below b
  replace Hr3 := Hr3.below b
  clear b
  show wpSeq _ _ _ _ _ _
  refine wpSeq_allocQ 23 (Iv .u8 (List.replicate 32 0)) rfl (fun W => by go_simp; rfl) ?_
  intro B2 C2 AB2 b mB2
  simp only [Act.put, List.setIfInBounds_toArray, List.set_cons_zero, List.set_cons_succ]
  have hb := b
  clear b
  refine wpSeq_store_row rfl 23 _ _ rfl (B2) (Iv .u8 (keyOf ell)) rfl rfl _ _ AB2 (info_key _ (keyOf_length _)) (by rw [Iv_size, Iv_size, keyOf_length]; rfl) (Iv_one _ _) ?_
  try simp only [Act.put, List.setIfInBounds_toArray, List.set_cons_zero, List.set_cons_succ]
  replace AB2 := AB2.row (Iv .u8 (keyOf ell))
  replace hb := below_setRow hb mB2 (Iv .u8 (keyOf ell))
  generalize hWn : World.setRow _ _ _ = Wn at *
  clear hWn
  have eB2_1 := Nat.lt_of_lt_of_le (hS.blkAt (w.heap.size) 23 (Iv .u8 (keyOf NK)) (.tail _ (.head _))).lt mB2
  replace mB2 := Nat.le_trans hB.size mB2
  replace hB := hB.trans (hb.mono hB.size)
  replace hS := hS.below hb
  replace Hr3 := Hr3.below hb
  clear hb
  replace hS : Facts [.blk (B2) 23 (Iv .u8 (keyOf ell)), .blk (B1) 38 (Pc p2), .blk (w.heap.size) 23 (Iv .u8 (keyOf NK)), .rng 0 (Iv .u8 (keyOf bxN)), .rng 1 (Iv .u8 (keyOf byN)), .rng 2 (Iv .u8 (keyOf dN))] _ := Facts.cons (f := .blk B2 23 (Iv .u8 (keyOf ell))) AB2 hS
  clear AB2
  refine wpSeq_nil ?_
  clear Hr3
  go_upto_region 7 with fail
  replace hS := hS.drew
  replace hB := below_drew hB
  refine wp_region_Z (S := Facts [.blk (B2) 23 (Iv .u8 (keyOf ell)), .blk (B1) 38 (Pc p2), .blk (w.heap.size) 23 (Iv .u8 (keyOf NK)), .rng 0 (Iv .u8 (keyOf bxN)), .rng 1 (Iv .u8 (keyOf byN)), .rng 2 (Iv .u8 (keyOf dN))]) 8 (by kernel_rfl) ?_
  refine wpAnyZ_takeL 0 rfl (by kernel_rfl) (by kernel_rfl) (by kernel_rfl) (by kernel_rfl) (by kernel_rfl) (fun _ _ _ h => h) (show YieldsIf _ _ _ _ (PV p2) _ from yieldsIf_load rfl 38 _ rfl (B1) rfl 38 _ _ (.tail _ (.head _)) Tryd.underlying38 rfl (info_Pc _)) hS ?_
  simp only [Act.put, List.setIfInBounds_toArray, List.set_cons_zero, List.set_cons_succ]
  refine wpAnyZ_takeL 2 rfl (by kernel_rfl) (by kernel_rfl) (by kernel_rfl) (by kernel_rfl) (by kernel_rfl) (fun _ _ _ h => h) (show YieldsIf _ _ _ _ (PV p2) _ from yieldsIf_load rfl 38 _ rfl (B1) rfl 38 _ _ (.tail _ (.head _)) Tryd.underlying38 rfl (info_Pc _)) hS ?_
  simp only [Act.put, List.setIfInBounds_toArray, List.set_cons_zero, List.set_cons_succ]
  obtain ⟨T0, hT0⟩ : ∃ t : Nat, t = textN P := ⟨_, rfl⟩
  have kT0 : T0 < p256 := by rw [hT0]; exact textN_lt _
  have HT0 := Lib.hid hT0
  clear hT0
  obtain ⟨q0, hq0⟩ : ∃ q : P4, q = pneg p2 := ⟨_, rfl⟩
  have iq0 : q0.Is (neg P) := by rw [hq0]; exact pneg_is ip2
  have Hq0 := Lib.hid hq0
  clear hq0
  obtain ⟨T1, hT1⟩ : ∃ t : Nat, t = textN (neg P) := ⟨_, rfl⟩
  have kT1 : T1 < p256 := by rw [hT1]; exact textN_lt _
  have HT1 := Lib.hid hT1
  clear hT1
  refine wpAnyZ_jobsL [(⟨1, 24⟩, .is (Key (keyOf T0))), (⟨3, 26⟩, .is (PV q0)), (⟨4, 27⟩, .is (Key (keyOf T1))), (⟨5, 6⟩, .rel (fun v w' => ∃ g, v = .pointer (some ⟨g, 0, none⟩) ∧ Blk w' g 23 (Iv .u8 (List.replicate 32 0)))), (⟨6, 7⟩, .rel (fun v w' => ∃ g, v = .pointer (some ⟨g, 0, none⟩) ∧ Blk w' g 23 (Iv .u8 (List.replicate 32 0))))] [] 2 _ _ _ (by kernel_rfl) (fun _ _ _ _ _ h => h) ?_ (fun _ _ _ _ _ h => h) (fun _ _ h hb => h.below hb) hS ?_ ?_ ?_
  · exact fun _ _ h => by cases h
  · intro j hj
    simp only [List.map_cons, List.map_nil, List.mem_cons, List.not_mem_nil, or_false] at hj
    rcases hj with rfl | rfl | rfl | rfl | rfl
    · exact fun _ _ _ h _ => h
    · exact fun _ _ _ h _ => h
    · exact fun _ _ _ h _ => h
    · intro v w1 w2 h hb
      obtain ⟨g, e, H⟩ : ∃ g, v = .pointer (some ⟨g, 0, none⟩) ∧ Blk w1 g 23 (Iv .u8 (List.replicate 32 0)) := h
      exact ⟨g, e, H.below' hb⟩
    · intro v w1 w2 h hb
      obtain ⟨g, e, H⟩ : ∃ g, v = .pointer (some ⟨g, 0, none⟩) ∧ Blk w1 g 23 (Iv .u8 (List.replicate 32 0)) := h
      exact ⟨g, e, H.below' hb⟩
  · intro j hj
    simp only [List.map_cons, List.map_nil, List.mem_cons, List.not_mem_nil, or_false] at hj
    rcases hj with rfl | rfl | rfl | rfl | rfl
    · refine job_frame [] (by kernel_rfl) ?_
      show JobAt _ _ _ _ _ _ _
      simp only [putAll, List.foldr_nil]
      intro W K hS' hK
      unfold wpOp
      go_simp
      left
      refine (cenc p2 P ip2 T0 HT0.out _).mono ?_
      rintro e v ⟨rfl, b⟩
      exact hK _ _ rfl b (fun g hg => ((block_agg _) g hg).elim)
    · refine job_frame [] (by kernel_rfl) ?_
      show JobAt _ _ _ _ _ _ _
      simp only [putAll, List.foldr_nil]
      intro W K hS' hK
      unfold wpOp
      go_simp
      left
      refine (neg_d p2 q0 ip2.ok Hq0.out _).mono ?_
      rintro e v ⟨rfl, b⟩
      exact hK _ _ rfl b (fun g hg => ((block_agg _) g hg).elim)
    · refine job_frame [⟨3, 26⟩] (by kernel_rfl) ?_
      show JobAt _ _ _ _ (Act.put _ (some 26) (PV q0)) _ _
      simp only [Act.put, List.setIfInBounds_toArray, List.set_cons_zero, List.set_cons_succ]
      intro W K hS' hK
      unfold wpOp
      go_simp
      left
      refine (cenc q0 (neg P) iq0 T1 HT1.out _).mono ?_
      rintro e v ⟨rfl, b⟩
      exact hK _ _ rfl b (fun g hg => ((block_agg _) g hg).elim)
    · refine job_frame [] (by kernel_rfl) ?_
      show JobAt _ _ _ _ _ _ _
      exact job_alloc 23 (Iv .u8 (List.replicate 32 0)) _ _ rfl rfl rfl (fun W => by go_simp; rfl)
    · refine job_frame [] (by kernel_rfl) ?_
      show JobAt _ _ _ _ _ _ _
      exact job_alloc 23 (Iv .u8 (List.replicate 32 0)) _ _ rfl rfl rfl (fun W => by go_simp; rfl)
  · intro f W hS2 hB1 hR hF hA
    have e1 : f 1 = (Key (keyOf T0)) := hR ⟨1, 24⟩ (by simp)
    have e3 : f 3 = (PV q0) := hR ⟨3, 26⟩ (by simp)
    have e4 : f 4 = (Key (keyOf T1)) := hR ⟨4, 27⟩ (by simp)
    obtain ⟨g5r7, e5, A5⟩ : ∃ g, f 5 = .pointer (some ⟨g, 0, none⟩) ∧ Blk W g 23 (Iv .u8 (List.replicate 32 0)) := hR ⟨5, 6⟩ (by simp)
    have n5 : _ ≤ g5r7 := (hF ⟨5, 6⟩ (by simp) g5r7 (by show blockOf (f 5) = _; rw [e5]; rfl)).1
    have m5 : w.heap.size ≤ g5r7 := Nat.le_trans hB.size n5
    obtain ⟨g6r7, e6, A6⟩ : ∃ g, f 6 = .pointer (some ⟨g, 0, none⟩) ∧ Blk W g 23 (Iv .u8 (List.replicate 32 0)) := hR ⟨6, 7⟩ (by simp)
    have n6 : _ ≤ g6r7 := (hF ⟨6, 7⟩ (by simp) g6r7 (by show blockOf (f 6) = _; rw [e6]; rfl)).1
    have m6 : w.heap.size ≤ g6r7 := Nat.le_trans hB.size n6
    have d5_6 : g5r7 ≠ g6r7 := fun h => hA ⟨5, 6⟩ (by simp) ⟨6, 7⟩ (by simp) (by decide) g5r7 (by show blockOf (f 5) = _; rw [e5]; rfl) (by show blockOf (f 6) = _; rw [e6, h]; rfl)
    clear hA hF hR
    simp only [setAll, putAll, List.map_cons, List.map_nil, List.foldr_cons, List.foldr_nil, Act.put, List.setIfInBounds_toArray, List.set_cons_zero, List.set_cons_succ, e1, e3, e4, e5, e6]
    clear e1 e3 e4 e5 e6
    have hBs := hB1
    have x5_0 := Nat.lt_of_lt_of_le (hS.blkAt (B2) 23 (Iv .u8 (keyOf ell)) (.head _)).lt n5
    have x5_2 := Nat.lt_of_lt_of_le (hS.blkAt (w.heap.size) 23 (Iv .u8 (keyOf NK)) (.tail _ (.tail _ (.head _)))).lt n5
    have x6_0 := Nat.lt_of_lt_of_le (hS.blkAt (B2) 23 (Iv .u8 (keyOf ell)) (.head _)).lt n6
    have x6_2 := Nat.lt_of_lt_of_le (hS.blkAt (w.heap.size) 23 (Iv .u8 (keyOf NK)) (.tail _ (.tail _ (.head _)))).lt n6
    replace hB1 := below_setRow hB1 n5 (Iv .u8 (keyOf T0))
    refine wpAnyZ_store_row 7 rfl (by kernel_rfl) rfl _ _ _ rfl g5r7 (Iv .u8 (keyOf T0)) rfl rfl _ _ A5 (info_key _ (keyOf_length _)) (by rw [Iv_size, Iv_size, keyOf_length]; rfl) (Iv_one _ _) (hS.below hB1) ?_
    try simp only [Act.put, List.setIfInBounds_toArray, List.set_cons_zero, List.set_cons_succ]
    replace A6 := A6.rowFar (Ne.symm d5_6) (Iv .u8 (keyOf T0))
    replace A5 := A5.row (Iv .u8 (keyOf T0))
    replace hB1 := below_setRow hB1 n6 (Iv .u8 (keyOf T1))
    refine wpAnyZ_store_row 8 rfl (by kernel_rfl) rfl _ _ _ rfl g6r7 (Iv .u8 (keyOf T1)) rfl rfl _ _ A6 (info_key _ (keyOf_length _)) (by rw [Iv_size, Iv_size, keyOf_length]; rfl) (Iv_one _ _) (hS.below hB1) ?_
    try simp only [Act.put, List.setIfInBounds_toArray, List.set_cons_zero, List.set_cons_succ]
    replace A5 := A5.rowFar d5_6 (Iv .u8 (keyOf T1))
    replace A6 := A6.row (Iv .u8 (keyOf T1))
    refine wpAnyZ_done (by kernel_rfl) ?_ _
    have hS3 := hS.below hB1
    replace hB := hB.trans (hB1.mono hB.size)
    clear hS hS2 hB1 hBs
    have hS : Facts [.blk (g5r7) 23 (Iv .u8 (keyOf T0)), .blk (g6r7) 23 (Iv .u8 (keyOf T1)), .blk (B2) 23 (Iv .u8 (keyOf ell)), .blk (B1) 38 (Pc p2), .blk (w.heap.size) 23 (Iv .u8 (keyOf NK)), .rng 0 (Iv .u8 (keyOf bxN)), .rng 1 (Iv .u8 (keyOf byN)), .rng 2 (Iv .u8 (keyOf dN))] _ := Facts.cons (f := .blk g5r7 23 (Iv .u8 (keyOf T0))) A5 (Facts.cons (f := .blk g6r7 23 (Iv .u8 (keyOf T1))) A6 (hS3))
    clear hS3
    try clear n5 n6
    clear A5 A6
    generalize hWn : World.setRow _ _ _ = Wn at *
    clear hWn
    obtain ⟨TX, hTX⟩ : ∃ t, t = flipN T1 := ⟨_, rfl⟩
    have kTX : TX < p256 := by rw [hTX]; exact flipN_lt _ kT1
    have hb := (keyOf_bytes T1).lt 31
    have hxor := xor_128 ⟨byteAt T1 31, hb⟩
    have hset := key_flip T1 kT1
    rw [← hTX] at hset
    have HTX := Lib.hid hTX
    clear hTX
    simp only at hxor
    generalize byteAt T1 31 % 128 + (1 - byteAt T1 31 / 128) * 128 = v1 at *
    have HL := Lib.hid hset
    clear hset
    have KB := hS.blkAt (g6r7) 23 (Iv .u8 (keyOf T1)) (.tail _ (.head _))
    have c0 := key_cellj KB 31 (by decide)
    have f0 := KB.frozen 31
    go_upto_region 9 with fail
    have KB0 := KB
    replace KB := KB.set 31 (.int .u8 (v1 : Int))
    rw [Iv_set, HL.out] at KB
    replace hB := hB.setCell (p := ⟨g6r7, 31, none⟩) (by show w.heap.size ≤ g6r7; omega) (.int .u8 (v1 : Int))
    replace hS : Facts [.blk (g5r7) 23 (Iv .u8 (keyOf T0)), .blk (g6r7) 23 (Iv .u8 (keyOf TX)), .blk (B2) 23 (Iv .u8 (keyOf ell)), .blk (B1) 38 (Pc p2), .blk (w.heap.size) 23 (Iv .u8 (keyOf NK)), .rng 0 (Iv .u8 (keyOf bxN)), .rng 1 (Iv .u8 (keyOf byN)), .rng 2 (Iv .u8 (keyOf dN))] _ := Facts.cons (f := .blk (g5r7) 23 (Iv .u8 (keyOf T0))) ((hS.blkAt (g5r7) 23 (Iv .u8 (keyOf T0)) (.head _)).far (p := ⟨g6r7, 31, none⟩) (by show _ ≠ g6r7; first | omega | exact blk_ne (hS.blkAt (g5r7) 23 (Iv .u8 (keyOf T0)) (.head _)) KB0 (by decide)) _) (Facts.cons (f := .blk (g6r7) 23 (Iv .u8 (keyOf TX))) KB (Facts.cons (f := .blk (B2) 23 (Iv .u8 (keyOf ell))) ((hS.blkAt (B2) 23 (Iv .u8 (keyOf ell)) (.tail _ (.tail _ (.head _)))).far (p := ⟨g6r7, 31, none⟩) (by show _ ≠ g6r7; first | omega | exact blk_ne (hS.blkAt (B2) 23 (Iv .u8 (keyOf ell)) (.tail _ (.tail _ (.head _)))) KB0 (by decide)) _) (Facts.cons (f := .blk (B1) 38 (Pc p2)) ((hS.blkAt (B1) 38 (Pc p2) (.tail _ (.tail _ (.tail _ (.head _))))).far (p := ⟨g6r7, 31, none⟩) (blk_ne (hS.blkAt (B1) 38 (Pc p2) (.tail _ (.tail _ (.tail _ (.head _))))) KB0 (by decide)) _) (Facts.cons (f := .blk (w.heap.size) 23 (Iv .u8 (keyOf NK))) ((hS.blkAt (w.heap.size) 23 (Iv .u8 (keyOf NK)) (.tail _ (.tail _ (.tail _ (.tail _ (.head _)))))).far (p := ⟨g6r7, 31, none⟩) (by show _ ≠ g6r7; first | omega | exact blk_ne (hS.blkAt (w.heap.size) 23 (Iv .u8 (keyOf NK)) (.tail _ (.tail _ (.tail _ (.tail _ (.head _)))))) KB0 (by decide)) _) (Facts.cons (f := .rng 0 (Iv .u8 (keyOf bxN))) ((hS.rngAt _ _ (.tail _ (.tail _ (.tail _ (.tail _ (.tail _ (.head _))))))).far (p := ⟨g6r7, 31, none⟩) (by show _ ≠ g6r7; omega) _) (Facts.cons (f := .rng 1 (Iv .u8 (keyOf byN))) ((hS.rngAt _ _ (.tail _ (.tail _ (.tail _ (.tail _ (.tail _ (.tail _ (.head _)))))))).far (p := ⟨g6r7, 31, none⟩) (by show _ ≠ g6r7; omega) _) (Facts.cons (f := .rng 2 (Iv .u8 (keyOf dN))) ((hS.rngAt _ _ (.tail _ (.tail _ (.tail _ (.tail _ (.tail _ (.tail _ (.tail _ (.head _))))))))).far (p := ⟨g6r7, 31, none⟩) (by show _ ≠ g6r7; omega) _) (Facts.nil))))))))
    clear c0 f0 hxor KB KB0 hb
    generalize World.setCell _ _ _ = V at *
    replace hS := hS.drew
    replace hB := below_drew hB
    refine wp_region_Z (S := Facts [.blk (g5r7) 23 (Iv .u8 (keyOf T0)), .blk (g6r7) 23 (Iv .u8 (keyOf TX)), .blk (B2) 23 (Iv .u8 (keyOf ell)), .blk (B1) 38 (Pc p2), .blk (w.heap.size) 23 (Iv .u8 (keyOf NK)), .rng 0 (Iv .u8 (keyOf bxN)), .rng 1 (Iv .u8 (keyOf byN)), .rng 2 (Iv .u8 (keyOf dN))]) 4 (by kernel_rfl) ?_
    refine wpAnyZ_takeL 0 rfl (by kernel_rfl) (by kernel_rfl) (by kernel_rfl) (by kernel_rfl) (by kernel_rfl) (fun _ _ _ h => h) (show YieldsIf _ _ _ _ (PV p2) _ from yieldsIf_load rfl 38 _ rfl (B1) rfl 38 _ _ (.tail _ (.tail _ (.tail _ (.head _)))) Tryd.underlying38 rfl (info_Pc _)) hS ?_
    simp only [Act.put, List.setIfInBounds_toArray, List.set_cons_zero, List.set_cons_succ]
    refine wpAnyZ_takeL 2 rfl (by kernel_rfl) (by kernel_rfl) (by kernel_rfl) (by kernel_rfl) (by kernel_rfl) (fun _ _ _ h => h) (show YieldsIf _ _ _ _ (PV p2) _ from yieldsIf_load rfl 38 _ rfl (B1) rfl 38 _ _ (.tail _ (.tail _ (.tail _ (.head _)))) Tryd.underlying38 rfl (info_Pc _)) hS ?_
    simp only [Act.put, List.setIfInBounds_toArray, List.set_cons_zero, List.set_cons_succ]
    refine wpAnyZ_one (i := 1) (by kernel_rfl) ?_
    unfold wpOp
    go_simp
    left
    refine (neg_d p2 q0 ip2.ok Hq0.out _).mono ?_
    rintro e v5 ⟨rfl, b⟩
    replace hB := hB.trans (b.mono hB.size)
    replace hS := hS.below b
    clear b
    refine ⟨hS, ?_⟩
    refine wpAnyZ_one (i := 3) (by kernel_rfl) ?_
    unfold wpOp
    go_simp
    left
    refine (csame q0 p2 (neg P) P iq0 ip2 z (HZ.out) _).mono ?_
    rintro e v6 ⟨rfl, b⟩
    replace hB := hB.trans (b.mono hB.size)
    replace hS := hS.below b
    clear b
    refine ⟨hS, ?_⟩
    refine wpAnyZ_one (i := 4) (by kernel_rfl) ?_
    unfold wpOp
    go_simp
    left
    refine wpAnyZ_done (by kernel_rfl) ?_ _
    go_upto_region 10 with fail
    replace hS := hS.drew
    replace hB := below_drew hB
    refine wp_region_Z (S := Facts [.blk (g5r7) 23 (Iv .u8 (keyOf T0)), .blk (g6r7) 23 (Iv .u8 (keyOf TX)), .blk (B2) 23 (Iv .u8 (keyOf ell)), .blk (B1) 38 (Pc p2), .blk (w.heap.size) 23 (Iv .u8 (keyOf NK)), .rng 0 (Iv .u8 (keyOf bxN)), .rng 1 (Iv .u8 (keyOf byN)), .rng 2 (Iv .u8 (keyOf dN))]) 24 (by kernel_rfl) ?_
    refine wpAnyZ_takeL 0 rfl (by kernel_rfl) (by kernel_rfl) (by kernel_rfl) (by kernel_rfl) (by kernel_rfl) (fun _ _ _ h => h) (show YieldsIf _ _ _ _ (Key (keyOf ell)) _ from yieldsIf_load rfl 23 _ rfl (B2) rfl 23 _ _ (.tail _ (.tail _ (.head _))) Tryd.underlying23 rfl (info_key _ (keyOf_length _))) hS ?_
    simp only [Act.put, List.setIfInBounds_toArray, List.set_cons_zero, List.set_cons_succ]
    refine wpAnyZ_takeL 1 rfl (by kernel_rfl) (by kernel_rfl) (by kernel_rfl) (by kernel_rfl) (by kernel_rfl) (fun _ _ _ h => h) (yieldsIf_key1 8 (by decide) rfl rfl) hS ?_
    simp only [Act.put, List.setIfInBounds_toArray, List.set_cons_zero, List.set_cons_succ]
    refine wpAnyZ_takeL 2 rfl (by kernel_rfl) (by kernel_rfl) (by kernel_rfl) (by kernel_rfl) (by kernel_rfl) (fun _ _ _ h => h) (show YieldsIf _ _ _ _ (PV p2) _ from yieldsIf_load rfl 38 _ rfl (B1) rfl 38 _ _ (.tail _ (.tail _ (.tail _ (.head _)))) Tryd.underlying38 rfl (info_Pc _)) hS ?_
    simp only [Act.put, List.setIfInBounds_toArray, List.set_cons_zero, List.set_cons_succ]
    obtain ⟨q1, hq1⟩ : ∃ q : P4, q = pmul 8 p2 256 := ⟨_, rfl⟩
    have iq1 : q1.Is (times ok 8 P) := by rw [hq1]; exact pmul_is256 8 (by decide) ip2
    have Hq1 := Lib.hid hq1
    clear hq1
    refine wpAnyZ_one (i := 3) (by kernel_rfl) ?_
    unfold wpOp
    go_simp
    left
    refine (mul_d 8 p2 q1 (by decide) ip2.ok Hq1.out _ (hS.rngAt _ _ (.tail _ (.tail _ (.tail _ (.tail _ (.tail _ (.tail _ (.tail _ (.head _)))))))))).mono ?_
    rintro e v7 ⟨rfl, b⟩
    replace hB := hB.trans (b.mono hB.size)
    replace hS := hS.below b
    clear b
    refine ⟨hS, ?_⟩
    obtain ⟨q2, hq2⟩ : ∃ q : P4, q = pmul ell q1 256 := ⟨_, rfl⟩
    have iq2 : q2.Is (times ok ell (times ok 8 P)) := by rw [hq2]; exact pmul_is256 ell ell_lt iq1
    have Hq2 := Lib.hid hq2
    clear hq2
    refine wpAnyZ_one (i := 4) (by kernel_rfl) ?_
    unfold wpOp
    go_simp
    left
    refine (mul_d ell q1 q2 ell_lt iq1.ok Hq2.out _ (hS.rngAt _ _ (.tail _ (.tail _ (.tail _ (.tail _ (.tail _ (.tail _ (.tail _ (.head _)))))))))).mono ?_
    rintro e v8 ⟨rfl, b⟩
    replace hB := hB.trans (b.mono hB.size)
    replace hS := hS.below b
    clear b
    refine ⟨hS, ?_⟩
    refine wpAnyZ_one (i := 5) (by kernel_rfl) ?_
    unfold wpOp
    go_simp
    left
    refine (czero_v _).mono ?_
    rintro e v9 ⟨rfl, b⟩
    replace hB := hB.trans (b.mono hB.size)
    replace hS := hS.below b
    clear b
    refine ⟨hS, ?_⟩
    refine wpAnyZ_one (i := 6) (by kernel_rfl) ?_
    unfold wpOp
    go_simp
    left
    refine (csame q2 pzero (times ok ell (times ok 8 P)) (zero dd) iq2 ipzero true (eight_a _) _).mono ?_
    rintro e v10 ⟨rfl, b⟩
    replace hB := hB.trans (b.mono hB.size)
    replace hS := hS.below b
    clear b
    refine ⟨hS, ?_⟩
    refine wpAnyZ_takeL 7 rfl (by kernel_rfl) (by kernel_rfl) (by kernel_rfl) (by kernel_rfl) (by kernel_rfl) (fun _ _ _ h => h) (yieldsIf_move rfl _ rfl _ rfl) hS ?_
    simp only [Act.put, List.setIfInBounds_toArray, List.set_cons_zero, List.set_cons_succ]
    refine wpAnyZ_takeL 8 rfl (by kernel_rfl) (by kernel_rfl) (by kernel_rfl) (by kernel_rfl) (by kernel_rfl) (fun _ _ _ h => h) (show YieldsIf _ _ _ _ (Key (keyOf T0)) _ from yieldsIf_load rfl 23 _ rfl (g5r7) rfl 23 _ _ (.head _) Tryd.underlying23 rfl (info_key _ (keyOf_length _))) hS ?_
    simp only [Act.put, List.setIfInBounds_toArray, List.set_cons_zero, List.set_cons_succ]
    refine wpAnyZ_takeL 9 rfl (by kernel_rfl) (by kernel_rfl) (by kernel_rfl) (by kernel_rfl) (by kernel_rfl) (fun _ _ _ h => h) (show YieldsIf _ _ _ _ (Key (keyOf TX)) _ from yieldsIf_load rfl 23 _ rfl (g6r7) rfl 23 _ _ (.tail _ (.head _)) Tryd.underlying23 rfl (info_key _ (keyOf_length _))) hS ?_
    simp only [Act.put, List.setIfInBounds_toArray, List.set_cons_zero, List.set_cons_succ]
    refine wpAnyZ_takeL 10 rfl (by kernel_rfl) (by kernel_rfl) (by kernel_rfl) (by kernel_rfl) (by kernel_rfl) (fun _ _ _ h => h) (yieldsIf_eqlk rfl _ _ rfl T0 TX rfl rfl d kT0 kTX (by rw [HT0.out, HTX.out, HT1.out]; exact HD.out)) hS ?_
    simp only [Act.put, List.setIfInBounds_toArray, List.set_cons_zero, List.set_cons_succ]
    refine wpAnyZ_takeL 11 rfl (by kernel_rfl) (by kernel_rfl) (by kernel_rfl) (by kernel_rfl) (by kernel_rfl) (fun _ _ _ h => h) (yieldsIf_move rfl _ rfl _ rfl) hS ?_
    simp only [Act.put, List.setIfInBounds_toArray, List.set_cons_zero, List.set_cons_succ]
    refine wpAnyZ_takeL 12 rfl (by kernel_rfl) (by kernel_rfl) (by kernel_rfl) (by kernel_rfl) (by kernel_rfl) (fun _ _ _ h => h) (yieldsIf_neqb rfl _ _ rfl d z rfl rfl true HX.out) hS ?_
    simp only [Act.put, List.setIfInBounds_toArray, List.set_cons_zero, List.set_cons_succ]
    refine wpAnyZ_takeL 13 rfl (by kernel_rfl) (by kernel_rfl) (by kernel_rfl) (by kernel_rfl) (by kernel_rfl) (fun _ _ _ h => h) (yieldsIf_pick rfl _ _ _ rfl true rfl _ rfl) hS ?_
    simp only [Act.put, List.setIfInBounds_toArray, List.set_cons_zero, List.set_cons_succ]
    refine wpAnyZ_takeL 14 rfl (by kernel_rfl) (by kernel_rfl) (by kernel_rfl) (by kernel_rfl) (by kernel_rfl) (fun _ _ _ h => h) (yieldsIf_move rfl _ rfl _ rfl) hS ?_
    simp only [Act.put, List.setIfInBounds_toArray, List.set_cons_zero, List.set_cons_succ]
    refine wpAnyZ_takeL 15 rfl (by kernel_rfl) (by kernel_rfl) (by kernel_rfl) (by kernel_rfl) (by kernel_rfl) (fun _ _ _ h => h) (yieldsIf_key1 2 (by decide) rfl rfl) hS ?_
    simp only [Act.put, List.setIfInBounds_toArray, List.set_cons_zero, List.set_cons_succ]
    refine wpAnyZ_takeL 16 rfl (by kernel_rfl) (by kernel_rfl) (by kernel_rfl) (by kernel_rfl) (by kernel_rfl) (fun _ _ _ h => h) (show YieldsIf _ _ _ _ (PV p2) _ from yieldsIf_load rfl 38 _ rfl (B1) rfl 38 _ _ (.tail _ (.tail _ (.tail _ (.head _)))) Tryd.underlying38 rfl (info_Pc _)) hS ?_
    simp only [Act.put, List.setIfInBounds_toArray, List.set_cons_zero, List.set_cons_succ]
    refine wpAnyZ_takeL 18 rfl (by kernel_rfl) (by kernel_rfl) (by kernel_rfl) (by kernel_rfl) (by kernel_rfl) (fun _ _ _ h => h) (show YieldsIf _ _ _ _ (PV p2) _ from yieldsIf_load rfl 38 _ rfl (B1) rfl 38 _ _ (.tail _ (.tail _ (.tail _ (.head _)))) Tryd.underlying38 rfl (info_Pc _)) hS ?_
    simp only [Act.put, List.setIfInBounds_toArray, List.set_cons_zero, List.set_cons_succ]
    refine wpAnyZ_takeL 19 rfl (by kernel_rfl) (by kernel_rfl) (by kernel_rfl) (by kernel_rfl) (by kernel_rfl) (fun _ _ _ h => h) (show YieldsIf _ _ _ _ (PV p2) _ from yieldsIf_load rfl 38 _ rfl (B1) rfl 38 _ _ (.tail _ (.tail _ (.tail _ (.head _)))) Tryd.underlying38 rfl (info_Pc _)) hS ?_
    simp only [Act.put, List.setIfInBounds_toArray, List.set_cons_zero, List.set_cons_succ]
    obtain ⟨q3, hq3⟩ : ∃ q : P4, q = pmul 2 p2 256 := ⟨_, rfl⟩
    have iq3 : q3.Is (times ok 2 P) := by rw [hq3]; exact pmul_is256 2 (by decide) ip2
    have Hq3 := Lib.hid hq3
    clear hq3
    refine wpAnyZ_jobsRL [(⟨17, 53⟩, .is (PV q3)), (⟨20, 56⟩, .rel (fun v w' => ∃ g, v = .slice (some ⟨g, 0, none⟩) 2 2 ∧ Blk w' g 38 (Pl [p2, p2])))] 4 _ _ _ (by kernel_rfl) (fun _ _ _ _ _ h => h) (fun _ _ h hb => h.below hb) hS ?_ ?_ ?_
    · intro j hj
      simp only [List.map_cons, List.map_nil, List.mem_cons, List.not_mem_nil, or_false] at hj
      rcases hj with rfl | rfl
      · exact fun _ _ _ h _ => h
      · rintro v w1 w2 ⟨g, e, H⟩ hb
        exact ⟨g, e, H.below' hb⟩
    · intro j hj
      simp only [List.map_cons, List.map_nil, List.mem_cons, List.not_mem_nil, or_false] at hj
      rcases hj with rfl | rfl
      · refine jobR_frame [] (by kernel_rfl) ?_
        intro f W K hS' hp hK
        simp only [putAll, List.foldr_cons, List.foldr_nil, Act.put, List.setIfInBounds_toArray, List.set_cons_zero, List.set_cons_succ]
        try simp only [putAll, List.foldr_cons, List.foldr_nil, Act.put, List.setIfInBounds_toArray, List.set_cons_zero, List.set_cons_succ] at hK
        unfold wpOp
        go_simp
        left
        refine (mul_d 2 p2 q3 (by decide) ip2.ok Hq3.out _ (hS'.rngAt _ _ (.tail _ (.tail _ (.tail _ (.tail _ (.tail _ (.tail _ (.tail _ (.head _)))))))))).mono ?_
        rintro e v ⟨rfl, b⟩
        exact hK _ _ rfl b
      · refine jobR_frame [] (by kernel_rfl) ?_
        intro f W K hS' hp hK
        simp only [putAll, List.foldr_cons, List.foldr_nil, Act.put, List.setIfInBounds_toArray, List.set_cons_zero, List.set_cons_succ]
        try simp only [putAll, List.foldr_cons, List.foldr_nil, Act.put, List.setIfInBounds_toArray, List.set_cons_zero, List.set_cons_succ] at hK
        exact wpOp_points 20 rfl rfl 2 _ rfl [p2, p2] (parts2 rfl rfl) rfl (by decide) (by decide) (fun g W' A b => hK _ _ ⟨g, rfl, A⟩ b)
    · intro f W hS2 hb hR
      have e17 : f 17 = (PV q3) := hR ⟨17, 53⟩ (by simp)
      obtain ⟨G3, e20, AG3⟩ : ∃ g, f 20 = .slice (some ⟨g, 0, none⟩) 2 2 ∧ Blk W g 38 (Pl [p2, p2]) := hR ⟨20, 56⟩ (by simp)
      clear hR
      simp only [setAll, List.map_cons, List.map_nil, putAll, List.foldr_cons, List.foldr_nil, Act.put, List.setIfInBounds_toArray, List.set_cons_zero, List.set_cons_succ, e17, e20]
      clear e17 e20
      replace hB := hB.trans (hb.mono hB.size)
      replace hS := hS2
      clear hS2
      clear hb
      obtain ⟨q4, hq4⟩ : ∃ q : P4, q = psum [p2, p2] := ⟨_, rfl⟩
      have iq4 : q4.Is (add ok P P) := by rw [hq4]; exact psum2 ip2 ip2
      have Hq4 := Lib.hid hq4
      clear hq4
      refine wpAnyZ_one (i := 21) (by kernel_rfl) ?_
      unfold wpOp
      go_simp
      left
      refine (add_d2 p2 p2 q4 ip2.ok ip2.ok G3 _ AG3 (hS.rngAt _ _ (.tail _ (.tail _ (.tail _ (.tail _ (.tail _ (.tail _ (.tail _ (.head _))))))))) Hq4.out).mono ?_
      rintro e v11 ⟨rfl, b⟩
      replace hB := hB.trans (b.mono hB.size)
      replace hS := hS.below b
      replace AG3 := AG3.below' b
      clear b
      refine ⟨hS, ?_⟩
      refine wpAnyZ_one (i := 22) (by kernel_rfl) ?_
      unfold wpOp
      go_simp
      left
      refine (csame q3 q4 (times ok 2 P) (add ok P P) iq3 iq4 true (eight_b _) _).mono ?_
      rintro e v12 ⟨rfl, b⟩
      replace hB := hB.trans (b.mono hB.size)
      replace hS := hS.below b
      replace AG3 := AG3.below' b
      clear b
      refine ⟨hS, ?_⟩
      refine wpAnyZ_takeL 23 rfl (by kernel_rfl) (by kernel_rfl) (by kernel_rfl) (by kernel_rfl) (by kernel_rfl) (fun _ _ _ h => h) (yieldsIf_pick rfl _ _ _ rfl true rfl _ rfl) hS ?_
      simp only [Act.put, List.setIfInBounds_toArray, List.set_cons_zero, List.set_cons_succ]
      refine wpAnyZ_one (i := 24) (by kernel_rfl) ?_
      unfold wpOp
      go_simp
      left
      refine wpAnyZ_done (by kernel_rfl) ?_ _
      go_wp2
      exact bodyPost_ret (results_tmp rfl _ _ _) rfl ⟨rfl, hB⟩
set_option maxHeartbeats 8000000 in
set_option maxRecDepth 100000 in
theorem eight_f (NK : Nat) (kNK : NK < p256) (hP : ∀ P : Pt dd, textN P ≠ NK) (w : World) (GX : Rng w 0 (Iv .u8 (keyOf bxN))) (GY : Rng w 1 (Iv .u8 (keyOf byN))) (GD : Rng w 2 (Iv .u8 (keyOf dN))) :
    Calls Tryd.prog 8 #[Key (keyOf NK)] w fun e w' => e = .returned (.bool true) ∧ Below w.heap.size w w' := by
  have bGX := GX.blk
  have bGY := GY.blk
  have bGD := GD.blk
  have ipbase := pbase_is
  have ipzero := pzero_is
  obtain ⟨z, hz⟩ : ∃ z, decide (textN (neg (times ok NK bb)) = textN (times ok NK bb)) = z := ⟨_, rfl⟩
  obtain ⟨d, hd⟩ : ∃ d, decide (textN (times ok NK bb) = flipN (textN (neg (times ok NK bb)))) = d := ⟨_, rfl⟩
  have hx := eight_c (times ok NK bb)
  rw [hz, hd] at hx
  have HZ := Lib.hid hz
  have HD := Lib.hid hd
  have HX := Lib.hid hx
  have HP := Lib.hid hP
  clear hz hd hx hP
  unfold Key
  go_enter Tryd.func8, Tryd.ntmps8
  go_upto_region 1 with fail
  generalize hW : World.alloc w _ = W
  have hB : Below w.heap.size w W := hW ▸ (Below.refl w.heap.size w).alloc (Nat.le_refl _) _
  have K0 : Blk W (w.heap.size) 23 (Iv .u8 (keyOf NK)) := hW ▸ (Blk.new' (by simp) _ _)
  have hS : Facts [.blk (w.heap.size) 23 (Iv .u8 (keyOf NK)), .rng 0 (Iv .u8 (keyOf bxN)), .rng 1 (Iv .u8 (keyOf byN)), .rng 2 (Iv .u8 (keyOf dN))] W := Facts.cons (f := .blk (w.heap.size) 23 (Iv .u8 (keyOf NK))) K0 (Facts.cons (f := .rng 0 (Iv .u8 (keyOf bxN))) (GX.below hB) (Facts.cons (f := .rng 1 (Iv .u8 (keyOf byN))) (GY.below hB) (Facts.cons (f := .rng 2 (Iv .u8 (keyOf dN))) (GD.below hB) (Facts.nil))))
  clear hW K0
  refine wp_region_seq ?_
  refine wpSeq_wp rfl ?_
  go_simp
  refine (awake_any _ (hS.rngAt _ _ (.tail _ (.head _))) (hS.rngAt _ _ (.tail _ (.tail _ (.head _))))).mono ?_
  rintro e v1 ⟨rfl, b⟩
  replace hB := hB.trans (b.mono hB.size)
  replace hS := hS.below b
  clear b
  show wpSeq _ _ _ _ _ _
  refine wpSeq_yield (S := Facts [.blk (w.heap.size) 23 (Iv .u8 (keyOf NK)), .rng 0 (Iv .u8 (keyOf bxN)), .rng 1 (Iv .u8 (keyOf byN)), .rng 2 (Iv .u8 (keyOf dN))]) (yieldsIf_not rfl _ _ rfl true rfl) hS ?_
  simp only [Act.put, List.setIfInBounds_toArray, List.set_cons_zero, List.set_cons_succ]
  refine wpSeq_nil ?_
  go_upto_region 3 with fail
  refine wp_region_seq ?_
  refine wpSeq_yield (S := Facts [.blk (w.heap.size) 23 (Iv .u8 (keyOf NK)), .rng 0 (Iv .u8 (keyOf bxN)), .rng 1 (Iv .u8 (keyOf byN)), .rng 2 (Iv .u8 (keyOf dN))]) (show YieldsIf _ _ _ _ (Key (keyOf NK)) _ from yieldsIf_load rfl 23 _ rfl (w.heap.size) rfl 23 _ _ (.head _) Tryd.underlying23 rfl (info_key _ (keyOf_length _))) hS ?_
  simp only [Act.put, List.setIfInBounds_toArray, List.set_cons_zero, List.set_cons_succ]
  refine wpSeq_wp rfl ?_
  go_simp
  refine (cdec_none NK kNK HP.out _).mono ?_
  rintro e v2 ⟨rfl, b⟩
  replace hB := hB.trans (b.mono hB.size)
  replace hS := hS.below b
  clear b
  show wpSeq _ _ _ _ _ _
  refine wpSeq_yield (S := Facts [.blk (w.heap.size) 23 (Iv .u8 (keyOf NK)), .rng 0 (Iv .u8 (keyOf bxN)), .rng 1 (Iv .u8 (keyOf byN)), .rng 2 (Iv .u8 (keyOf dN))]) (yieldsIf_move rfl _ rfl _ rfl) hS ?_
  simp only [Act.put, List.setIfInBounds_toArray, List.set_cons_zero, List.set_cons_succ]
  refine wpSeq_yield (S := Facts [.blk (w.heap.size) 23 (Iv .u8 (keyOf NK)), .rng 0 (Iv .u8 (keyOf bxN)), .rng 1 (Iv .u8 (keyOf byN)), .rng 2 (Iv .u8 (keyOf dN))]) (show YieldsIf _ _ _ _ (PV p40) _ from yieldsIf_extract rfl _ _ rfl _ rfl _ rfl) hS ?_
  simp only [Act.put, List.setIfInBounds_toArray, List.set_cons_zero, List.set_cons_succ]
  refine wpSeq_yield (S := Facts [.blk (w.heap.size) 23 (Iv .u8 (keyOf NK)), .rng 0 (Iv .u8 (keyOf bxN)), .rng 1 (Iv .u8 (keyOf byN)), .rng 2 (Iv .u8 (keyOf dN))]) (show YieldsIf _ _ _ _ (.bool false) _ from yieldsIf_extract rfl _ _ rfl _ rfl _ rfl) hS ?_
  simp only [Act.put, List.setIfInBounds_toArray, List.set_cons_zero, List.set_cons_succ]
  refine wpSeq_allocQ 38 (Pc p40) rfl (fun W => by go_simp; rfl) ?_
  intro B1 C1 AB1 b mB1
  simp only [Act.put, List.setIfInBounds_toArray, List.set_cons_zero, List.set_cons_succ]
  have hb := b
  clear b
  refine wpSeq_store_row rfl 38 _ _ rfl (B1) (Pc p40) rfl rfl _ _ AB1 (info_Pc _) (Pc_same _ _) (Pc_one _) ?_
  try simp only [Act.put, List.setIfInBounds_toArray, List.set_cons_zero, List.set_cons_succ]
  replace AB1 := AB1.row (Pc p40)
  replace hb := below_setRow hb mB1 (Pc p40)
  generalize hWn : World.setRow _ _ _ = Wn at *
  clear hWn
  replace mB1 := Nat.le_trans hB.size mB1
  replace hB := hB.trans (hb.mono hB.size)
  replace hS := hS.below hb
  clear hb
  replace hS : Facts [.blk (B1) 38 (Pc p40), .blk (w.heap.size) 23 (Iv .u8 (keyOf NK)), .rng 0 (Iv .u8 (keyOf bxN)), .rng 1 (Iv .u8 (keyOf byN)), .rng 2 (Iv .u8 (keyOf dN))] _ := Facts.cons (f := .blk B1 38 (Pc p40)) AB1 hS
  clear AB1
  refine wpSeq_yield (S := Facts [.blk (B1) 38 (Pc p40), .blk (w.heap.size) 23 (Iv .u8 (keyOf NK)), .rng 0 (Iv .u8 (keyOf bxN)), .rng 1 (Iv .u8 (keyOf byN)), .rng 2 (Iv .u8 (keyOf dN))]) (yieldsIf_assign rfl _ rfl _ rfl) hS ?_
  simp only [Act.put, List.setIfInBounds_toArray, List.set_cons_zero, List.set_cons_succ]
  refine wpSeq_nil ?_
  go_upto_region 4 with fail
  refine wp_region_seq ?_
  refine wpSeq_yield (S := Facts [.blk (B1) 38 (Pc p40), .blk (w.heap.size) 23 (Iv .u8 (keyOf NK)), .rng 0 (Iv .u8 (keyOf bxN)), .rng 1 (Iv .u8 (keyOf byN)), .rng 2 (Iv .u8 (keyOf dN))]) (yieldsIf_move rfl _ rfl _ rfl) hS ?_
  simp only [Act.put, List.setIfInBounds_toArray, List.set_cons_zero, List.set_cons_succ]
  refine wpSeq_yield (S := Facts [.blk (B1) 38 (Pc p40), .blk (w.heap.size) 23 (Iv .u8 (keyOf NK)), .rng 0 (Iv .u8 (keyOf bxN)), .rng 1 (Iv .u8 (keyOf byN)), .rng 2 (Iv .u8 (keyOf dN))]) (yieldsIf_not rfl _ _ rfl false rfl) hS ?_
  simp only [Act.put, List.setIfInBounds_toArray, List.set_cons_zero, List.set_cons_succ]
  refine wpSeq_nil ?_
  go_upto_region 5 with fail
  replace hS := hS.drew
  replace hB := below_drew hB
  refine wp_region_Z (S := Facts [.blk (B1) 38 (Pc p40), .blk (w.heap.size) 23 (Iv .u8 (keyOf NK)), .rng 0 (Iv .u8 (keyOf bxN)), .rng 1 (Iv .u8 (keyOf byN)), .rng 2 (Iv .u8 (keyOf dN))]) 3 (by kernel_rfl) ?_
  refine wpAnyZ_takeL 0 rfl (by kernel_rfl) (by kernel_rfl) (by kernel_rfl) (by kernel_rfl) (by kernel_rfl) (fun _ _ _ h => h) (show YieldsIf _ _ _ _ (Key (keyOf NK)) _ from yieldsIf_load rfl 23 _ rfl (w.heap.size) rfl 23 _ _ (.tail _ (.head _)) Tryd.underlying23 rfl (info_key _ (keyOf_length _))) hS ?_
  simp only [Act.put, List.setIfInBounds_toArray, List.set_cons_zero, List.set_cons_succ]
  refine wpAnyZ_one (i := 1) (by kernel_rfl) ?_
  unfold wpOp
  go_simp
  left
  refine (cbase_v _ (hS.rngAt _ _ (.tail _ (.tail _ (.head _)))) (hS.rngAt _ _ (.tail _ (.tail _ (.tail _ (.head _)))))).mono ?_
  rintro e v3 ⟨rfl, b⟩
  replace hB := hB.trans (b.mono hB.size)
  replace hS := hS.below b
  clear b
  refine ⟨hS, ?_⟩
  obtain ⟨q0, hq0⟩ : ∃ q : P4, q = pmul NK pbase 256 := ⟨_, rfl⟩
  have iq0 : q0.Is (times ok NK bb) := by rw [hq0]; exact pmul_is256 NK kNK ipbase
  have Hq0 := Lib.hid hq0
  clear hq0
  refine wpAnyZ_one (i := 2) (by kernel_rfl) ?_
  unfold wpOp
  go_simp
  left
  refine (mul_d NK pbase q0 kNK ipbase.ok Hq0.out _ (hS.rngAt _ _ (.tail _ (.tail _ (.tail _ (.tail _ (.head _))))))).mono ?_
  rintro e v4 ⟨rfl, b⟩
  replace hB := hB.trans (b.mono hB.size)
  replace hS := hS.below b
  clear b
  refine ⟨hS, ?_⟩
  have hS9 : Facts [.blk (B1) 38 (Pc q0), .blk (w.heap.size) 23 (Iv .u8 (keyOf NK)), .rng 0 (Iv .u8 (keyOf bxN)), .rng 1 (Iv .u8 (keyOf byN)), .rng 2 (Iv .u8 (keyOf dN))] (World.setRow _ (B1) (Pc q0)) := Facts.cons (f := .blk (B1) 38 (Pc q0)) ((hS.blkAt (B1) 38 (Pc p40) (.head _)).row _) (Facts.cons (f := .blk (w.heap.size) 23 (Iv .u8 (keyOf NK))) ((hS.blkAt (w.heap.size) 23 (Iv .u8 (keyOf NK)) (.tail _ (.head _))).rowFar (k := B1) (blk_ne (hS.blkAt _ _ _ (.tail _ (.head _))) (hS.blkAt _ _ _ (.head _)) (by decide)) _) (Facts.cons (f := .rng 0 (Iv .u8 (keyOf bxN))) ((hS.rngAt _ _ (.tail _ (.tail _ (.head _)))).rowFar (k := B1) (by omega) _) (Facts.cons (f := .rng 1 (Iv .u8 (keyOf byN))) ((hS.rngAt _ _ (.tail _ (.tail _ (.tail _ (.head _))))).rowFar (k := B1) (by omega) _) (Facts.cons (f := .rng 2 (Iv .u8 (keyOf dN))) ((hS.rngAt _ _ (.tail _ (.tail _ (.tail _ (.tail _ (.head _)))))).rowFar (k := B1) (by omega) _) (Facts.nil)))))
  refine wpAnyZ_store_end 3 rfl (by kernel_rfl) rfl _ _ _ rfl (B1) (Pc q0) rfl rfl _ _ (hS.blkAt _ _ _ (.head _)) (info_Pc _) (Pc_same _ _) (Pc_one _) (by kernel_rfl) ?_
  try simp only [Act.put, List.setIfInBounds_toArray, List.set_cons_zero, List.set_cons_succ]
  replace hB := below_setRow hB (g := B1) (by omega) (Pc q0)
  replace hS := hS9
  clear hS9
  generalize hWn : World.setRow _ _ _ = Wn at *
  clear hWn
  refine wpAnyZ_done (by kernel_rfl) ?_ _
  go_upto_region 6 with fail
  refine wp_region_seq ?_
  refine wpSeq_wp rfl ?_
  go_simp
  refine (rl_v _).mono ?_
  rintro e v5 ⟨r5, rfl, Hr5, b⟩
  replace hB := hB.trans (b.mono hB.size)
  replace hS := hS.below b
  clear b
  show wpSeq _ _ _ _ _ _
  refine wpSeq_wp rfl ?_
  go_simp
  refine (rkey_v _ ell _ Hr5).mono ?_
  rintro e v6 ⟨rfl, b⟩
  replace hB := hB.trans (b.mono hB.size)
  replace hS := hS.below b
  replace Hr5 := Hr5.below b
  clear b
  show wpSeq _ _ _ _ _ _
  refine wpSeq_allocQ 23 (Iv .u8 (List.replicate 32 0)) rfl (fun W => by go_simp; rfl) ?_
  intro B2 C2 AB2 b mB2
  simp only [Act.put, List.setIfInBounds_toArray, List.set_cons_zero, List.set_cons_succ]
  have hb := b
  clear b
  refine wpSeq_store_row rfl 23 _ _ rfl (B2) (Iv .u8 (keyOf ell)) rfl rfl _ _ AB2 (info_key _ (keyOf_length _)) (by rw [Iv_size, Iv_size, keyOf_length]; rfl) (Iv_one _ _) ?_
  try simp only [Act.put, List.setIfInBounds_toArray, List.set_cons_zero, List.set_cons_succ]
  replace AB2 := AB2.row (Iv .u8 (keyOf ell))
  replace hb := below_setRow hb mB2 (Iv .u8 (keyOf ell))
  generalize hWn : World.setRow _ _ _ = Wn at *
  clear hWn
  have eB2_1 := Nat.lt_of_lt_of_le (hS.blkAt (w.heap.size) 23 (Iv .u8 (keyOf NK)) (.tail _ (.head _))).lt mB2
  replace mB2 := Nat.le_trans hB.size mB2
  replace hB := hB.trans (hb.mono hB.size)
  replace hS := hS.below hb
  replace Hr5 := Hr5.below hb
  clear hb
  replace hS : Facts [.blk (B2) 23 (Iv .u8 (keyOf ell)), .blk (B1) 38 (Pc q0), .blk (w.heap.size) 23 (Iv .u8 (keyOf NK)), .rng 0 (Iv .u8 (keyOf bxN)), .rng 1 (Iv .u8 (keyOf byN)), .rng 2 (Iv .u8 (keyOf dN))] _ := Facts.cons (f := .blk B2 23 (Iv .u8 (keyOf ell))) AB2 hS
  clear AB2
  refine wpSeq_nil ?_
  clear Hr5
  go_upto_region 7 with fail
  replace hS := hS.drew
  replace hB := below_drew hB
  refine wp_region_Z (S := Facts [.blk (B2) 23 (Iv .u8 (keyOf ell)), .blk (B1) 38 (Pc q0), .blk (w.heap.size) 23 (Iv .u8 (keyOf NK)), .rng 0 (Iv .u8 (keyOf bxN)), .rng 1 (Iv .u8 (keyOf byN)), .rng 2 (Iv .u8 (keyOf dN))]) 8 (by kernel_rfl) ?_
  refine wpAnyZ_takeL 0 rfl (by kernel_rfl) (by kernel_rfl) (by kernel_rfl) (by kernel_rfl) (by kernel_rfl) (fun _ _ _ h => h) (show YieldsIf _ _ _ _ (PV q0) _ from yieldsIf_load rfl 38 _ rfl (B1) rfl 38 _ _ (.tail _ (.head _)) Tryd.underlying38 rfl (info_Pc _)) hS ?_
  simp only [Act.put, List.setIfInBounds_toArray, List.set_cons_zero, List.set_cons_succ]
  refine wpAnyZ_takeL 2 rfl (by kernel_rfl) (by kernel_rfl) (by kernel_rfl) (by kernel_rfl) (by kernel_rfl) (fun _ _ _ h => h) (show YieldsIf _ _ _ _ (PV q0) _ from yieldsIf_load rfl 38 _ rfl (B1) rfl 38 _ _ (.tail _ (.head _)) Tryd.underlying38 rfl (info_Pc _)) hS ?_
  simp only [Act.put, List.setIfInBounds_toArray, List.set_cons_zero, List.set_cons_succ]
  obtain ⟨T0, hT0⟩ : ∃ t : Nat, t = textN (times ok NK bb) := ⟨_, rfl⟩
  have kT0 : T0 < p256 := by rw [hT0]; exact textN_lt _
  have HT0 := Lib.hid hT0
  clear hT0
  obtain ⟨q1, hq1⟩ : ∃ q : P4, q = pneg q0 := ⟨_, rfl⟩
  have iq1 : q1.Is (neg (times ok NK bb)) := by rw [hq1]; exact pneg_is iq0
  have Hq1 := Lib.hid hq1
  clear hq1
  obtain ⟨T1, hT1⟩ : ∃ t : Nat, t = textN (neg (times ok NK bb)) := ⟨_, rfl⟩
  have kT1 : T1 < p256 := by rw [hT1]; exact textN_lt _
  have HT1 := Lib.hid hT1
  clear hT1
  refine wpAnyZ_jobsL [(⟨1, 24⟩, .is (Key (keyOf T0))), (⟨3, 26⟩, .is (PV q1)), (⟨4, 27⟩, .is (Key (keyOf T1))), (⟨5, 6⟩, .rel (fun v w' => ∃ g, v = .pointer (some ⟨g, 0, none⟩) ∧ Blk w' g 23 (Iv .u8 (List.replicate 32 0)))), (⟨6, 7⟩, .rel (fun v w' => ∃ g, v = .pointer (some ⟨g, 0, none⟩) ∧ Blk w' g 23 (Iv .u8 (List.replicate 32 0))))] [] 2 _ _ _ (by kernel_rfl) (fun _ _ _ _ _ h => h) ?_ (fun _ _ _ _ _ h => h) (fun _ _ h hb => h.below hb) hS ?_ ?_ ?_
  · exact fun _ _ h => by cases h
  · intro j hj
    simp only [List.map_cons, List.map_nil, List.mem_cons, List.not_mem_nil, or_false] at hj
    rcases hj with rfl | rfl | rfl | rfl | rfl
    · exact fun _ _ _ h _ => h
    · exact fun _ _ _ h _ => h
    · exact fun _ _ _ h _ => h
    · intro v w1 w2 h hb
      obtain ⟨g, e, H⟩ : ∃ g, v = .pointer (some ⟨g, 0, none⟩) ∧ Blk w1 g 23 (Iv .u8 (List.replicate 32 0)) := h
      exact ⟨g, e, H.below' hb⟩
    · intro v w1 w2 h hb
      obtain ⟨g, e, H⟩ : ∃ g, v = .pointer (some ⟨g, 0, none⟩) ∧ Blk w1 g 23 (Iv .u8 (List.replicate 32 0)) := h
      exact ⟨g, e, H.below' hb⟩
  · intro j hj
    simp only [List.map_cons, List.map_nil, List.mem_cons, List.not_mem_nil, or_false] at hj
    rcases hj with rfl | rfl | rfl | rfl | rfl
    · refine job_frame [] (by kernel_rfl) ?_
      show JobAt _ _ _ _ _ _ _
      simp only [putAll, List.foldr_nil]
      intro W K hS' hK
      unfold wpOp
      go_simp
      left
      refine (cenc q0 (times ok NK bb) iq0 T0 HT0.out _).mono ?_
      rintro e v ⟨rfl, b⟩
      exact hK _ _ rfl b (fun g hg => ((block_agg _) g hg).elim)
    · refine job_frame [] (by kernel_rfl) ?_
      show JobAt _ _ _ _ _ _ _
      simp only [putAll, List.foldr_nil]
      intro W K hS' hK
      unfold wpOp
      go_simp
      left
      refine (neg_d q0 q1 iq0.ok Hq1.out _).mono ?_
      rintro e v ⟨rfl, b⟩
      exact hK _ _ rfl b (fun g hg => ((block_agg _) g hg).elim)
    · refine job_frame [⟨3, 26⟩] (by kernel_rfl) ?_
      show JobAt _ _ _ _ (Act.put _ (some 26) (PV q1)) _ _
      simp only [Act.put, List.setIfInBounds_toArray, List.set_cons_zero, List.set_cons_succ]
      intro W K hS' hK
      unfold wpOp
      go_simp
      left
      refine (cenc q1 (neg (times ok NK bb)) iq1 T1 HT1.out _).mono ?_
      rintro e v ⟨rfl, b⟩
      exact hK _ _ rfl b (fun g hg => ((block_agg _) g hg).elim)
    · refine job_frame [] (by kernel_rfl) ?_
      show JobAt _ _ _ _ _ _ _
      exact job_alloc 23 (Iv .u8 (List.replicate 32 0)) _ _ rfl rfl rfl (fun W => by go_simp; rfl)
    · refine job_frame [] (by kernel_rfl) ?_
      show JobAt _ _ _ _ _ _ _
      exact job_alloc 23 (Iv .u8 (List.replicate 32 0)) _ _ rfl rfl rfl (fun W => by go_simp; rfl)
  · intro f W hS2 hB1 hR hF hA
    have e1 : f 1 = (Key (keyOf T0)) := hR ⟨1, 24⟩ (by simp)
    have e3 : f 3 = (PV q1) := hR ⟨3, 26⟩ (by simp)
    have e4 : f 4 = (Key (keyOf T1)) := hR ⟨4, 27⟩ (by simp)
    obtain ⟨g5r7, e5, A5⟩ : ∃ g, f 5 = .pointer (some ⟨g, 0, none⟩) ∧ Blk W g 23 (Iv .u8 (List.replicate 32 0)) := hR ⟨5, 6⟩ (by simp)
    have n5 : _ ≤ g5r7 := (hF ⟨5, 6⟩ (by simp) g5r7 (by show blockOf (f 5) = _; rw [e5]; rfl)).1
    have m5 : w.heap.size ≤ g5r7 := Nat.le_trans hB.size n5
    obtain ⟨g6r7, e6, A6⟩ : ∃ g, f 6 = .pointer (some ⟨g, 0, none⟩) ∧ Blk W g 23 (Iv .u8 (List.replicate 32 0)) := hR ⟨6, 7⟩ (by simp)
    have n6 : _ ≤ g6r7 := (hF ⟨6, 7⟩ (by simp) g6r7 (by show blockOf (f 6) = _; rw [e6]; rfl)).1
    have m6 : w.heap.size ≤ g6r7 := Nat.le_trans hB.size n6
    have d5_6 : g5r7 ≠ g6r7 := fun h => hA ⟨5, 6⟩ (by simp) ⟨6, 7⟩ (by simp) (by decide) g5r7 (by show blockOf (f 5) = _; rw [e5]; rfl) (by show blockOf (f 6) = _; rw [e6, h]; rfl)
    clear hA hF hR
    simp only [setAll, putAll, List.map_cons, List.map_nil, List.foldr_cons, List.foldr_nil, Act.put, List.setIfInBounds_toArray, List.set_cons_zero, List.set_cons_succ, e1, e3, e4, e5, e6]
    clear e1 e3 e4 e5 e6
    have hBs := hB1
    have x5_0 := Nat.lt_of_lt_of_le (hS.blkAt (B2) 23 (Iv .u8 (keyOf ell)) (.head _)).lt n5
    have x5_2 := Nat.lt_of_lt_of_le (hS.blkAt (w.heap.size) 23 (Iv .u8 (keyOf NK)) (.tail _ (.tail _ (.head _)))).lt n5
    have x6_0 := Nat.lt_of_lt_of_le (hS.blkAt (B2) 23 (Iv .u8 (keyOf ell)) (.head _)).lt n6
    have x6_2 := Nat.lt_of_lt_of_le (hS.blkAt (w.heap.size) 23 (Iv .u8 (keyOf NK)) (.tail _ (.tail _ (.head _)))).lt n6
    replace hB1 := below_setRow hB1 n5 (Iv .u8 (keyOf T0))
    refine wpAnyZ_store_row 7 rfl (by kernel_rfl) rfl _ _ _ rfl g5r7 (Iv .u8 (keyOf T0)) rfl rfl _ _ A5 (info_key _ (keyOf_length _)) (by rw [Iv_size, Iv_size, keyOf_length]; rfl) (Iv_one _ _) (hS.below hB1) ?_
    try simp only [Act.put, List.setIfInBounds_toArray, List.set_cons_zero, List.set_cons_succ]
    replace A6 := A6.rowFar (Ne.symm d5_6) (Iv .u8 (keyOf T0))
    replace A5 := A5.row (Iv .u8 (keyOf T0))
    replace hB1 := below_setRow hB1 n6 (Iv .u8 (keyOf T1))
    refine wpAnyZ_store_row 8 rfl (by kernel_rfl) rfl _ _ _ rfl g6r7 (Iv .u8 (keyOf T1)) rfl rfl _ _ A6 (info_key _ (keyOf_length _)) (by rw [Iv_size, Iv_size, keyOf_length]; rfl) (Iv_one _ _) (hS.below hB1) ?_
    try simp only [Act.put, List.setIfInBounds_toArray, List.set_cons_zero, List.set_cons_succ]
    replace A5 := A5.rowFar d5_6 (Iv .u8 (keyOf T1))
    replace A6 := A6.row (Iv .u8 (keyOf T1))
    refine wpAnyZ_done (by kernel_rfl) ?_ _
    have hS3 := hS.below hB1
    replace hB := hB.trans (hB1.mono hB.size)
    clear hS hS2 hB1 hBs
    have hS : Facts [.blk (g5r7) 23 (Iv .u8 (keyOf T0)), .blk (g6r7) 23 (Iv .u8 (keyOf T1)), .blk (B2) 23 (Iv .u8 (keyOf ell)), .blk (B1) 38 (Pc q0), .blk (w.heap.size) 23 (Iv .u8 (keyOf NK)), .rng 0 (Iv .u8 (keyOf bxN)), .rng 1 (Iv .u8 (keyOf byN)), .rng 2 (Iv .u8 (keyOf dN))] _ := Facts.cons (f := .blk g5r7 23 (Iv .u8 (keyOf T0))) A5 (Facts.cons (f := .blk g6r7 23 (Iv .u8 (keyOf T1))) A6 (hS3))
    clear hS3
    try clear n5 n6
    clear A5 A6
    generalize hWn : World.setRow _ _ _ = Wn at *
    clear hWn
    obtain ⟨TX, hTX⟩ : ∃ t, t = flipN T1 := ⟨_, rfl⟩
    have kTX : TX < p256 := by rw [hTX]; exact flipN_lt _ kT1
    have hb := (keyOf_bytes T1).lt 31
    have hxor := xor_128 ⟨byteAt T1 31, hb⟩
    have hset := key_flip T1 kT1
    rw [← hTX] at hset
    have HTX := Lib.hid hTX
    clear hTX
    simp only at hxor
    generalize byteAt T1 31 % 128 + (1 - byteAt T1 31 / 128) * 128 = v1 at *
    have HL := Lib.hid hset
    clear hset
    have KB := hS.blkAt (g6r7) 23 (Iv .u8 (keyOf T1)) (.tail _ (.head _))
    have c0 := key_cellj KB 31 (by decide)
    have f0 := KB.frozen 31
    go_upto_region 9 with fail
    have KB0 := KB
    replace KB := KB.set 31 (.int .u8 (v1 : Int))
    rw [Iv_set, HL.out] at KB
    replace hB := hB.setCell (p := ⟨g6r7, 31, none⟩) (by show w.heap.size ≤ g6r7; omega) (.int .u8 (v1 : Int))
    replace hS : Facts [.blk (g5r7) 23 (Iv .u8 (keyOf T0)), .blk (g6r7) 23 (Iv .u8 (keyOf TX)), .blk (B2) 23 (Iv .u8 (keyOf ell)), .blk (B1) 38 (Pc q0), .blk (w.heap.size) 23 (Iv .u8 (keyOf NK)), .rng 0 (Iv .u8 (keyOf bxN)), .rng 1 (Iv .u8 (keyOf byN)), .rng 2 (Iv .u8 (keyOf dN))] _ := Facts.cons (f := .blk (g5r7) 23 (Iv .u8 (keyOf T0))) ((hS.blkAt (g5r7) 23 (Iv .u8 (keyOf T0)) (.head _)).far (p := ⟨g6r7, 31, none⟩) (by show _ ≠ g6r7; first | omega | exact blk_ne (hS.blkAt (g5r7) 23 (Iv .u8 (keyOf T0)) (.head _)) KB0 (by decide)) _) (Facts.cons (f := .blk (g6r7) 23 (Iv .u8 (keyOf TX))) KB (Facts.cons (f := .blk (B2) 23 (Iv .u8 (keyOf ell))) ((hS.blkAt (B2) 23 (Iv .u8 (keyOf ell)) (.tail _ (.tail _ (.head _)))).far (p := ⟨g6r7, 31, none⟩) (by show _ ≠ g6r7; first | omega | exact blk_ne (hS.blkAt (B2) 23 (Iv .u8 (keyOf ell)) (.tail _ (.tail _ (.head _)))) KB0 (by decide)) _) (Facts.cons (f := .blk (B1) 38 (Pc q0)) ((hS.blkAt (B1) 38 (Pc q0) (.tail _ (.tail _ (.tail _ (.head _))))).far (p := ⟨g6r7, 31, none⟩) (blk_ne (hS.blkAt (B1) 38 (Pc q0) (.tail _ (.tail _ (.tail _ (.head _))))) KB0 (by decide)) _) (Facts.cons (f := .blk (w.heap.size) 23 (Iv .u8 (keyOf NK))) ((hS.blkAt (w.heap.size) 23 (Iv .u8 (keyOf NK)) (.tail _ (.tail _ (.tail _ (.tail _ (.head _)))))).far (p := ⟨g6r7, 31, none⟩) (by show _ ≠ g6r7; first | omega | exact blk_ne (hS.blkAt (w.heap.size) 23 (Iv .u8 (keyOf NK)) (.tail _ (.tail _ (.tail _ (.tail _ (.head _)))))) KB0 (by decide)) _) (Facts.cons (f := .rng 0 (Iv .u8 (keyOf bxN))) ((hS.rngAt _ _ (.tail _ (.tail _ (.tail _ (.tail _ (.tail _ (.head _))))))).far (p := ⟨g6r7, 31, none⟩) (by show _ ≠ g6r7; omega) _) (Facts.cons (f := .rng 1 (Iv .u8 (keyOf byN))) ((hS.rngAt _ _ (.tail _ (.tail _ (.tail _ (.tail _ (.tail _ (.tail _ (.head _)))))))).far (p := ⟨g6r7, 31, none⟩) (by show _ ≠ g6r7; omega) _) (Facts.cons (f := .rng 2 (Iv .u8 (keyOf dN))) ((hS.rngAt _ _ (.tail _ (.tail _ (.tail _ (.tail _ (.tail _ (.tail _ (.tail _ (.head _))))))))).far (p := ⟨g6r7, 31, none⟩) (by show _ ≠ g6r7; omega) _) (Facts.nil))))))))
    clear c0 f0 hxor KB KB0 hb
    generalize World.setCell _ _ _ = V at *
    replace hS := hS.drew
    replace hB := below_drew hB
    refine wp_region_Z (S := Facts [.blk (g5r7) 23 (Iv .u8 (keyOf T0)), .blk (g6r7) 23 (Iv .u8 (keyOf TX)), .blk (B2) 23 (Iv .u8 (keyOf ell)), .blk (B1) 38 (Pc q0), .blk (w.heap.size) 23 (Iv .u8 (keyOf NK)), .rng 0 (Iv .u8 (keyOf bxN)), .rng 1 (Iv .u8 (keyOf byN)), .rng 2 (Iv .u8 (keyOf dN))]) 4 (by kernel_rfl) ?_
    refine wpAnyZ_takeL 0 rfl (by kernel_rfl) (by kernel_rfl) (by kernel_rfl) (by kernel_rfl) (by kernel_rfl) (fun _ _ _ h => h) (show YieldsIf _ _ _ _ (PV q0) _ from yieldsIf_load rfl 38 _ rfl (B1) rfl 38 _ _ (.tail _ (.tail _ (.tail _ (.head _)))) Tryd.underlying38 rfl (info_Pc _)) hS ?_
    simp only [Act.put, List.setIfInBounds_toArray, List.set_cons_zero, List.set_cons_succ]
    refine wpAnyZ_takeL 2 rfl (by kernel_rfl) (by kernel_rfl) (by kernel_rfl) (by kernel_rfl) (by kernel_rfl) (fun _ _ _ h => h) (show YieldsIf _ _ _ _ (PV q0) _ from yieldsIf_load rfl 38 _ rfl (B1) rfl 38 _ _ (.tail _ (.tail _ (.tail _ (.head _)))) Tryd.underlying38 rfl (info_Pc _)) hS ?_
    simp only [Act.put, List.setIfInBounds_toArray, List.set_cons_zero, List.set_cons_succ]
    refine wpAnyZ_one (i := 1) (by kernel_rfl) ?_
    unfold wpOp
    go_simp
    left
    refine (neg_d q0 q1 iq0.ok Hq1.out _).mono ?_
    rintro e v7 ⟨rfl, b⟩
    replace hB := hB.trans (b.mono hB.size)
    replace hS := hS.below b
    clear b
    refine ⟨hS, ?_⟩
    refine wpAnyZ_one (i := 3) (by kernel_rfl) ?_
    unfold wpOp
    go_simp
    left
    refine (csame q1 q0 (neg (times ok NK bb)) (times ok NK bb) iq1 iq0 z (HZ.out) _).mono ?_
    rintro e v8 ⟨rfl, b⟩
    replace hB := hB.trans (b.mono hB.size)
    replace hS := hS.below b
    clear b
    refine ⟨hS, ?_⟩
    refine wpAnyZ_one (i := 4) (by kernel_rfl) ?_
    unfold wpOp
    go_simp
    left
    refine wpAnyZ_done (by kernel_rfl) ?_ _
    go_upto_region 10 with fail
    replace hS := hS.drew
    replace hB := below_drew hB
    refine wp_region_Z (S := Facts [.blk (g5r7) 23 (Iv .u8 (keyOf T0)), .blk (g6r7) 23 (Iv .u8 (keyOf TX)), .blk (B2) 23 (Iv .u8 (keyOf ell)), .blk (B1) 38 (Pc q0), .blk (w.heap.size) 23 (Iv .u8 (keyOf NK)), .rng 0 (Iv .u8 (keyOf bxN)), .rng 1 (Iv .u8 (keyOf byN)), .rng 2 (Iv .u8 (keyOf dN))]) 24 (by kernel_rfl) ?_
    refine wpAnyZ_takeL 0 rfl (by kernel_rfl) (by kernel_rfl) (by kernel_rfl) (by kernel_rfl) (by kernel_rfl) (fun _ _ _ h => h) (show YieldsIf _ _ _ _ (Key (keyOf ell)) _ from yieldsIf_load rfl 23 _ rfl (B2) rfl 23 _ _ (.tail _ (.tail _ (.head _))) Tryd.underlying23 rfl (info_key _ (keyOf_length _))) hS ?_
    simp only [Act.put, List.setIfInBounds_toArray, List.set_cons_zero, List.set_cons_succ]
    refine wpAnyZ_takeL 1 rfl (by kernel_rfl) (by kernel_rfl) (by kernel_rfl) (by kernel_rfl) (by kernel_rfl) (fun _ _ _ h => h) (yieldsIf_key1 8 (by decide) rfl rfl) hS ?_
    simp only [Act.put, List.setIfInBounds_toArray, List.set_cons_zero, List.set_cons_succ]
    refine wpAnyZ_takeL 2 rfl (by kernel_rfl) (by kernel_rfl) (by kernel_rfl) (by kernel_rfl) (by kernel_rfl) (fun _ _ _ h => h) (show YieldsIf _ _ _ _ (PV q0) _ from yieldsIf_load rfl 38 _ rfl (B1) rfl 38 _ _ (.tail _ (.tail _ (.tail _ (.head _)))) Tryd.underlying38 rfl (info_Pc _)) hS ?_
    simp only [Act.put, List.setIfInBounds_toArray, List.set_cons_zero, List.set_cons_succ]
    obtain ⟨q2, hq2⟩ : ∃ q : P4, q = pmul 8 q0 256 := ⟨_, rfl⟩
    have iq2 : q2.Is (times ok 8 (times ok NK bb)) := by rw [hq2]; exact pmul_is256 8 (by decide) iq0
    have Hq2 := Lib.hid hq2
    clear hq2
    refine wpAnyZ_one (i := 3) (by kernel_rfl) ?_
    unfold wpOp
    go_simp
    left
    refine (mul_d 8 q0 q2 (by decide) iq0.ok Hq2.out _ (hS.rngAt _ _ (.tail _ (.tail _ (.tail _ (.tail _ (.tail _ (.tail _ (.tail _ (.head _)))))))))).mono ?_
    rintro e v9 ⟨rfl, b⟩
    replace hB := hB.trans (b.mono hB.size)
    replace hS := hS.below b
    clear b
    refine ⟨hS, ?_⟩
    obtain ⟨q3, hq3⟩ : ∃ q : P4, q = pmul ell q2 256 := ⟨_, rfl⟩
    have iq3 : q3.Is (times ok ell (times ok 8 (times ok NK bb))) := by rw [hq3]; exact pmul_is256 ell ell_lt iq2
    have Hq3 := Lib.hid hq3
    clear hq3
    refine wpAnyZ_one (i := 4) (by kernel_rfl) ?_
    unfold wpOp
    go_simp
    left
    refine (mul_d ell q2 q3 ell_lt iq2.ok Hq3.out _ (hS.rngAt _ _ (.tail _ (.tail _ (.tail _ (.tail _ (.tail _ (.tail _ (.tail _ (.head _)))))))))).mono ?_
    rintro e v10 ⟨rfl, b⟩
    replace hB := hB.trans (b.mono hB.size)
    replace hS := hS.below b
    clear b
    refine ⟨hS, ?_⟩
    refine wpAnyZ_one (i := 5) (by kernel_rfl) ?_
    unfold wpOp
    go_simp
    left
    refine (czero_v _).mono ?_
    rintro e v11 ⟨rfl, b⟩
    replace hB := hB.trans (b.mono hB.size)
    replace hS := hS.below b
    clear b
    refine ⟨hS, ?_⟩
    refine wpAnyZ_one (i := 6) (by kernel_rfl) ?_
    unfold wpOp
    go_simp
    left
    refine (csame q3 pzero (times ok ell (times ok 8 (times ok NK bb))) (zero dd) iq3 ipzero true (eight_a _) _).mono ?_
    rintro e v12 ⟨rfl, b⟩
    replace hB := hB.trans (b.mono hB.size)
    replace hS := hS.below b
    clear b
    refine ⟨hS, ?_⟩
    refine wpAnyZ_takeL 7 rfl (by kernel_rfl) (by kernel_rfl) (by kernel_rfl) (by kernel_rfl) (by kernel_rfl) (fun _ _ _ h => h) (yieldsIf_move rfl _ rfl _ rfl) hS ?_
    simp only [Act.put, List.setIfInBounds_toArray, List.set_cons_zero, List.set_cons_succ]
    refine wpAnyZ_takeL 8 rfl (by kernel_rfl) (by kernel_rfl) (by kernel_rfl) (by kernel_rfl) (by kernel_rfl) (fun _ _ _ h => h) (show YieldsIf _ _ _ _ (Key (keyOf T0)) _ from yieldsIf_load rfl 23 _ rfl (g5r7) rfl 23 _ _ (.head _) Tryd.underlying23 rfl (info_key _ (keyOf_length _))) hS ?_
    simp only [Act.put, List.setIfInBounds_toArray, List.set_cons_zero, List.set_cons_succ]
    refine wpAnyZ_takeL 9 rfl (by kernel_rfl) (by kernel_rfl) (by kernel_rfl) (by kernel_rfl) (by kernel_rfl) (fun _ _ _ h => h) (show YieldsIf _ _ _ _ (Key (keyOf TX)) _ from yieldsIf_load rfl 23 _ rfl (g6r7) rfl 23 _ _ (.tail _ (.head _)) Tryd.underlying23 rfl (info_key _ (keyOf_length _))) hS ?_
    simp only [Act.put, List.setIfInBounds_toArray, List.set_cons_zero, List.set_cons_succ]
    refine wpAnyZ_takeL 10 rfl (by kernel_rfl) (by kernel_rfl) (by kernel_rfl) (by kernel_rfl) (by kernel_rfl) (fun _ _ _ h => h) (yieldsIf_eqlk rfl _ _ rfl T0 TX rfl rfl d kT0 kTX (by rw [HT0.out, HTX.out, HT1.out]; exact HD.out)) hS ?_
    simp only [Act.put, List.setIfInBounds_toArray, List.set_cons_zero, List.set_cons_succ]
    refine wpAnyZ_takeL 11 rfl (by kernel_rfl) (by kernel_rfl) (by kernel_rfl) (by kernel_rfl) (by kernel_rfl) (fun _ _ _ h => h) (yieldsIf_move rfl _ rfl _ rfl) hS ?_
    simp only [Act.put, List.setIfInBounds_toArray, List.set_cons_zero, List.set_cons_succ]
    refine wpAnyZ_takeL 12 rfl (by kernel_rfl) (by kernel_rfl) (by kernel_rfl) (by kernel_rfl) (by kernel_rfl) (fun _ _ _ h => h) (yieldsIf_neqb rfl _ _ rfl d z rfl rfl true HX.out) hS ?_
    simp only [Act.put, List.setIfInBounds_toArray, List.set_cons_zero, List.set_cons_succ]
    refine wpAnyZ_takeL 13 rfl (by kernel_rfl) (by kernel_rfl) (by kernel_rfl) (by kernel_rfl) (by kernel_rfl) (fun _ _ _ h => h) (yieldsIf_pick rfl _ _ _ rfl true rfl _ rfl) hS ?_
    simp only [Act.put, List.setIfInBounds_toArray, List.set_cons_zero, List.set_cons_succ]
    refine wpAnyZ_takeL 14 rfl (by kernel_rfl) (by kernel_rfl) (by kernel_rfl) (by kernel_rfl) (by kernel_rfl) (fun _ _ _ h => h) (yieldsIf_move rfl _ rfl _ rfl) hS ?_
    simp only [Act.put, List.setIfInBounds_toArray, List.set_cons_zero, List.set_cons_succ]
    refine wpAnyZ_takeL 15 rfl (by kernel_rfl) (by kernel_rfl) (by kernel_rfl) (by kernel_rfl) (by kernel_rfl) (fun _ _ _ h => h) (yieldsIf_key1 2 (by decide) rfl rfl) hS ?_
    simp only [Act.put, List.setIfInBounds_toArray, List.set_cons_zero, List.set_cons_succ]
    refine wpAnyZ_takeL 16 rfl (by kernel_rfl) (by kernel_rfl) (by kernel_rfl) (by kernel_rfl) (by kernel_rfl) (fun _ _ _ h => h) (show YieldsIf _ _ _ _ (PV q0) _ from yieldsIf_load rfl 38 _ rfl (B1) rfl 38 _ _ (.tail _ (.tail _ (.tail _ (.head _)))) Tryd.underlying38 rfl (info_Pc _)) hS ?_
    simp only [Act.put, List.setIfInBounds_toArray, List.set_cons_zero, List.set_cons_succ]
    refine wpAnyZ_takeL 18 rfl (by kernel_rfl) (by kernel_rfl) (by kernel_rfl) (by kernel_rfl) (by kernel_rfl) (fun _ _ _ h => h) (show YieldsIf _ _ _ _ (PV q0) _ from yieldsIf_load rfl 38 _ rfl (B1) rfl 38 _ _ (.tail _ (.tail _ (.tail _ (.head _)))) Tryd.underlying38 rfl (info_Pc _)) hS ?_
    simp only [Act.put, List.setIfInBounds_toArray, List.set_cons_zero, List.set_cons_succ]
    refine wpAnyZ_takeL 19 rfl (by kernel_rfl) (by kernel_rfl) (by kernel_rfl) (by kernel_rfl) (by kernel_rfl) (fun _ _ _ h => h) (show YieldsIf _ _ _ _ (PV q0) _ from yieldsIf_load rfl 38 _ rfl (B1) rfl 38 _ _ (.tail _ (.tail _ (.tail _ (.head _)))) Tryd.underlying38 rfl (info_Pc _)) hS ?_
    simp only [Act.put, List.setIfInBounds_toArray, List.set_cons_zero, List.set_cons_succ]
    obtain ⟨q4, hq4⟩ : ∃ q : P4, q = pmul 2 q0 256 := ⟨_, rfl⟩
    have iq4 : q4.Is (times ok 2 (times ok NK bb)) := by rw [hq4]; exact pmul_is256 2 (by decide) iq0
    have Hq4 := Lib.hid hq4
    clear hq4
    refine wpAnyZ_jobsRL [(⟨17, 53⟩, .is (PV q4)), (⟨20, 56⟩, .rel (fun v w' => ∃ g, v = .slice (some ⟨g, 0, none⟩) 2 2 ∧ Blk w' g 38 (Pl [q0, q0])))] 4 _ _ _ (by kernel_rfl) (fun _ _ _ _ _ h => h) (fun _ _ h hb => h.below hb) hS ?_ ?_ ?_
    · intro j hj
      simp only [List.map_cons, List.map_nil, List.mem_cons, List.not_mem_nil, or_false] at hj
      rcases hj with rfl | rfl
      · exact fun _ _ _ h _ => h
      · rintro v w1 w2 ⟨g, e, H⟩ hb
        exact ⟨g, e, H.below' hb⟩
    · intro j hj
      simp only [List.map_cons, List.map_nil, List.mem_cons, List.not_mem_nil, or_false] at hj
      rcases hj with rfl | rfl
      · refine jobR_frame [] (by kernel_rfl) ?_
        intro f W K hS' hp hK
        simp only [putAll, List.foldr_cons, List.foldr_nil, Act.put, List.setIfInBounds_toArray, List.set_cons_zero, List.set_cons_succ]
        try simp only [putAll, List.foldr_cons, List.foldr_nil, Act.put, List.setIfInBounds_toArray, List.set_cons_zero, List.set_cons_succ] at hK
        unfold wpOp
        go_simp
        left
        refine (mul_d 2 q0 q4 (by decide) iq0.ok Hq4.out _ (hS'.rngAt _ _ (.tail _ (.tail _ (.tail _ (.tail _ (.tail _ (.tail _ (.tail _ (.head _)))))))))).mono ?_
        rintro e v ⟨rfl, b⟩
        exact hK _ _ rfl b
      · refine jobR_frame [] (by kernel_rfl) ?_
        intro f W K hS' hp hK
        simp only [putAll, List.foldr_cons, List.foldr_nil, Act.put, List.setIfInBounds_toArray, List.set_cons_zero, List.set_cons_succ]
        try simp only [putAll, List.foldr_cons, List.foldr_nil, Act.put, List.setIfInBounds_toArray, List.set_cons_zero, List.set_cons_succ] at hK
        exact wpOp_points 20 rfl rfl 2 _ rfl [q0, q0] (parts2 rfl rfl) rfl (by decide) (by decide) (fun g W' A b => hK _ _ ⟨g, rfl, A⟩ b)
    · intro f W hS2 hb hR
      have e17 : f 17 = (PV q4) := hR ⟨17, 53⟩ (by simp)
      obtain ⟨G3, e20, AG3⟩ : ∃ g, f 20 = .slice (some ⟨g, 0, none⟩) 2 2 ∧ Blk W g 38 (Pl [q0, q0]) := hR ⟨20, 56⟩ (by simp)
      clear hR
      simp only [setAll, List.map_cons, List.map_nil, putAll, List.foldr_cons, List.foldr_nil, Act.put, List.setIfInBounds_toArray, List.set_cons_zero, List.set_cons_succ, e17, e20]
      clear e17 e20
      replace hB := hB.trans (hb.mono hB.size)
      replace hS := hS2
      clear hS2
      clear hb
      obtain ⟨q5, hq5⟩ : ∃ q : P4, q = psum [q0, q0] := ⟨_, rfl⟩
      have iq5 : q5.Is (add ok (times ok NK bb) (times ok NK bb)) := by rw [hq5]; exact psum2 iq0 iq0
      have Hq5 := Lib.hid hq5
      clear hq5
      refine wpAnyZ_one (i := 21) (by kernel_rfl) ?_
      unfold wpOp
      go_simp
      left
      refine (add_d2 q0 q0 q5 iq0.ok iq0.ok G3 _ AG3 (hS.rngAt _ _ (.tail _ (.tail _ (.tail _ (.tail _ (.tail _ (.tail _ (.tail _ (.head _))))))))) Hq5.out).mono ?_
      rintro e v13 ⟨rfl, b⟩
      replace hB := hB.trans (b.mono hB.size)
      replace hS := hS.below b
      replace AG3 := AG3.below' b
      clear b
      refine ⟨hS, ?_⟩
      refine wpAnyZ_one (i := 22) (by kernel_rfl) ?_
      unfold wpOp
      go_simp
      left
      refine (csame q4 q5 (times ok 2 (times ok NK bb)) (add ok (times ok NK bb) (times ok NK bb)) iq4 iq5 true (eight_b _) _).mono ?_
      rintro e v14 ⟨rfl, b⟩
      replace hB := hB.trans (b.mono hB.size)
      replace hS := hS.below b
      replace AG3 := AG3.below' b
      clear b
      refine ⟨hS, ?_⟩
      refine wpAnyZ_takeL 23 rfl (by kernel_rfl) (by kernel_rfl) (by kernel_rfl) (by kernel_rfl) (by kernel_rfl) (fun _ _ _ h => h) (yieldsIf_pick rfl _ _ _ rfl true rfl _ rfl) hS ?_
      simp only [Act.put, List.setIfInBounds_toArray, List.set_cons_zero, List.set_cons_succ]
      refine wpAnyZ_one (i := 24) (by kernel_rfl) ?_
      unfold wpOp
      go_simp
      left
      refine wpAnyZ_done (by kernel_rfl) ?_ _
      go_wp2
      exact bodyPost_ret (results_tmp rfl _ _ _) rfl ⟨rfl, hB⟩
theorem eight_n (NK : Nat) (kNK : NK < p256) (w : World) (GX : Rng w 0 (Iv .u8 (keyOf bxN))) (GY : Rng w 1 (Iv .u8 (keyOf byN))) (GD : Rng w 2 (Iv .u8 (keyOf dN))) :
    Calls Tryd.prog 8 #[Key (keyOf NK)] w fun e w' => e = .returned (.bool true) ∧ Below w.heap.size w w' := by
  by_cases h : ∃ P : Pt dd, textN P = NK
  · obtain ⟨P, hP⟩ := h
    exact eight_t NK kNK P hP w GX GY GD
  · exact eight_f NK kNK (fun P e => h ⟨P, e⟩) w GX GY GD
end Go.Proofs.YtjaomgildhiddaaDoor
