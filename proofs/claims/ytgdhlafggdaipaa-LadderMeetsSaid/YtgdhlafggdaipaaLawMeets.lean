/- The law LadderMeets: two that have each other's public keys share the same (printed by lawladder.py). -/
import Derived.Test.YtgdhlafggdaipaaCe
import Derived.Test.YtgdhlafggdaipaaJk
namespace Go.Proofs.Ytgdhlafggdaipaa
open Go.RowKit

set_option maxHeartbeats 8000000 in
set_option maxRecDepth 100000 in
theorem meets_n (NA NB : Nat) (w : World) :
    Calls Try.prog 4 #[Key (keyOf NA), Key (keyOf NB)] w fun e w' => e = .returned (.bool true) ∧ Below w.heap.size w w' := by
  have cA := fun W => public_n NA _ rfl W
  have cB := fun W => public_n NB _ rfl W
  have kPNA := Nat.lt_trans (ladN_lt (clN NA) 9) pp_lt256
  have kPNB := Nat.lt_trans (ladN_lt (clN NB) 9) pp_lt256
  obtain ⟨hm, hz⟩ := meets NA NB
  have kN := Nat.lt_trans (ladN_lt (clN NA) (plN (ladN (clN NB) 9))) pp_lt256
  have c9 := fun W => mul_n NA 9 _ (by decide) rfl W
  rw [plN9] at c9
  have s1 := fun W => shared_n NA (ladN (clN NB) 9) _ kPNB rfl true (by rw [decide_eq_false hz]; rfl) W
  have s2 := fun W => shared_n NB (ladN (clN NA) 9) _ kPNA hm true (by rw [decide_eq_false hz]; rfl) W
  generalize ladN (clN NA) (plN (ladN (clN NB) 9)) = N at *
  generalize ladN (clN NA) 9 = PNA at *
  generalize ladN (clN NB) 9 = PNB at *
  have CPNA := Lib.hid cA
  have CPNB := Lib.hid cB
  have CSNA := Lib.hid s1
  have CSNB := Lib.hid s2
  have CM := Lib.hid c9
  clear cA cB s1 s2 c9 hm hz
  unfold Key
  go_enter Try.func4, Try.ntmps4
  go_wp2_with fail
  refine (awake_any _).mono ?_
  rintro e w1 ⟨rfl, b⟩
  have hS : Facts [.blk (w.heap.size) 23 (Iv .u8 (keyOf NA)), .blk (w.heap.size + 1) 23 (Iv .u8 (keyOf NB))] w1 := Facts.below (Facts.cons (f := .blk (w.heap.size) 23 (Iv .u8 (keyOf NA))) (((Blk.new' (by simp) _ _).alloc _)) (Facts.cons (f := .blk (w.heap.size + 1) 23 (Iv .u8 (keyOf NB))) ((Blk.new' (by simp) _ _)) (Facts.nil))) b
  have hB : Below w.heap.size w w1 := (((Below.refl w.heap.size w).alloc (Nat.le_refl _) _).alloc (by simp) _).trans (b.mono (by simp; omega))
  clear b
  go_upto_region 3 with fail
  replace hS := hS.drew
  replace hB := below_drew hB
  refine wp_region_Z (S := Facts [.blk (w.heap.size) 23 (Iv .u8 (keyOf NA)), .blk (w.heap.size + 1) 23 (Iv .u8 (keyOf NB))]) 9 (by kernel_rfl) ?_
  refine wpAnyZ_takeL 0 rfl (by kernel_rfl) (by kernel_rfl) (by kernel_rfl) (by kernel_rfl) (by kernel_rfl) (fun _ _ _ h => h) (show YieldsIf _ _ _ _ (Key (keyOf NA)) _ from yieldsIf_load rfl 23 _ rfl (w.heap.size) rfl 23 _ _ (.head _) Try.underlying23 rfl (info_key _ (keyOf_length _))) hS ?_
  simp only [Act.put, List.setIfInBounds_toArray, List.set_cons_zero, List.set_cons_succ]
  refine wpAnyZ_takeL 1 rfl (by kernel_rfl) (by kernel_rfl) (by kernel_rfl) (by kernel_rfl) (by kernel_rfl) (fun _ _ _ h => h) (show YieldsIf _ _ _ _ (Key (keyOf NB)) _ from yieldsIf_load rfl 23 _ rfl (w.heap.size + 1) rfl 23 _ _ (.tail _ (.head _)) Try.underlying23 rfl (info_key _ (keyOf_length _))) hS ?_
  simp only [Act.put, List.setIfInBounds_toArray, List.set_cons_zero, List.set_cons_succ]
  refine wpAnyZ_jobsL [(⟨2, 14⟩, .is (Key (keyOf PNB))), (⟨3, 15⟩, .is (.tuple #[(Key (keyOf N)), (.bool true)])), (⟨4, 11⟩, .is (.tuple #[(Key (keyOf N)), (.bool true)])), (⟨5, 16⟩, .is (Key (keyOf N))), (⟨6, 17⟩, .is (.bool true)), (⟨7, 5⟩, .rel (fun v w' => ∃ g, v = .pointer (some ⟨g, 0, none⟩) ∧ Blk w' g 23 (Iv .u8 (List.replicate 32 0))))] [6] 2 _ _ _ (by kernel_rfl) (fun _ _ _ _ _ h => h) ?_ (fun _ _ _ _ _ h => h) (fun _ _ h hb => h.below hb) hS ?_ ?_ ?_
  · intro j hj hl
    simp only [List.map_cons, List.map_nil, List.mem_cons, List.not_mem_nil, or_false] at hj
    rcases hj with rfl | rfl | rfl | rfl | rfl | rfl
    · exact absurd hl (by decide)
    · exact absurd hl (by decide)
    · exact absurd hl (by decide)
    · exact absurd hl (by decide)
    · refine ⟨_, rfl, yields_frame [⟨4, 11⟩] (by kernel_rfl) ?_, fun _ => rfl, (block_bool _)⟩
      show YieldsIf _ _ _ _ (.bool true) (Act.put _ (some 11) (.tuple #[(Key (keyOf N)), (.bool true)]))
      simp only [Act.put, List.setIfInBounds_toArray, List.set_cons_zero, List.set_cons_succ]
      exact (show YieldsIf _ _ _ _ (.bool true) _ from yieldsIf_extract rfl _ _ rfl _ rfl _ rfl)
    · exact absurd hl (by decide)
  · intro j hj
    simp only [List.map_cons, List.map_nil, List.mem_cons, List.not_mem_nil, or_false] at hj
    rcases hj with rfl | rfl | rfl | rfl | rfl | rfl
    · exact fun _ _ _ h _ => h
    · exact fun _ _ _ h _ => h
    · exact fun _ _ _ h _ => h
    · exact fun _ _ _ h _ => h
    · exact fun _ _ _ h _ => h
    · intro v w1 w2 h hb
      obtain ⟨g, e, H⟩ : ∃ g, v = .pointer (some ⟨g, 0, none⟩) ∧ Blk w1 g 23 (Iv .u8 (List.replicate 32 0)) := h
      exact ⟨g, e, H.below' hb⟩
  · intro j hj
    simp only [List.map_cons, List.map_nil, List.mem_cons, List.not_mem_nil, or_false] at hj
    rcases hj with rfl | rfl | rfl | rfl | rfl | rfl
    · refine job_frame [] (by kernel_rfl) ?_
      show JobAt _ _ _ _ _ _ _
      simp only [putAll, List.foldr_nil]
      intro W K hS' hK
      unfold wpOp
      go_simp
      left
      refine (CPNB.out _).mono ?_
      rintro e v ⟨rfl, b⟩
      exact hK _ _ rfl b (fun g hg => ((block_agg _) g hg).elim)
    · refine job_frame [⟨2, 14⟩] (by kernel_rfl) ?_
      show JobAt _ _ _ _ (Act.put _ (some 14) (Key (keyOf PNB))) _ _
      simp only [Act.put, List.setIfInBounds_toArray, List.set_cons_zero, List.set_cons_succ]
      intro W K hS' hK
      unfold wpOp
      go_simp
      left
      refine (CSNA.out _).mono ?_
      rintro e v ⟨rfl, b⟩
      exact hK _ _ rfl b (fun g hg => ((block_tuple _) g hg).elim)
    · refine job_frame [⟨3, 15⟩] (by kernel_rfl) ?_
      show JobAt _ _ _ _ (Act.put _ (some 15) (.tuple #[(Key (keyOf N)), (.bool true)])) _ _
      simp only [Act.put, List.setIfInBounds_toArray, List.set_cons_zero, List.set_cons_succ]
      exact job_yield rfl rfl (.tuple #[(Key (keyOf N)), (.bool true)]) (block_tuple _) (yieldsIf_move rfl _ rfl _ rfl)
    · refine job_frame [⟨4, 11⟩] (by kernel_rfl) ?_
      show JobAt _ _ _ _ (Act.put _ (some 11) (.tuple #[(Key (keyOf N)), (.bool true)])) _ _
      simp only [Act.put, List.setIfInBounds_toArray, List.set_cons_zero, List.set_cons_succ]
      exact job_yield rfl rfl (Key (keyOf N)) (block_agg _) (show YieldsIf _ _ _ _ (Key (keyOf N)) _ from yieldsIf_extract rfl _ _ rfl _ rfl _ rfl)
    · refine job_frame [⟨4, 11⟩] (by kernel_rfl) ?_
      show JobAt _ _ _ _ (Act.put _ (some 11) (.tuple #[(Key (keyOf N)), (.bool true)])) _ _
      simp only [Act.put, List.setIfInBounds_toArray, List.set_cons_zero, List.set_cons_succ]
      exact job_yield rfl rfl (.bool true) (block_bool _) (show YieldsIf _ _ _ _ (.bool true) _ from yieldsIf_extract rfl _ _ rfl _ rfl _ rfl)
    · refine job_frame [] (by kernel_rfl) ?_
      show JobAt _ _ _ _ _ _ _
      exact job_alloc 23 (Iv .u8 (List.replicate 32 0)) _ _ rfl rfl rfl (fun W => by go_simp; rfl)
  · intro f W hS2 hB1 hR hF hA
    have e2 : f 2 = (Key (keyOf PNB)) := hR ⟨2, 14⟩ (by simp)
    have e3 : f 3 = (.tuple #[(Key (keyOf N)), (.bool true)]) := hR ⟨3, 15⟩ (by simp)
    have e4 : f 4 = (.tuple #[(Key (keyOf N)), (.bool true)]) := hR ⟨4, 11⟩ (by simp)
    have e5 : f 5 = (Key (keyOf N)) := hR ⟨5, 16⟩ (by simp)
    have e6 : f 6 = (.bool true) := hR ⟨6, 17⟩ (by simp)
    obtain ⟨g7r3, e7, A7⟩ : ∃ g, f 7 = .pointer (some ⟨g, 0, none⟩) ∧ Blk W g 23 (Iv .u8 (List.replicate 32 0)) := hR ⟨7, 5⟩ (by simp)
    have n7 : _ ≤ g7r3 := (hF ⟨7, 5⟩ (by simp) g7r3 (by show blockOf (f 7) = _; rw [e7]; rfl)).1
    have m7 : w.heap.size ≤ g7r3 := Nat.le_trans hB.size n7
    clear hA hF hR
    simp only [setAll, putAll, List.map_cons, List.map_nil, List.foldr_cons, List.foldr_nil, Act.put, List.setIfInBounds_toArray, List.set_cons_zero, List.set_cons_succ, e2, e3, e4, e5, e6, e7]
    clear e2 e3 e4 e5 e6 e7
    have hBs := hB1
    replace hB1 := below_setRow hB1 n7 (Iv .u8 (keyOf N))
    refine wpAnyZ_store_row 8 rfl (by kernel_rfl) rfl _ _ _ rfl g7r3 (Iv .u8 (keyOf N)) rfl rfl _ _ A7 (info_key _ (keyOf_length _)) (by rw [Iv_size, Iv_size, keyOf_length]; rfl) (Iv_one _ _) (hS.below hB1) ?_
    try simp only [Act.put, List.setIfInBounds_toArray, List.set_cons_zero, List.set_cons_succ]
    replace A7 := A7.row (Iv .u8 (keyOf N))
    refine wpAnyZ_one (i := 9) (by kernel_rfl) ?_
    unfold wpOp
    go_simp
    left
    refine wpAnyZ_done (by kernel_rfl) ?_ _
    have hS3 := hS.below hB1
    replace hB := hB.trans (hB1.mono hB.size)
    clear hS hS2 hB1 hBs
    have hS : Facts [.blk (g7r3) 23 (Iv .u8 (keyOf N)), .blk (w.heap.size) 23 (Iv .u8 (keyOf NA)), .blk (w.heap.size + 1) 23 (Iv .u8 (keyOf NB))] _ := Facts.cons (f := .blk g7r3 23 (Iv .u8 (keyOf N))) A7 (hS3)
    clear hS3
    try clear n7
    clear A7
    generalize hWn : World.setRow _ _ _ = Wn at *
    clear hWn
    go_upto_region 4 with fail
    replace hS := hS.drew
    replace hB := below_drew hB
    refine wp_region_Z (S := Facts [.blk (g7r3) 23 (Iv .u8 (keyOf N)), .blk (w.heap.size) 23 (Iv .u8 (keyOf NA)), .blk (w.heap.size + 1) 23 (Iv .u8 (keyOf NB))]) 9 (by kernel_rfl) ?_
    refine wpAnyZ_takeL 0 rfl (by kernel_rfl) (by kernel_rfl) (by kernel_rfl) (by kernel_rfl) (by kernel_rfl) (fun _ _ _ h => h) (show YieldsIf _ _ _ _ (Key (keyOf NB)) _ from yieldsIf_load rfl 23 _ rfl (w.heap.size + 1) rfl 23 _ _ (.tail _ (.tail _ (.head _))) Try.underlying23 rfl (info_key _ (keyOf_length _))) hS ?_
    simp only [Act.put, List.setIfInBounds_toArray, List.set_cons_zero, List.set_cons_succ]
    refine wpAnyZ_takeL 1 rfl (by kernel_rfl) (by kernel_rfl) (by kernel_rfl) (by kernel_rfl) (by kernel_rfl) (fun _ _ _ h => h) (show YieldsIf _ _ _ _ (Key (keyOf NA)) _ from yieldsIf_load rfl 23 _ rfl (w.heap.size) rfl 23 _ _ (.tail _ (.head _)) Try.underlying23 rfl (info_key _ (keyOf_length _))) hS ?_
    simp only [Act.put, List.setIfInBounds_toArray, List.set_cons_zero, List.set_cons_succ]
    refine wpAnyZ_jobsL [(⟨2, 21⟩, .is (Key (keyOf PNA))), (⟨3, 22⟩, .is (.tuple #[(Key (keyOf N)), (.bool true)])), (⟨4, 18⟩, .is (.tuple #[(Key (keyOf N)), (.bool true)])), (⟨5, 23⟩, .is (Key (keyOf N))), (⟨6, 24⟩, .is (.bool true)), (⟨7, 7⟩, .rel (fun v w' => ∃ g, v = .pointer (some ⟨g, 0, none⟩) ∧ Blk w' g 23 (Iv .u8 (List.replicate 32 0))))] [6] 2 _ _ _ (by kernel_rfl) (fun _ _ _ _ _ h => h) ?_ (fun _ _ _ _ _ h => h) (fun _ _ h hb => h.below hb) hS ?_ ?_ ?_
    · intro j hj hl
      simp only [List.map_cons, List.map_nil, List.mem_cons, List.not_mem_nil, or_false] at hj
      rcases hj with rfl | rfl | rfl | rfl | rfl | rfl
      · exact absurd hl (by decide)
      · exact absurd hl (by decide)
      · exact absurd hl (by decide)
      · exact absurd hl (by decide)
      · refine ⟨_, rfl, yields_frame [⟨4, 18⟩] (by kernel_rfl) ?_, fun _ => rfl, (block_bool _)⟩
        show YieldsIf _ _ _ _ (.bool true) (Act.put _ (some 18) (.tuple #[(Key (keyOf N)), (.bool true)]))
        simp only [Act.put, List.setIfInBounds_toArray, List.set_cons_zero, List.set_cons_succ]
        exact (show YieldsIf _ _ _ _ (.bool true) _ from yieldsIf_extract rfl _ _ rfl _ rfl _ rfl)
      · exact absurd hl (by decide)
    · intro j hj
      simp only [List.map_cons, List.map_nil, List.mem_cons, List.not_mem_nil, or_false] at hj
      rcases hj with rfl | rfl | rfl | rfl | rfl | rfl
      · exact fun _ _ _ h _ => h
      · exact fun _ _ _ h _ => h
      · exact fun _ _ _ h _ => h
      · exact fun _ _ _ h _ => h
      · exact fun _ _ _ h _ => h
      · intro v w1 w2 h hb
        obtain ⟨g, e, H⟩ : ∃ g, v = .pointer (some ⟨g, 0, none⟩) ∧ Blk w1 g 23 (Iv .u8 (List.replicate 32 0)) := h
        exact ⟨g, e, H.below' hb⟩
    · intro j hj
      simp only [List.map_cons, List.map_nil, List.mem_cons, List.not_mem_nil, or_false] at hj
      rcases hj with rfl | rfl | rfl | rfl | rfl | rfl
      · refine job_frame [] (by kernel_rfl) ?_
        show JobAt _ _ _ _ _ _ _
        simp only [putAll, List.foldr_nil]
        intro W K hS' hK
        unfold wpOp
        go_simp
        left
        refine (CPNA.out _).mono ?_
        rintro e v ⟨rfl, b⟩
        exact hK _ _ rfl b (fun g hg => ((block_agg _) g hg).elim)
      · refine job_frame [⟨2, 21⟩] (by kernel_rfl) ?_
        show JobAt _ _ _ _ (Act.put _ (some 21) (Key (keyOf PNA))) _ _
        simp only [Act.put, List.setIfInBounds_toArray, List.set_cons_zero, List.set_cons_succ]
        intro W K hS' hK
        unfold wpOp
        go_simp
        left
        refine (CSNB.out _).mono ?_
        rintro e v ⟨rfl, b⟩
        exact hK _ _ rfl b (fun g hg => ((block_tuple _) g hg).elim)
      · refine job_frame [⟨3, 22⟩] (by kernel_rfl) ?_
        show JobAt _ _ _ _ (Act.put _ (some 22) (.tuple #[(Key (keyOf N)), (.bool true)])) _ _
        simp only [Act.put, List.setIfInBounds_toArray, List.set_cons_zero, List.set_cons_succ]
        exact job_yield rfl rfl (.tuple #[(Key (keyOf N)), (.bool true)]) (block_tuple _) (yieldsIf_move rfl _ rfl _ rfl)
      · refine job_frame [⟨4, 18⟩] (by kernel_rfl) ?_
        show JobAt _ _ _ _ (Act.put _ (some 18) (.tuple #[(Key (keyOf N)), (.bool true)])) _ _
        simp only [Act.put, List.setIfInBounds_toArray, List.set_cons_zero, List.set_cons_succ]
        exact job_yield rfl rfl (Key (keyOf N)) (block_agg _) (show YieldsIf _ _ _ _ (Key (keyOf N)) _ from yieldsIf_extract rfl _ _ rfl _ rfl _ rfl)
      · refine job_frame [⟨4, 18⟩] (by kernel_rfl) ?_
        show JobAt _ _ _ _ (Act.put _ (some 18) (.tuple #[(Key (keyOf N)), (.bool true)])) _ _
        simp only [Act.put, List.setIfInBounds_toArray, List.set_cons_zero, List.set_cons_succ]
        exact job_yield rfl rfl (.bool true) (block_bool _) (show YieldsIf _ _ _ _ (.bool true) _ from yieldsIf_extract rfl _ _ rfl _ rfl _ rfl)
      · refine job_frame [] (by kernel_rfl) ?_
        show JobAt _ _ _ _ _ _ _
        exact job_alloc 23 (Iv .u8 (List.replicate 32 0)) _ _ rfl rfl rfl (fun W => by go_simp; rfl)
    · intro f W hS2 hB1 hR hF hA
      have e2 : f 2 = (Key (keyOf PNA)) := hR ⟨2, 21⟩ (by simp)
      have e3 : f 3 = (.tuple #[(Key (keyOf N)), (.bool true)]) := hR ⟨3, 22⟩ (by simp)
      have e4 : f 4 = (.tuple #[(Key (keyOf N)), (.bool true)]) := hR ⟨4, 18⟩ (by simp)
      have e5 : f 5 = (Key (keyOf N)) := hR ⟨5, 23⟩ (by simp)
      have e6 : f 6 = (.bool true) := hR ⟨6, 24⟩ (by simp)
      obtain ⟨g7r4, e7, A7⟩ : ∃ g, f 7 = .pointer (some ⟨g, 0, none⟩) ∧ Blk W g 23 (Iv .u8 (List.replicate 32 0)) := hR ⟨7, 7⟩ (by simp)
      have n7 : _ ≤ g7r4 := (hF ⟨7, 7⟩ (by simp) g7r4 (by show blockOf (f 7) = _; rw [e7]; rfl)).1
      have m7 : w.heap.size ≤ g7r4 := Nat.le_trans hB.size n7
      clear hA hF hR
      simp only [setAll, putAll, List.map_cons, List.map_nil, List.foldr_cons, List.foldr_nil, Act.put, List.setIfInBounds_toArray, List.set_cons_zero, List.set_cons_succ, e2, e3, e4, e5, e6, e7]
      clear e2 e3 e4 e5 e6 e7
      have hBs := hB1
      replace hB1 := below_setRow hB1 n7 (Iv .u8 (keyOf N))
      refine wpAnyZ_store_row 8 rfl (by kernel_rfl) rfl _ _ _ rfl g7r4 (Iv .u8 (keyOf N)) rfl rfl _ _ A7 (info_key _ (keyOf_length _)) (by rw [Iv_size, Iv_size, keyOf_length]; rfl) (Iv_one _ _) (hS.below hB1) ?_
      try simp only [Act.put, List.setIfInBounds_toArray, List.set_cons_zero, List.set_cons_succ]
      replace A7 := A7.row (Iv .u8 (keyOf N))
      refine wpAnyZ_one (i := 9) (by kernel_rfl) ?_
      unfold wpOp
      go_simp
      left
      refine wpAnyZ_done (by kernel_rfl) ?_ _
      have hS3 := hS.below hB1
      replace hB := hB.trans (hB1.mono hB.size)
      clear hS hS2 hB1 hBs
      have hS : Facts [.blk (g7r4) 23 (Iv .u8 (keyOf N)), .blk (g7r3) 23 (Iv .u8 (keyOf N)), .blk (w.heap.size) 23 (Iv .u8 (keyOf NA)), .blk (w.heap.size + 1) 23 (Iv .u8 (keyOf NB))] _ := Facts.cons (f := .blk g7r4 23 (Iv .u8 (keyOf N))) A7 (hS3)
      clear hS3
      try clear n7
      clear A7
      generalize hWn : World.setRow _ _ _ = Wn at *
      clear hWn
      go_upto_region 5 with fail
      replace hS := hS.drew
      replace hB := below_drew hB
      refine wp_region_Z (S := Facts [.blk (g7r4) 23 (Iv .u8 (keyOf N)), .blk (g7r3) 23 (Iv .u8 (keyOf N)), .blk (w.heap.size) 23 (Iv .u8 (keyOf NA)), .blk (w.heap.size + 1) 23 (Iv .u8 (keyOf NB))]) 17 (by kernel_rfl) ?_
      refine wpAnyZ_takeL 0 rfl (by kernel_rfl) (by kernel_rfl) (by kernel_rfl) (by kernel_rfl) (by kernel_rfl) (fun _ _ _ h => h) (show YieldsIf _ _ _ _ (Key (keyOf N)) _ from yieldsIf_load rfl 23 _ rfl (g7r3) rfl 23 _ _ (.tail _ (.head _)) Try.underlying23 rfl (info_key _ (keyOf_length _))) hS ?_
      simp only [Act.put, List.setIfInBounds_toArray, List.set_cons_zero, List.set_cons_succ]
      refine wpAnyZ_takeL 1 rfl (by kernel_rfl) (by kernel_rfl) (by kernel_rfl) (by kernel_rfl) (by kernel_rfl) (fun _ _ _ h => h) (show YieldsIf _ _ _ _ (Key (keyOf N)) _ from yieldsIf_load rfl 23 _ rfl (g7r4) rfl 23 _ _ (.head _) Try.underlying23 rfl (info_key _ (keyOf_length _))) hS ?_
      simp only [Act.put, List.setIfInBounds_toArray, List.set_cons_zero, List.set_cons_succ]
      refine wpAnyZ_takeL 2 rfl (by kernel_rfl) (by kernel_rfl) (by kernel_rfl) (by kernel_rfl) (by kernel_rfl) (fun _ _ _ h => h) (yieldsIf_eqlk rfl _ _ rfl N N rfl rfl true kN kN (decide_eq_true rfl)) hS ?_
      simp only [Act.put, List.setIfInBounds_toArray, List.set_cons_zero, List.set_cons_succ]
      refine wpAnyZ_takeL 3 rfl (by kernel_rfl) (by kernel_rfl) (by kernel_rfl) (by kernel_rfl) (by kernel_rfl) (fun _ _ _ h => h) (yieldsIf_move rfl _ rfl _ rfl) hS ?_
      simp only [Act.put, List.setIfInBounds_toArray, List.set_cons_zero, List.set_cons_succ]
      refine wpAnyZ_takeL 4 rfl (by kernel_rfl) (by kernel_rfl) (by kernel_rfl) (by kernel_rfl) (by kernel_rfl) (fun _ _ _ h => h) (yieldsIf_move rfl _ rfl _ rfl) hS ?_
      simp only [Act.put, List.setIfInBounds_toArray, List.set_cons_zero, List.set_cons_succ]
      refine wpAnyZ_takeL 5 rfl (by kernel_rfl) (by kernel_rfl) (by kernel_rfl) (by kernel_rfl) (by kernel_rfl) (fun _ _ _ h => h) (yieldsIf_pick rfl _ _ _ rfl true rfl _ rfl) hS ?_
      simp only [Act.put, List.setIfInBounds_toArray, List.set_cons_zero, List.set_cons_succ]
      refine wpAnyZ_takeL 6 rfl (by kernel_rfl) (by kernel_rfl) (by kernel_rfl) (by kernel_rfl) (by kernel_rfl) (fun _ _ _ h => h) (yieldsIf_move rfl _ rfl _ rfl) hS ?_
      simp only [Act.put, List.setIfInBounds_toArray, List.set_cons_zero, List.set_cons_succ]
      refine wpAnyZ_takeL 7 rfl (by kernel_rfl) (by kernel_rfl) (by kernel_rfl) (by kernel_rfl) (by kernel_rfl) (fun _ _ _ h => h) (yieldsIf_move rfl _ rfl _ rfl) hS ?_
      simp only [Act.put, List.setIfInBounds_toArray, List.set_cons_zero, List.set_cons_succ]
      refine wpAnyZ_takeL 8 rfl (by kernel_rfl) (by kernel_rfl) (by kernel_rfl) (by kernel_rfl) (by kernel_rfl) (fun _ _ _ h => h) (yieldsIf_pick rfl _ _ _ rfl true rfl _ rfl) hS ?_
      simp only [Act.put, List.setIfInBounds_toArray, List.set_cons_zero, List.set_cons_succ]
      refine wpAnyZ_takeL 9 rfl (by kernel_rfl) (by kernel_rfl) (by kernel_rfl) (by kernel_rfl) (by kernel_rfl) (fun _ _ _ h => h) (yieldsIf_move rfl _ rfl _ rfl) hS ?_
      simp only [Act.put, List.setIfInBounds_toArray, List.set_cons_zero, List.set_cons_succ]
      refine wpAnyZ_takeL 10 rfl (by kernel_rfl) (by kernel_rfl) (by kernel_rfl) (by kernel_rfl) (by kernel_rfl) (fun _ _ _ h => h) (show YieldsIf _ _ _ _ (Key (keyOf NA)) _ from yieldsIf_load rfl 23 _ rfl (w.heap.size) rfl 23 _ _ (.tail _ (.tail _ (.head _))) Try.underlying23 rfl (info_key _ (keyOf_length _))) hS ?_
      simp only [Act.put, List.setIfInBounds_toArray, List.set_cons_zero, List.set_cons_succ]
      refine wpAnyZ_takeL 12 rfl (by kernel_rfl) (by kernel_rfl) (by kernel_rfl) (by kernel_rfl) (by kernel_rfl) (fun _ _ _ h => h) (show YieldsIf _ _ _ _ (Key (keyOf NA)) _ from yieldsIf_load rfl 23 _ rfl (w.heap.size) rfl 23 _ _ (.tail _ (.tail _ (.head _))) Try.underlying23 rfl (info_key _ (keyOf_length _))) hS ?_
      simp only [Act.put, List.setIfInBounds_toArray, List.set_cons_zero, List.set_cons_succ]
      refine wpAnyZ_takeL 13 rfl (by kernel_rfl) (by kernel_rfl) (by kernel_rfl) (by kernel_rfl) (by kernel_rfl) (fun _ _ _ h => h) (yieldsIf_key1 9 (by decide) rfl rfl) hS ?_
      simp only [Act.put, List.setIfInBounds_toArray, List.set_cons_zero, List.set_cons_succ]
      refine wpAnyZ_one (i := 11) (by kernel_rfl) ?_
      unfold wpOp
      go_simp
      left
      refine (CPNA.out _).mono ?_
      rintro e v1 ⟨rfl, b⟩
      replace hB := hB.trans (b.mono hB.size)
      replace hS := hS.below b
      clear b
      refine ⟨hS, ?_⟩
      refine wpAnyZ_one (i := 14) (by kernel_rfl) ?_
      unfold wpOp
      go_simp
      left
      refine (CM.out _).mono ?_
      rintro e v2 ⟨rfl, b⟩
      replace hB := hB.trans (b.mono hB.size)
      replace hS := hS.below b
      clear b
      refine ⟨hS, ?_⟩
      refine wpAnyZ_takeL 15 rfl (by kernel_rfl) (by kernel_rfl) (by kernel_rfl) (by kernel_rfl) (by kernel_rfl) (fun _ _ _ h => h) (yieldsIf_eqlk rfl _ _ rfl PNA PNA rfl rfl true kPNA kPNA (decide_eq_true rfl)) hS ?_
      simp only [Act.put, List.setIfInBounds_toArray, List.set_cons_zero, List.set_cons_succ]
      refine wpAnyZ_takeL 16 rfl (by kernel_rfl) (by kernel_rfl) (by kernel_rfl) (by kernel_rfl) (by kernel_rfl) (fun _ _ _ h => h) (yieldsIf_pick rfl _ _ _ rfl true rfl _ rfl) hS ?_
      simp only [Act.put, List.setIfInBounds_toArray, List.set_cons_zero, List.set_cons_succ]
      refine wpAnyZ_one (i := 17) (by kernel_rfl) ?_
      unfold wpOp
      go_simp
      left
      refine wpAnyZ_done (by kernel_rfl) ?_ _
      go_wp2
      exact bodyPost_ret (results_tmp rfl _ _ _) rfl ⟨rfl, hB⟩
theorem meets_k (l0 l1 : List Int) (f0 f1 : Nat → Nat) (hl0 : Bytes32 l0 f0) (hl1 : Bytes32 l1 f1) (w : World) :
    Calls Try.prog 4 #[Key l0, Key l1] w fun e w' => e = .returned (.bool true) ∧ Below w.heap.size w w' := by
  rw [key_of_bytes hl0, key_of_bytes hl1]
  exact meets_n _ _ w
end Go.Proofs.Ytgdhlafggdaipaa
