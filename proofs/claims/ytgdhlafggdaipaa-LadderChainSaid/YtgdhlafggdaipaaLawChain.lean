/- The law LadderChain: of three that hand on what they share, in any order, all come to the same (printed by lawladder.py). -/
import Derived.Test.YtgdhlafggdaipaaCe
import Derived.Test.YtgdhlafggdaipaaJk
namespace Go.Proofs.Ytgdhlafggdaipaa
open Go.RowKit

set_option maxHeartbeats 8000000 in
set_option maxRecDepth 100000 in
theorem chain_n (NA NB NC : Nat) (w : World) :
    Calls Try.prog 7 #[Key (keyOf NA), Key (keyOf NB), Key (keyOf NC)] w fun e w' => e = .returned (.bool true) ∧ Below w.heap.size w w' := by
  obtain ⟨h1, h2⟩ := chains NA NB NC
  have kN := Nat.lt_trans (ladN_lt (clN NA) (plN (ladN (clN NB) (plN (ladN (clN NC) 9))))) pp_lt256
  have pA := fun W => public_n NA _ rfl W
  have kPNA := Nat.lt_trans (ladN_lt (clN NA) 9) pp_lt256
  have pB := fun W => public_n NB _ rfl W
  have kPNB := Nat.lt_trans (ladN_lt (clN NB) 9) pp_lt256
  have pC := fun W => public_n NC _ rfl W
  have kPNC := Nat.lt_trans (ladN_lt (clN NC) 9) pp_lt256
  have mBC := fun W => mul_n NB (ladN (clN NC) 9) _ kPNC rfl W
  have kBC := Nat.lt_trans (ladN_lt (clN NB) (plN (ladN (clN NC) 9))) pp_lt256
  have mCA := fun W => mul_n NC (ladN (clN NA) 9) _ kPNA rfl W
  have kCA := Nat.lt_trans (ladN_lt (clN NC) (plN (ladN (clN NA) 9))) pp_lt256
  have mAB := fun W => mul_n NA (ladN (clN NB) 9) _ kPNB rfl W
  have kAB := Nat.lt_trans (ladN_lt (clN NA) (plN (ladN (clN NB) 9))) pp_lt256
  have nA := fun W => mul_n NA (ladN (clN NB) (plN (ladN (clN NC) 9))) _ kBC rfl W
  have nB := fun W => mul_n NB (ladN (clN NC) (plN (ladN (clN NA) 9))) _ kCA h1 W
  have nC := fun W => mul_n NC (ladN (clN NA) (plN (ladN (clN NB) 9))) _ kAB h2 W
  generalize ladN (clN NA) (plN (ladN (clN NB) (plN (ladN (clN NC) 9)))) = N at *
  generalize ladN (clN NB) (plN (ladN (clN NC) 9)) = MNBPNC at *
  generalize ladN (clN NC) (plN (ladN (clN NA) 9)) = MNCPNA at *
  generalize ladN (clN NA) (plN (ladN (clN NB) 9)) = MNAPNB at *
  generalize ladN (clN NA) 9 = PNA at *
  generalize ladN (clN NB) 9 = PNB at *
  generalize ladN (clN NC) 9 = PNC at *
  have CPNA := Lib.hid pA
  have CPNB := Lib.hid pB
  have CPNC := Lib.hid pC
  have CNBPNC := Lib.hid mBC
  have CNAMNBPNC := Lib.hid nA
  have CNCPNA := Lib.hid mCA
  have CNBMNCPNA := Lib.hid nB
  have CNAPNB := Lib.hid mAB
  have CNCMNAPNB := Lib.hid nC
  clear pA pB pC mBC mCA mAB nA nB nC h1 h2
  unfold Key
  go_enter Try.func7, Try.ntmps7
  go_wp2_with fail
  refine (awake_any _).mono ?_
  rintro e w1 ⟨rfl, b⟩
  have hS : Facts [.blk (w.heap.size) 23 (Iv .u8 (keyOf NA)), .blk (w.heap.size + 1) 23 (Iv .u8 (keyOf NB)), .blk (w.heap.size + 1 + 1) 23 (Iv .u8 (keyOf NC))] w1 := Facts.below (Facts.cons (f := .blk (w.heap.size) 23 (Iv .u8 (keyOf NA))) ((((Blk.new' (by simp) _ _).alloc _).alloc _)) (Facts.cons (f := .blk (w.heap.size + 1) 23 (Iv .u8 (keyOf NB))) (((Blk.new' (by simp) _ _).alloc _)) (Facts.cons (f := .blk (w.heap.size + 1 + 1) 23 (Iv .u8 (keyOf NC))) ((Blk.new' (by simp) _ _)) (Facts.nil)))) b
  have hB : Below w.heap.size w w1 := ((((Below.refl w.heap.size w).alloc (Nat.le_refl _) _).alloc (by simp) _).alloc (by simp; omega) _).trans (b.mono (by simp; omega))
  clear b
  go_upto_region 3 with fail
  replace hS := hS.drew
  replace hB := below_drew hB
  refine wp_region_Z (S := Facts [.blk (w.heap.size) 23 (Iv .u8 (keyOf NA)), .blk (w.heap.size + 1) 23 (Iv .u8 (keyOf NB)), .blk (w.heap.size + 1 + 1) 23 (Iv .u8 (keyOf NC))]) 7 (by kernel_rfl) ?_
  refine wpAnyZ_takeL 0 rfl (by kernel_rfl) (by kernel_rfl) (by kernel_rfl) (by kernel_rfl) (by kernel_rfl) (fun _ _ _ h => h) (show YieldsIf _ _ _ _ (Key (keyOf NA)) _ from yieldsIf_load rfl 23 _ rfl (w.heap.size) rfl 23 _ _ (.head _) Try.underlying23 rfl (info_key _ (keyOf_length _))) hS ?_
  simp only [Act.put, List.setIfInBounds_toArray, List.set_cons_zero, List.set_cons_succ]
  refine wpAnyZ_takeL 1 rfl (by kernel_rfl) (by kernel_rfl) (by kernel_rfl) (by kernel_rfl) (by kernel_rfl) (fun _ _ _ h => h) (show YieldsIf _ _ _ _ (Key (keyOf NB)) _ from yieldsIf_load rfl 23 _ rfl (w.heap.size + 1) rfl 23 _ _ (.tail _ (.head _)) Try.underlying23 rfl (info_key _ (keyOf_length _))) hS ?_
  simp only [Act.put, List.setIfInBounds_toArray, List.set_cons_zero, List.set_cons_succ]
  refine wpAnyZ_takeL 2 rfl (by kernel_rfl) (by kernel_rfl) (by kernel_rfl) (by kernel_rfl) (by kernel_rfl) (fun _ _ _ h => h) (show YieldsIf _ _ _ _ (Key (keyOf NC)) _ from yieldsIf_load rfl 23 _ rfl (w.heap.size + 1 + 1) rfl 23 _ _ (.tail _ (.tail _ (.head _))) Try.underlying23 rfl (info_key _ (keyOf_length _))) hS ?_
  simp only [Act.put, List.setIfInBounds_toArray, List.set_cons_zero, List.set_cons_succ]
  refine wpAnyZ_jobsL [(⟨3, 13⟩, .is (Key (keyOf PNC))), (⟨4, 14⟩, .is (Key (keyOf MNBPNC))), (⟨5, 15⟩, .is (Key (keyOf N))), (⟨6, 7⟩, .rel (fun v w' => ∃ g, v = .pointer (some ⟨g, 0, none⟩) ∧ Blk w' g 23 (Iv .u8 (List.replicate 32 0))))] [] 1 _ _ _ (by kernel_rfl) (fun _ _ _ _ _ h => h) ?_ (fun _ _ _ _ _ h => h) (fun _ _ h hb => h.below hb) hS ?_ ?_ ?_
  · exact fun _ _ h => by cases h
  · intro j hj
    simp only [List.map_cons, List.map_nil, List.mem_cons, List.not_mem_nil, or_false] at hj
    rcases hj with rfl | rfl | rfl | rfl
    · exact fun _ _ _ h _ => h
    · exact fun _ _ _ h _ => h
    · exact fun _ _ _ h _ => h
    · intro v w1 w2 h hb
      obtain ⟨g, e, H⟩ : ∃ g, v = .pointer (some ⟨g, 0, none⟩) ∧ Blk w1 g 23 (Iv .u8 (List.replicate 32 0)) := h
      exact ⟨g, e, H.below' hb⟩
  · intro j hj
    simp only [List.map_cons, List.map_nil, List.mem_cons, List.not_mem_nil, or_false] at hj
    rcases hj with rfl | rfl | rfl | rfl
    · refine job_frame [] (by kernel_rfl) ?_
      show JobAt _ _ _ _ _ _ _
      simp only [putAll, List.foldr_nil]
      intro W K hS' hK
      unfold wpOp
      go_simp
      left
      refine (CPNC.out _).mono ?_
      rintro e v ⟨rfl, b⟩
      exact hK _ _ rfl b (fun g hg => ((block_agg _) g hg).elim)
    · refine job_frame [⟨3, 13⟩] (by kernel_rfl) ?_
      show JobAt _ _ _ _ (Act.put _ (some 13) (Key (keyOf PNC))) _ _
      simp only [Act.put, List.setIfInBounds_toArray, List.set_cons_zero, List.set_cons_succ]
      intro W K hS' hK
      unfold wpOp
      go_simp
      left
      refine (CNBPNC.out _).mono ?_
      rintro e v ⟨rfl, b⟩
      exact hK _ _ rfl b (fun g hg => ((block_agg _) g hg).elim)
    · refine job_frame [⟨4, 14⟩] (by kernel_rfl) ?_
      show JobAt _ _ _ _ (Act.put _ (some 14) (Key (keyOf MNBPNC))) _ _
      simp only [Act.put, List.setIfInBounds_toArray, List.set_cons_zero, List.set_cons_succ]
      intro W K hS' hK
      unfold wpOp
      go_simp
      left
      refine (CNAMNBPNC.out _).mono ?_
      rintro e v ⟨rfl, b⟩
      exact hK _ _ rfl b (fun g hg => ((block_agg _) g hg).elim)
    · refine job_frame [] (by kernel_rfl) ?_
      show JobAt _ _ _ _ _ _ _
      exact job_alloc 23 (Iv .u8 (List.replicate 32 0)) _ _ rfl rfl rfl (fun W => by go_simp; rfl)
  · intro f W hS2 hB1 hR hF hA
    have e3 : f 3 = (Key (keyOf PNC)) := hR ⟨3, 13⟩ (by simp)
    have e4 : f 4 = (Key (keyOf MNBPNC)) := hR ⟨4, 14⟩ (by simp)
    have e5 : f 5 = (Key (keyOf N)) := hR ⟨5, 15⟩ (by simp)
    obtain ⟨g6r3, e6, A6⟩ : ∃ g, f 6 = .pointer (some ⟨g, 0, none⟩) ∧ Blk W g 23 (Iv .u8 (List.replicate 32 0)) := hR ⟨6, 7⟩ (by simp)
    have n6 : _ ≤ g6r3 := (hF ⟨6, 7⟩ (by simp) g6r3 (by show blockOf (f 6) = _; rw [e6]; rfl)).1
    have m6 : w.heap.size ≤ g6r3 := Nat.le_trans hB.size n6
    clear hA hF hR
    simp only [setAll, putAll, List.map_cons, List.map_nil, List.foldr_cons, List.foldr_nil, Act.put, List.setIfInBounds_toArray, List.set_cons_zero, List.set_cons_succ, e3, e4, e5, e6]
    clear e3 e4 e5 e6
    have hBs := hB1
    replace hB1 := below_setRow hB1 n6 (Iv .u8 (keyOf N))
    refine wpAnyZ_store_row 7 rfl (by kernel_rfl) rfl _ _ _ rfl g6r3 (Iv .u8 (keyOf N)) rfl rfl _ _ A6 (info_key _ (keyOf_length _)) (by rw [Iv_size, Iv_size, keyOf_length]; rfl) (Iv_one _ _) (hS.below hB1) ?_
    try simp only [Act.put, List.setIfInBounds_toArray, List.set_cons_zero, List.set_cons_succ]
    replace A6 := A6.row (Iv .u8 (keyOf N))
    refine wpAnyZ_done (by kernel_rfl) ?_ _
    have hS3 := hS.below hB1
    replace hB := hB.trans (hB1.mono hB.size)
    clear hS hS2 hB1 hBs
    have hS : Facts [.blk (g6r3) 23 (Iv .u8 (keyOf N)), .blk (w.heap.size) 23 (Iv .u8 (keyOf NA)), .blk (w.heap.size + 1) 23 (Iv .u8 (keyOf NB)), .blk (w.heap.size + 1 + 1) 23 (Iv .u8 (keyOf NC))] _ := Facts.cons (f := .blk g6r3 23 (Iv .u8 (keyOf N))) A6 (hS3)
    clear hS3
    try clear n6
    clear A6
    generalize hWn : World.setRow _ _ _ = Wn at *
    clear hWn
    go_upto_region 4 with fail
    replace hS := hS.drew
    replace hB := below_drew hB
    refine wp_region_Z (S := Facts [.blk (g6r3) 23 (Iv .u8 (keyOf N)), .blk (w.heap.size) 23 (Iv .u8 (keyOf NA)), .blk (w.heap.size + 1) 23 (Iv .u8 (keyOf NB)), .blk (w.heap.size + 1 + 1) 23 (Iv .u8 (keyOf NC))]) 18 (by kernel_rfl) ?_
    refine wpAnyZ_takeL 0 rfl (by kernel_rfl) (by kernel_rfl) (by kernel_rfl) (by kernel_rfl) (by kernel_rfl) (fun _ _ _ h => h) (show YieldsIf _ _ _ _ (Key (keyOf N)) _ from yieldsIf_load rfl 23 _ rfl (g6r3) rfl 23 _ _ (.head _) Try.underlying23 rfl (info_key _ (keyOf_length _))) hS ?_
    simp only [Act.put, List.setIfInBounds_toArray, List.set_cons_zero, List.set_cons_succ]
    refine wpAnyZ_takeL 1 rfl (by kernel_rfl) (by kernel_rfl) (by kernel_rfl) (by kernel_rfl) (by kernel_rfl) (fun _ _ _ h => h) (show YieldsIf _ _ _ _ (Key (keyOf NB)) _ from yieldsIf_load rfl 23 _ rfl (w.heap.size + 1) rfl 23 _ _ (.tail _ (.tail _ (.head _))) Try.underlying23 rfl (info_key _ (keyOf_length _))) hS ?_
    simp only [Act.put, List.setIfInBounds_toArray, List.set_cons_zero, List.set_cons_succ]
    refine wpAnyZ_takeL 2 rfl (by kernel_rfl) (by kernel_rfl) (by kernel_rfl) (by kernel_rfl) (by kernel_rfl) (fun _ _ _ h => h) (show YieldsIf _ _ _ _ (Key (keyOf NC)) _ from yieldsIf_load rfl 23 _ rfl (w.heap.size + 1 + 1) rfl 23 _ _ (.tail _ (.tail _ (.tail _ (.head _)))) Try.underlying23 rfl (info_key _ (keyOf_length _))) hS ?_
    simp only [Act.put, List.setIfInBounds_toArray, List.set_cons_zero, List.set_cons_succ]
    refine wpAnyZ_takeL 3 rfl (by kernel_rfl) (by kernel_rfl) (by kernel_rfl) (by kernel_rfl) (by kernel_rfl) (fun _ _ _ h => h) (show YieldsIf _ _ _ _ (Key (keyOf NA)) _ from yieldsIf_load rfl 23 _ rfl (w.heap.size) rfl 23 _ _ (.tail _ (.head _)) Try.underlying23 rfl (info_key _ (keyOf_length _))) hS ?_
    simp only [Act.put, List.setIfInBounds_toArray, List.set_cons_zero, List.set_cons_succ]
    refine wpAnyZ_one (i := 4) (by kernel_rfl) ?_
    unfold wpOp
    go_simp
    left
    refine (CPNA.out _).mono ?_
    rintro e v1 ⟨rfl, b⟩
    replace hB := hB.trans (b.mono hB.size)
    replace hS := hS.below b
    clear b
    refine ⟨hS, ?_⟩
    refine wpAnyZ_one (i := 5) (by kernel_rfl) ?_
    unfold wpOp
    go_simp
    left
    refine (CNCPNA.out _).mono ?_
    rintro e v2 ⟨rfl, b⟩
    replace hB := hB.trans (b.mono hB.size)
    replace hS := hS.below b
    clear b
    refine ⟨hS, ?_⟩
    refine wpAnyZ_one (i := 6) (by kernel_rfl) ?_
    unfold wpOp
    go_simp
    left
    refine (CNBMNCPNA.out _).mono ?_
    rintro e v3 ⟨rfl, b⟩
    replace hB := hB.trans (b.mono hB.size)
    replace hS := hS.below b
    clear b
    refine ⟨hS, ?_⟩
    refine wpAnyZ_takeL 7 rfl (by kernel_rfl) (by kernel_rfl) (by kernel_rfl) (by kernel_rfl) (by kernel_rfl) (fun _ _ _ h => h) (yieldsIf_eqlk rfl _ _ rfl N N rfl rfl true kN kN (decide_eq_true rfl)) hS ?_
    simp only [Act.put, List.setIfInBounds_toArray, List.set_cons_zero, List.set_cons_succ]
    refine wpAnyZ_takeL 8 rfl (by kernel_rfl) (by kernel_rfl) (by kernel_rfl) (by kernel_rfl) (by kernel_rfl) (fun _ _ _ h => h) (yieldsIf_move rfl _ rfl _ rfl) hS ?_
    simp only [Act.put, List.setIfInBounds_toArray, List.set_cons_zero, List.set_cons_succ]
    refine wpAnyZ_takeL 9 rfl (by kernel_rfl) (by kernel_rfl) (by kernel_rfl) (by kernel_rfl) (by kernel_rfl) (fun _ _ _ h => h) (show YieldsIf _ _ _ _ (Key (keyOf N)) _ from yieldsIf_load rfl 23 _ rfl (g6r3) rfl 23 _ _ (.head _) Try.underlying23 rfl (info_key _ (keyOf_length _))) hS ?_
    simp only [Act.put, List.setIfInBounds_toArray, List.set_cons_zero, List.set_cons_succ]
    refine wpAnyZ_takeL 10 rfl (by kernel_rfl) (by kernel_rfl) (by kernel_rfl) (by kernel_rfl) (by kernel_rfl) (fun _ _ _ h => h) (show YieldsIf _ _ _ _ (Key (keyOf NC)) _ from yieldsIf_load rfl 23 _ rfl (w.heap.size + 1 + 1) rfl 23 _ _ (.tail _ (.tail _ (.tail _ (.head _)))) Try.underlying23 rfl (info_key _ (keyOf_length _))) hS ?_
    simp only [Act.put, List.setIfInBounds_toArray, List.set_cons_zero, List.set_cons_succ]
    refine wpAnyZ_takeL 11 rfl (by kernel_rfl) (by kernel_rfl) (by kernel_rfl) (by kernel_rfl) (by kernel_rfl) (fun _ _ _ h => h) (show YieldsIf _ _ _ _ (Key (keyOf NA)) _ from yieldsIf_load rfl 23 _ rfl (w.heap.size) rfl 23 _ _ (.tail _ (.head _)) Try.underlying23 rfl (info_key _ (keyOf_length _))) hS ?_
    simp only [Act.put, List.setIfInBounds_toArray, List.set_cons_zero, List.set_cons_succ]
    refine wpAnyZ_takeL 12 rfl (by kernel_rfl) (by kernel_rfl) (by kernel_rfl) (by kernel_rfl) (by kernel_rfl) (fun _ _ _ h => h) (show YieldsIf _ _ _ _ (Key (keyOf NB)) _ from yieldsIf_load rfl 23 _ rfl (w.heap.size + 1) rfl 23 _ _ (.tail _ (.tail _ (.head _))) Try.underlying23 rfl (info_key _ (keyOf_length _))) hS ?_
    simp only [Act.put, List.setIfInBounds_toArray, List.set_cons_zero, List.set_cons_succ]
    refine wpAnyZ_one (i := 13) (by kernel_rfl) ?_
    unfold wpOp
    go_simp
    left
    refine (CPNB.out _).mono ?_
    rintro e v4 ⟨rfl, b⟩
    replace hB := hB.trans (b.mono hB.size)
    replace hS := hS.below b
    clear b
    refine ⟨hS, ?_⟩
    refine wpAnyZ_one (i := 14) (by kernel_rfl) ?_
    unfold wpOp
    go_simp
    left
    refine (CNAPNB.out _).mono ?_
    rintro e v5 ⟨rfl, b⟩
    replace hB := hB.trans (b.mono hB.size)
    replace hS := hS.below b
    clear b
    refine ⟨hS, ?_⟩
    refine wpAnyZ_one (i := 15) (by kernel_rfl) ?_
    unfold wpOp
    go_simp
    left
    refine (CNCMNAPNB.out _).mono ?_
    rintro e v6 ⟨rfl, b⟩
    replace hB := hB.trans (b.mono hB.size)
    replace hS := hS.below b
    clear b
    refine ⟨hS, ?_⟩
    refine wpAnyZ_takeL 16 rfl (by kernel_rfl) (by kernel_rfl) (by kernel_rfl) (by kernel_rfl) (by kernel_rfl) (fun _ _ _ h => h) (yieldsIf_eqlk rfl _ _ rfl N N rfl rfl true kN kN (decide_eq_true rfl)) hS ?_
    simp only [Act.put, List.setIfInBounds_toArray, List.set_cons_zero, List.set_cons_succ]
    refine wpAnyZ_takeL 17 rfl (by kernel_rfl) (by kernel_rfl) (by kernel_rfl) (by kernel_rfl) (by kernel_rfl) (fun _ _ _ h => h) (yieldsIf_pick rfl _ _ _ rfl true rfl _ rfl) hS ?_
    simp only [Act.put, List.setIfInBounds_toArray, List.set_cons_zero, List.set_cons_succ]
    refine wpAnyZ_one (i := 18) (by kernel_rfl) ?_
    unfold wpOp
    go_simp
    left
    refine wpAnyZ_done (by kernel_rfl) ?_ _
    go_wp2
    exact bodyPost_ret (results_tmp rfl _ _ _) rfl ⟨rfl, hB⟩
theorem chain_k (l0 l1 l2 : List Int) (f0 f1 f2 : Nat → Nat) (hl0 : Bytes32 l0 f0) (hl1 : Bytes32 l1 f1) (hl2 : Bytes32 l2 f2) (w : World) :
    Calls Try.prog 7 #[Key l0, Key l1, Key l2] w fun e w' => e = .returned (.bool true) ∧ Below w.heap.size w w' := by
  rw [key_of_bytes hl0, key_of_bytes hl1, key_of_bytes hl2]
  exact chain_n _ _ _ w
end Go.Proofs.Ytgdhlafggdaipaa
