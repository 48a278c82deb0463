/- The law SignMixed (printed by gencurve.py). -/
import Derived.Test.YtmceebdaaegkeaaDoorZi
namespace Go.Proofs.YtmceebdaaegkeaaDoor
open Go.RowKit

open Ed
open H5 (NI NI_length NI_inj Bytes BA SB SP sha sha_length sha_bytes sum512_l Tab Sq)
theorem sg_dec (F a b : Nat) (kF : F < p256) (ka : a < ell) (kb : b < ell) (c : Bool) (h : decide (a = b) = c) : decide (Sg F a = Sg F b) = c := by
  rw [← h]
  exact decide_eq_decide.2 ⟨fun e => (Sg_inj kF (Nat.lt_trans ka ell_p256) kF (Nat.lt_trans kb ell_p256) e).2, fun e => by rw [e]⟩
theorem mix_dec (cu sq : Nat → Nat) (n : Nat) (l : List Nat) (s NF NS NU : Nat) (hF : NF = firN cu sq n l) (hS : NS = secN cu sq n l) (hU : NU = pubN cu sq n) (hs : s < ell) (c : Bool) (h : decide (s = NS) = c) :
    decide (textN (add ok (times ok s bb) (neg (times ok (chalN cu sq NF NU l) (times ok (numN cu sq n) bb)))) = NF) = c := by
  rw [← h, hF, hU, hS]
  exact decide_eq_decide.2 (back_math cu sq n l s hs)
set_option maxHeartbeats 8000000 in
set_option maxRecDepth 100000 in
theorem mixed_n (cu sq : Nat → Nat) (NA NB : Nat) (bv dv : Value) (l m : List Nat) (bl : Bytes l) (dl : Bytes m) (g1 : ¬ (200 : Int) < (l.length : Int)) (g2 : ¬ (200 : Int) < (m.length : Int)) (e0 : byteAt (pubN cu sq 0) 0 = 59) (e1 : byteAt (pubN cu sq 0) 1 = 106) (e2 : byteAt (pubN cu sq 0) 2 = 39) (e3 : byteAt (pubN cu sq 0) 3 = 188) (w : World) (T : Tab w cu) (SQ : Sq w sq) (hb : SB w bv l) (hd : SB w dv m) (GX : Rng w 3 (Iv .u8 (keyOf bxN))) (GY : Rng w 4 (Iv .u8 (keyOf byN))) (GD : Rng w 5 (Iv .u8 (keyOf dN))) :
    Calls Tryd.prog 4 #[Key (keyOf NA), Key (keyOf NB), bv, dv] w fun e w' => e = .returned (.bool true) ∧ Below w.heap.size w w' := by
  have bGX := GX.blk
  have bGY := GY.blk
  have bGD := GD.blk
  have ipbase := pbase_is
  have bT := T.blk
  have bSQ := SQ.blk
  obtain ⟨pb, cb, rfl, _⟩ := id hb
  obtain ⟨pd, cd, rfl, _⟩ := id hd
  have ln : l.length < 1152921504606846976 := by omega
  have dn : m.length < 1152921504606846976 := by omega
  obtain ⟨NU, hNU⟩ : ∃ t, t = pubN cu sq NA := ⟨_, rfl⟩
  obtain ⟨NF, hNF⟩ : ∃ t, t = firN cu sq NA l := ⟨_, rfl⟩
  obtain ⟨NS, hNS⟩ : ∃ t, t = secN cu sq NA l := ⟨_, rfl⟩
  obtain ⟨MF, hMF⟩ : ∃ t, t = firN cu sq NB m := ⟨_, rfl⟩
  obtain ⟨MS, hMS⟩ : ∃ t, t = secN cu sq NB m := ⟨_, rfl⟩
  have kNF : NF < p256 := hNF ▸ firN_lt _ _ _ _
  have kNS : NS < ell := hNS ▸ secN_lt _ _ _ _
  have kMS : MS < ell := hMS ▸ secN_lt _ _ _ _
  obtain ⟨c, hcc⟩ : ∃ c, decide (MS = NS) = c := ⟨_, rfl⟩
  have hc := mix_dec cu sq NA l MS NF NS NU hNF hNS hNU kMS c hcc
  have he := sg_dec NF MS NS kNF kMS kNS c hcc
  clear hcc
  have HNU := Lib.hid hNU
  clear hNU
  have HNF := Lib.hid hNF
  clear hNF
  have HNS := Lib.hid hNS
  clear hNS
  have HMF := Lib.hid hMF
  clear hMF
  have HMS := Lib.hid hMS
  clear hMS
  have HC := Lib.hid hc
  clear hc
  have HE := Lib.hid he
  clear he
  unfold Key
  go_enter Tryd.func4, Tryd.ntmps4
  go_upto_region 1 with fail
  generalize hW : World.alloc (World.alloc w _) _ = W
  have hB : Below w.heap.size w W := hW ▸ ((Below.refl w.heap.size w).alloc (Nat.le_refl _) _).alloc (by simp) _
  have K0 : Blk W (w.heap.size) 23 (Iv .u8 (keyOf NA)) := hW ▸ ((Blk.new' (by simp) _ _).alloc _)
  have K1 : Blk W (w.heap.size + 1) 23 (Iv .u8 (keyOf NB)) := hW ▸ (Blk.new' (by simp) _ _)
  have hS : Facts [.blk (w.heap.size) 23 (Iv .u8 (keyOf NA)), .blk (w.heap.size + 1) 23 (Iv .u8 (keyOf NB)), .bel w] W := Facts.cons (f := .blk (w.heap.size) 23 (Iv .u8 (keyOf NA))) K0 (Facts.cons (f := .blk (w.heap.size + 1) 23 (Iv .u8 (keyOf NB))) K1 (Facts.cons (f := .bel w) hB Facts.nil))
  clear hW K0 K1
  refine wp_region_seq ?_
  refine wpSeq_wp rfl ?_
  go_simp
  refine (awake_n cu sq e0 e1 e2 e3 _ (T.below (hS.belAt w (.tail _ (.tail _ (.head _))))) (SQ.below (hS.belAt w (.tail _ (.tail _ (.head _))))) (GX.below (hS.belAt w (.tail _ (.tail _ (.head _))))) (GY.below (hS.belAt w (.tail _ (.tail _ (.head _))))) (GD.below (hS.belAt w (.tail _ (.tail _ (.head _)))))).mono ?_
  rintro e v1 ⟨rfl, b⟩
  replace hB := hB.trans (b.mono hB.size)
  replace hS := hS.below b
  clear b
  show wpSeq _ _ _ _ _ _
  refine wpSeq_yield (S := Facts [.blk (w.heap.size) 23 (Iv .u8 (keyOf NA)), .blk (w.heap.size + 1) 23 (Iv .u8 (keyOf NB)), .bel w]) (yieldsIf_not rfl _ _ rfl true rfl) hS ?_
  simp only [Act.put, List.setIfInBounds_toArray, List.set_cons_zero, List.set_cons_succ]
  refine wpSeq_nil ?_
  go_upto_region 5 with fail
  replace hS := hS.drew
  replace hB := below_drew hB
  refine wp_region_Z (S := Facts [.blk (w.heap.size) 23 (Iv .u8 (keyOf NA)), .blk (w.heap.size + 1) 23 (Iv .u8 (keyOf NB)), .bel w]) 9 (by kernel_rfl) ?_
  refine wpAnyZ_takeL 0 rfl (by kernel_rfl) (by kernel_rfl) (by kernel_rfl) (by kernel_rfl) (by kernel_rfl) (fun _ _ _ h => h) (show YieldsIf _ _ _ _ (Key (keyOf NA)) _ from yieldsIf_load rfl 23 _ rfl (w.heap.size) rfl 23 _ _ (.head _) Tryd.underlying23 rfl (info_key _ (keyOf_length _))) hS ?_
  simp only [Act.put, List.setIfInBounds_toArray, List.set_cons_zero, List.set_cons_succ]
  refine wpAnyZ_takeL 1 rfl (by kernel_rfl) (by kernel_rfl) (by kernel_rfl) (by kernel_rfl) (by kernel_rfl) (fun _ _ _ h => h) (yieldsIf_move rfl _ rfl _ rfl) hS ?_
  simp only [Act.put, List.setIfInBounds_toArray, List.set_cons_zero, List.set_cons_succ]
  refine wpAnyZ_takeL 3 rfl (by kernel_rfl) (by kernel_rfl) (by kernel_rfl) (by kernel_rfl) (by kernel_rfl) (fun _ _ _ h => h) (show YieldsIf _ _ _ _ (Key (keyOf NB)) _ from yieldsIf_load rfl 23 _ rfl (w.heap.size + 1) rfl 23 _ _ (.tail _ (.head _)) Tryd.underlying23 rfl (info_key _ (keyOf_length _))) hS ?_
  simp only [Act.put, List.setIfInBounds_toArray, List.set_cons_zero, List.set_cons_succ]
  refine wpAnyZ_takeL 4 rfl (by kernel_rfl) (by kernel_rfl) (by kernel_rfl) (by kernel_rfl) (by kernel_rfl) (fun _ _ _ h => h) (yieldsIf_move rfl _ rfl _ rfl) hS ?_
  simp only [Act.put, List.setIfInBounds_toArray, List.set_cons_zero, List.set_cons_succ]
  refine wpAnyZ_jobsL [(⟨2, 24⟩, .is (.agg (Iv .u8 (Sg NF NS)))), (⟨5, 27⟩, .is (.agg (Iv .u8 (Sg MF MS)))), (⟨6, 9⟩, .rel (fun v w' => ∃ g, v = .pointer (some ⟨g, 0, none⟩) ∧ Blk w' g 27 (Iv .u8 (List.replicate 64 0)))), (⟨7, 10⟩, .rel (fun v w' => ∃ g, v = .pointer (some ⟨g, 0, none⟩) ∧ Blk w' g 27 (Iv .u8 (List.replicate 64 0))))] [] 2 _ _ _ (by kernel_rfl) (fun _ _ _ _ _ h => h) ?_ (fun _ _ _ _ _ h => h) (fun _ _ h hb => h.below hb) hS ?_ ?_ ?_
  · exact fun _ _ h => by cases h
  · intro j hj
    simp only [List.map_cons, List.map_nil, List.mem_cons, List.not_mem_nil, or_false] at hj
    rcases hj with rfl | rfl | rfl | rfl
    · exact fun _ _ _ h _ => h
    · exact fun _ _ _ h _ => h
    · intro v w1 w2 h hb
      obtain ⟨g, e, H⟩ : ∃ g, v = .pointer (some ⟨g, 0, none⟩) ∧ Blk w1 g 27 (Iv .u8 (List.replicate 64 0)) := h
      exact ⟨g, e, H.below' hb⟩
    · intro v w1 w2 h hb
      obtain ⟨g, e, H⟩ : ∃ g, v = .pointer (some ⟨g, 0, none⟩) ∧ Blk w1 g 27 (Iv .u8 (List.replicate 64 0)) := h
      exact ⟨g, e, H.below' hb⟩
  · intro j hj
    simp only [List.map_cons, List.map_nil, List.mem_cons, List.not_mem_nil, or_false] at hj
    rcases hj with rfl | rfl | rfl | rfl
    · refine job_frame [] (by kernel_rfl) ?_
      show JobAt _ _ _ _ _ _ _
      simp only [putAll, List.foldr_nil]
      intro W K hS' hK
      unfold wpOp
      go_simp
      left
      refine (sign_n cu sq (.slice pb l.length cb) l bl ln NA NF NS HNF.out HNS.out _ (T.below (hS'.belAt w (.tail _ (.tail _ (.head _))))) (SQ.below (hS'.belAt w (.tail _ (.tail _ (.head _))))) (hb.below (hS'.belAt w (.tail _ (.tail _ (.head _))))) (GX.below (hS'.belAt w (.tail _ (.tail _ (.head _))))) (GY.below (hS'.belAt w (.tail _ (.tail _ (.head _))))) (GD.below (hS'.belAt w (.tail _ (.tail _ (.head _)))))).mono ?_
      rintro e v ⟨rfl, b⟩
      exact hK _ _ rfl b (fun g hg => ((block_agg _) g hg).elim)
    · refine job_frame [] (by kernel_rfl) ?_
      show JobAt _ _ _ _ _ _ _
      simp only [putAll, List.foldr_nil]
      intro W K hS' hK
      unfold wpOp
      go_simp
      left
      refine (sign_n cu sq (.slice pd m.length cd) m dl dn NB MF MS HMF.out HMS.out _ (T.below (hS'.belAt w (.tail _ (.tail _ (.head _))))) (SQ.below (hS'.belAt w (.tail _ (.tail _ (.head _))))) (hd.below (hS'.belAt w (.tail _ (.tail _ (.head _))))) (GX.below (hS'.belAt w (.tail _ (.tail _ (.head _))))) (GY.below (hS'.belAt w (.tail _ (.tail _ (.head _))))) (GD.below (hS'.belAt w (.tail _ (.tail _ (.head _)))))).mono ?_
      rintro e v ⟨rfl, b⟩
      exact hK _ _ rfl b (fun g hg => ((block_agg _) g hg).elim)
    · refine job_frame [] (by kernel_rfl) ?_
      show JobAt _ _ _ _ _ _ _
      exact job_alloc 27 (Iv .u8 (List.replicate 64 0)) _ _ rfl rfl rfl (fun W => by go_simp; rfl)
    · refine job_frame [] (by kernel_rfl) ?_
      show JobAt _ _ _ _ _ _ _
      exact job_alloc 27 (Iv .u8 (List.replicate 64 0)) _ _ rfl rfl rfl (fun W => by go_simp; rfl)
  · intro f W hS2 hB1 hR hF hA
    have e2 : f 2 = (.agg (Iv .u8 (Sg NF NS))) := hR ⟨2, 24⟩ (by simp)
    have e5 : f 5 = (.agg (Iv .u8 (Sg MF MS))) := hR ⟨5, 27⟩ (by simp)
    obtain ⟨g6r5, e6, A6⟩ : ∃ g, f 6 = .pointer (some ⟨g, 0, none⟩) ∧ Blk W g 27 (Iv .u8 (List.replicate 64 0)) := hR ⟨6, 9⟩ (by simp)
    have n6 : _ ≤ g6r5 := (hF ⟨6, 9⟩ (by simp) g6r5 (by show blockOf (f 6) = _; rw [e6]; rfl)).1
    have m6 : w.heap.size ≤ g6r5 := Nat.le_trans hB.size n6
    obtain ⟨g7r5, e7, A7⟩ : ∃ g, f 7 = .pointer (some ⟨g, 0, none⟩) ∧ Blk W g 27 (Iv .u8 (List.replicate 64 0)) := hR ⟨7, 10⟩ (by simp)
    have n7 : _ ≤ g7r5 := (hF ⟨7, 10⟩ (by simp) g7r5 (by show blockOf (f 7) = _; rw [e7]; rfl)).1
    have m7 : w.heap.size ≤ g7r5 := Nat.le_trans hB.size n7
    have d6_7 : g6r5 ≠ g7r5 := fun h => hA ⟨6, 9⟩ (by simp) ⟨7, 10⟩ (by simp) (by decide) g6r5 (by show blockOf (f 6) = _; rw [e6]; rfl) (by show blockOf (f 7) = _; rw [e7, h]; rfl)
    clear hA hF hR
    simp only [setAll, putAll, List.map_cons, List.map_nil, List.foldr_cons, List.foldr_nil, Act.put, List.setIfInBounds_toArray, List.set_cons_zero, List.set_cons_succ, e2, e5, e6, e7]
    clear e2 e5 e6 e7
    have hBs := hB1
    replace hB1 := below_setRow hB1 n6 (Iv .u8 (Sg NF NS))
    refine wpAnyZ_store_row 8 rfl (by kernel_rfl) rfl _ _ _ rfl g6r5 (Iv .u8 (Sg NF NS)) rfl rfl _ _ A6 (info_Sg _ _) (by simp only [Iv_size, keyOf_length, Sg_length, List.length_replicate]) (Iv_one _ _) (hS.below hB1) ?_
    try simp only [Act.put, List.setIfInBounds_toArray, List.set_cons_zero, List.set_cons_succ]
    replace A7 := A7.rowFar (Ne.symm d6_7) (Iv .u8 (Sg NF NS))
    replace A6 := A6.row (Iv .u8 (Sg NF NS))
    replace hB1 := below_setRow hB1 n7 (Iv .u8 (Sg MF MS))
    refine wpAnyZ_store_row 9 rfl (by kernel_rfl) rfl _ _ _ rfl g7r5 (Iv .u8 (Sg MF MS)) rfl rfl _ _ A7 (info_Sg _ _) (by simp only [Iv_size, keyOf_length, Sg_length, List.length_replicate]) (Iv_one _ _) (hS.below hB1) ?_
    try simp only [Act.put, List.setIfInBounds_toArray, List.set_cons_zero, List.set_cons_succ]
    replace A6 := A6.rowFar d6_7 (Iv .u8 (Sg MF MS))
    replace A7 := A7.row (Iv .u8 (Sg MF MS))
    refine wpAnyZ_done (by kernel_rfl) ?_ _
    have hS3 := hS.below hB1
    replace hB := hB.trans (hB1.mono hB.size)
    clear hS hS2 hB1 hBs
    have hS : Facts [.blk (g6r5) 27 (Iv .u8 (Sg NF NS)), .blk (g7r5) 27 (Iv .u8 (Sg MF MS)), .blk (w.heap.size) 23 (Iv .u8 (keyOf NA)), .blk (w.heap.size + 1) 23 (Iv .u8 (keyOf NB)), .bel w] _ := Facts.cons (f := .blk g6r5 27 (Iv .u8 (Sg NF NS))) A6 (Facts.cons (f := .blk g7r5 27 (Iv .u8 (Sg MF MS))) A7 (hS3))
    clear hS3
    try clear n6 n7
    clear A6 A7
    generalize hWn : World.setRow _ _ _ = Wn at *
    clear hWn
    go_upto_region 6 with fail
    refine wp_region_seq ?_
    refine wpSeq_yield (S := Facts [.blk (g6r5) 27 (Iv .u8 (Sg NF NS)), .blk (g7r5) 27 (Iv .u8 (Sg MF MS)), .blk (w.heap.size) 23 (Iv .u8 (keyOf NA)), .blk (w.heap.size + 1) 23 (Iv .u8 (keyOf NB)), .bel w]) (show YieldsIf _ _ _ _ (.agg (Iv .u8 (Sg NF NS))) _ from yieldsIf_load rfl 27 _ rfl (g6r5) rfl 27 _ _ (.head _) Tryd.underlying27 rfl (info_Sg _ _)) hS ?_
    simp only [Act.put, List.setIfInBounds_toArray, List.set_cons_zero, List.set_cons_succ]
    refine wpSeq_allocQ 27 (Iv .u8 (List.replicate 64 0)) rfl (fun W => by go_simp; rfl) ?_
    intro B1 C1 AB1 b mB1
    simp only [Act.put, List.setIfInBounds_toArray, List.set_cons_zero, List.set_cons_succ]
    have hb := b
    clear b
    refine wpSeq_store_row rfl 27 _ _ rfl (B1) (Iv .u8 (Sg NF NS)) rfl rfl _ _ AB1 (info_Sg _ _) (by simp only [Iv_size, keyOf_length, Sg_length, List.length_replicate]) (Iv_one _ _) ?_
    try simp only [Act.put, List.setIfInBounds_toArray, List.set_cons_zero, List.set_cons_succ]
    replace AB1 := AB1.row (Iv .u8 (Sg NF NS))
    replace hb := below_setRow hb mB1 (Iv .u8 (Sg NF NS))
    generalize hWn : World.setRow _ _ _ = Wn at *
    clear hWn
    have eB1_0 := Nat.lt_of_lt_of_le (hS.blkAt (g6r5) 27 (Iv .u8 (Sg NF NS)) (.head _)).lt mB1
    have eB1_1 := Nat.lt_of_lt_of_le (hS.blkAt (g7r5) 27 (Iv .u8 (Sg MF MS)) (.tail _ (.head _))).lt mB1
    replace mB1 := Nat.le_trans hB.size mB1
    replace hB := hB.trans (hb.mono hB.size)
    replace hS := hS.below hb
    clear hb
    replace hS : Facts [.blk (B1) 27 (Iv .u8 (Sg NF NS)), .blk (g6r5) 27 (Iv .u8 (Sg NF NS)), .blk (g7r5) 27 (Iv .u8 (Sg MF MS)), .blk (w.heap.size) 23 (Iv .u8 (keyOf NA)), .blk (w.heap.size + 1) 23 (Iv .u8 (keyOf NB)), .bel w] _ := Facts.cons (f := .blk B1 27 (Iv .u8 (Sg NF NS))) AB1 hS
    clear AB1
    refine wpSeq_nil ?_
    go_upto_region 7 with fail
    replace hS := hS.drew
    replace hB := below_drew hB
    refine wp_region_Z (S := Facts [.blk (B1) 27 (Iv .u8 (Sg NF NS)), .blk (g6r5) 27 (Iv .u8 (Sg NF NS)), .blk (g7r5) 27 (Iv .u8 (Sg MF MS)), .blk (w.heap.size) 23 (Iv .u8 (keyOf NA)), .blk (w.heap.size + 1) 23 (Iv .u8 (keyOf NB)), .bel w]) 2 (by kernel_rfl) ?_
    refine wpAnyZ_takeL 0 (v := (.slice (some ⟨B1, 32, none⟩) 32 32)) rfl (by kernel_rfl) (by kernel_rfl) (by kernel_rfl) (by kernel_rfl) (by kernel_rfl) (fun _ _ _ h => h) (Or.inl ⟨by rfl, ?_⟩) hS ?_
    · intro w' hw'
      go_simp
    simp only [Act.put, List.setIfInBounds_toArray, List.set_cons_zero, List.set_cons_succ]
    refine wpAnyZ_takeL 1 (v := (.slice (some ⟨g7r5, 32, none⟩) 32 32)) rfl (by kernel_rfl) (by kernel_rfl) (by kernel_rfl) (by kernel_rfl) (by kernel_rfl) (fun _ _ _ h => h) (Or.inl ⟨by rfl, ?_⟩) hS ?_
    · intro w' hw'
      go_simp
    simp only [Act.put, List.setIfInBounds_toArray, List.set_cons_zero, List.set_cons_succ]
    refine wpAnyZ_copy_end 2 rfl (by kernel_rfl) rfl _ _ _ _ rfl 5 Tryd.underlying24 (by kernel_rfl) (B1) 32 _ _ ⟨g7r5, 32, none⟩ _ _ rfl rfl _ _ (hS.blkAt (B1) 27 (Iv .u8 (Sg NF NS)) (.head _)) (kcs MS) (by rw [kcs_length]; rfl) (kcs_hi (hS.blkAt (g7r5) 27 (Iv .u8 (Sg MF MS)) (.tail _ (.tail _ (.head _))))) (by rw [kcs_length]; show _ ≤ (Iv .u8 _).size; rw [Iv_size]; first | (rw [Sg_length]; decide) | decide) (kcs_one MS) (Iv .u8 (Sg NF MS)) (copy_hi MS NF NS) (by kernel_rfl) (by kernel_rfl) ?_
    try simp only [Act.put, List.setIfInBounds_toArray, List.set_cons_zero, List.set_cons_succ]
    replace hB := below_setRow hB (g := B1) (by omega) (Iv .u8 (Sg NF MS))
    replace hS : Facts [.blk (B1) 27 (Iv .u8 (Sg NF MS)), .blk (g6r5) 27 (Iv .u8 (Sg NF NS)), .blk (g7r5) 27 (Iv .u8 (Sg MF MS)), .blk (w.heap.size) 23 (Iv .u8 (keyOf NA)), .blk (w.heap.size + 1) 23 (Iv .u8 (keyOf NB)), .bel w] _ := Facts.cons (f := .blk (B1) 27 (Iv .u8 (Sg NF MS))) ((hS.blkAt (B1) 27 (Iv .u8 (Sg NF NS)) (.head _)).row _) (Facts.cons (f := .blk (g6r5) 27 (Iv .u8 (Sg NF NS))) ((hS.blkAt (g6r5) 27 (Iv .u8 (Sg NF NS)) (.tail _ (.head _))).rowFar (k := B1) (by first | omega | exact blk_ne (hS.blkAt _ _ _ (.tail _ (.head _))) (hS.blkAt _ _ _ (.head _)) (by decide)) _) (Facts.cons (f := .blk (g7r5) 27 (Iv .u8 (Sg MF MS))) ((hS.blkAt (g7r5) 27 (Iv .u8 (Sg MF MS)) (.tail _ (.tail _ (.head _)))).rowFar (k := B1) (by first | omega | exact blk_ne (hS.blkAt _ _ _ (.tail _ (.tail _ (.head _)))) (hS.blkAt _ _ _ (.head _)) (by decide)) _) (Facts.cons (f := .blk (w.heap.size) 23 (Iv .u8 (keyOf NA))) ((hS.blkAt (w.heap.size) 23 (Iv .u8 (keyOf NA)) (.tail _ (.tail _ (.tail _ (.head _))))).rowFar (k := B1) (blk_ne (hS.blkAt _ _ _ (.tail _ (.tail _ (.tail _ (.head _))))) (hS.blkAt _ _ _ (.head _)) (by decide)) _) (Facts.cons (f := .blk (w.heap.size + 1) 23 (Iv .u8 (keyOf NB))) ((hS.blkAt (w.heap.size + 1) 23 (Iv .u8 (keyOf NB)) (.tail _ (.tail _ (.tail _ (.tail _ (.head _)))))).rowFar (k := B1) (blk_ne (hS.blkAt _ _ _ (.tail _ (.tail _ (.tail _ (.tail _ (.head _)))))) (hS.blkAt _ _ _ (.head _)) (by decide)) _) (Facts.cons (f := .bel w) (by first | exact hB | exact below_setRow hB (by omega) _) (Facts.nil))))))
    generalize hWn : World.setRow _ _ _ = Wn at *
    clear hWn
    go_upto_region 8 with fail
    replace hS := hS.drew
    replace hB := below_drew hB
    refine wp_region_Z (S := Facts [.blk (B1) 27 (Iv .u8 (Sg NF MS)), .blk (g6r5) 27 (Iv .u8 (Sg NF NS)), .blk (g7r5) 27 (Iv .u8 (Sg MF MS)), .blk (w.heap.size) 23 (Iv .u8 (keyOf NA)), .blk (w.heap.size + 1) 23 (Iv .u8 (keyOf NB)), .bel w]) 9 (by kernel_rfl) ?_
    refine wpAnyZ_takeL 0 rfl (by kernel_rfl) (by kernel_rfl) (by kernel_rfl) (by kernel_rfl) (by kernel_rfl) (fun _ _ _ h => h) (show YieldsIf _ _ _ _ (Key (keyOf NA)) _ from yieldsIf_load rfl 23 _ rfl (w.heap.size) rfl 23 _ _ (.tail _ (.tail _ (.tail _ (.head _)))) Tryd.underlying23 rfl (info_key _ (keyOf_length _))) hS ?_
    simp only [Act.put, List.setIfInBounds_toArray, List.set_cons_zero, List.set_cons_succ]
    refine wpAnyZ_takeL 2 rfl (by kernel_rfl) (by kernel_rfl) (by kernel_rfl) (by kernel_rfl) (by kernel_rfl) (fun _ _ _ h => h) (yieldsIf_move rfl _ rfl _ rfl) hS ?_
    simp only [Act.put, List.setIfInBounds_toArray, List.set_cons_zero, List.set_cons_succ]
    refine wpAnyZ_takeL 3 rfl (by kernel_rfl) (by kernel_rfl) (by kernel_rfl) (by kernel_rfl) (by kernel_rfl) (fun _ _ _ h => h) (show YieldsIf _ _ _ _ (.agg (Iv .u8 (Sg NF MS))) _ from yieldsIf_load rfl 27 _ rfl (B1) rfl 27 _ _ (.head _) Tryd.underlying27 rfl (info_Sg _ _)) hS ?_
    simp only [Act.put, List.setIfInBounds_toArray, List.set_cons_zero, List.set_cons_succ]
    refine wpAnyZ_takeL 5 rfl (by kernel_rfl) (by kernel_rfl) (by kernel_rfl) (by kernel_rfl) (by kernel_rfl) (fun _ _ _ h => h) (show YieldsIf _ _ _ _ (.agg (Iv .u8 (Sg NF MS))) _ from yieldsIf_load rfl 27 _ rfl (B1) rfl 27 _ _ (.head _) Tryd.underlying27 rfl (info_Sg _ _)) hS ?_
    simp only [Act.put, List.setIfInBounds_toArray, List.set_cons_zero, List.set_cons_succ]
    refine wpAnyZ_takeL 6 rfl (by kernel_rfl) (by kernel_rfl) (by kernel_rfl) (by kernel_rfl) (by kernel_rfl) (fun _ _ _ h => h) (show YieldsIf _ _ _ _ (.agg (Iv .u8 (Sg NF NS))) _ from yieldsIf_load rfl 27 _ rfl (g6r5) rfl 27 _ _ (.tail _ (.head _)) Tryd.underlying27 rfl (info_Sg _ _)) hS ?_
    simp only [Act.put, List.setIfInBounds_toArray, List.set_cons_zero, List.set_cons_succ]
    refine wpAnyZ_takeL 7 rfl (by kernel_rfl) (by kernel_rfl) (by kernel_rfl) (by kernel_rfl) (by kernel_rfl) (fun _ _ _ h => h) (yieldsIf_eqsg rfl _ _ rfl NF MS NF NS rfl rfl c HE.out) hS ?_
    simp only [Act.put, List.setIfInBounds_toArray, List.set_cons_zero, List.set_cons_succ]
    refine wpAnyZ_one (i := 1) (by kernel_rfl) ?_
    unfold wpOp
    go_simp
    left
    refine (public_n cu sq NA NU HNU.out _ (T.below (hS.belAt w (.tail _ (.tail _ (.tail _ (.tail _ (.tail _ (.head _)))))))) (SQ.below (hS.belAt w (.tail _ (.tail _ (.tail _ (.tail _ (.tail _ (.head _)))))))) (GX.below (hS.belAt w (.tail _ (.tail _ (.tail _ (.tail _ (.tail _ (.head _)))))))) (GY.below (hS.belAt w (.tail _ (.tail _ (.tail _ (.tail _ (.tail _ (.head _)))))))) (GD.below (hS.belAt w (.tail _ (.tail _ (.tail _ (.tail _ (.tail _ (.head _))))))))).mono ?_
    rintro e v2 ⟨rfl, b⟩
    replace hB := hB.trans (b.mono hB.size)
    replace hS := hS.below b
    clear b
    refine ⟨hS, ?_⟩
    refine wpAnyZ_one (i := 4) (by kernel_rfl) ?_
    unfold wpOp
    go_simp
    left
    refine (verify_n cu sq (.slice pb l.length cb) l bl ln NU NF MS (times ok (numN cu sq NA) bb) HNU.out.symm kNF kMS c HC.out _ (T.below (hS.belAt w (.tail _ (.tail _ (.tail _ (.tail _ (.tail _ (.head _)))))))) (SQ.below (hS.belAt w (.tail _ (.tail _ (.tail _ (.tail _ (.tail _ (.head _)))))))) (hb.below (hS.belAt w (.tail _ (.tail _ (.tail _ (.tail _ (.tail _ (.head _)))))))) (GX.below (hS.belAt w (.tail _ (.tail _ (.tail _ (.tail _ (.tail _ (.head _)))))))) (GY.below (hS.belAt w (.tail _ (.tail _ (.tail _ (.tail _ (.tail _ (.head _)))))))) (GD.below (hS.belAt w (.tail _ (.tail _ (.tail _ (.tail _ (.tail _ (.head _))))))))).mono ?_
    rintro e v3 ⟨rfl, b⟩
    replace hB := hB.trans (b.mono hB.size)
    replace hS := hS.below b
    clear b
    refine ⟨hS, ?_⟩
    refine wpAnyZ_takeL 8 rfl (by kernel_rfl) (by kernel_rfl) (by kernel_rfl) (by kernel_rfl) (by kernel_rfl) (fun _ _ _ h => h) (yieldsIf_eqlb rfl _ _ rfl c c rfl rfl true (beq_self_eq_true c)) hS ?_
    simp only [Act.put, List.setIfInBounds_toArray, List.set_cons_zero, List.set_cons_succ]
    refine wpAnyZ_one (i := 9) (by kernel_rfl) ?_
    unfold wpOp
    go_simp
    left
    refine wpAnyZ_done (by kernel_rfl) ?_ _
    go_wp2
    refine bodyPost_ret (results_tmp rfl _ _ _) ?_ ?_
    · rfl
    · exact ⟨rfl, hB⟩
set_option maxHeartbeats 8000000 in
set_option maxRecDepth 100000 in
theorem mixed_long1 (cu sq : Nat → Nat) (NA NB : Nat) (bv dv : Value) (l m : List Nat) (g1 : (200 : Int) < (l.length : Int)) (e0 : byteAt (pubN cu sq 0) 0 = 59) (e1 : byteAt (pubN cu sq 0) 1 = 106) (e2 : byteAt (pubN cu sq 0) 2 = 39) (e3 : byteAt (pubN cu sq 0) 3 = 188) (w : World) (T : Tab w cu) (SQ : Sq w sq) (hb : SB w bv l) (hd : SB w dv m) (GX : Rng w 3 (Iv .u8 (keyOf bxN))) (GY : Rng w 4 (Iv .u8 (keyOf byN))) (GD : Rng w 5 (Iv .u8 (keyOf dN))) :
    Calls Tryd.prog 4 #[Key (keyOf NA), Key (keyOf NB), bv, dv] w fun e w' => e = .returned (.bool true) ∧ Below w.heap.size w w' := by
  have bGX := GX.blk
  have bGY := GY.blk
  have bGD := GD.blk
  have ipbase := pbase_is
  have bT := T.blk
  have bSQ := SQ.blk
  obtain ⟨pb, cb, rfl, _⟩ := id hb
  obtain ⟨pd, cd, rfl, _⟩ := id hd
  unfold Key
  go_enter Tryd.func4, Tryd.ntmps4
  go_upto_region 1 with fail
  generalize hW : World.alloc (World.alloc w _) _ = W
  have hB : Below w.heap.size w W := hW ▸ ((Below.refl w.heap.size w).alloc (Nat.le_refl _) _).alloc (by simp) _
  have K0 : Blk W (w.heap.size) 23 (Iv .u8 (keyOf NA)) := hW ▸ ((Blk.new' (by simp) _ _).alloc _)
  have K1 : Blk W (w.heap.size + 1) 23 (Iv .u8 (keyOf NB)) := hW ▸ (Blk.new' (by simp) _ _)
  have hS : Facts [.blk (w.heap.size) 23 (Iv .u8 (keyOf NA)), .blk (w.heap.size + 1) 23 (Iv .u8 (keyOf NB)), .bel w] W := Facts.cons (f := .blk (w.heap.size) 23 (Iv .u8 (keyOf NA))) K0 (Facts.cons (f := .blk (w.heap.size + 1) 23 (Iv .u8 (keyOf NB))) K1 (Facts.cons (f := .bel w) hB Facts.nil))
  clear hW K0 K1
  refine wp_region_seq ?_
  refine wpSeq_wp rfl ?_
  go_simp
  refine (awake_n cu sq e0 e1 e2 e3 _ (T.below (hS.belAt w (.tail _ (.tail _ (.head _))))) (SQ.below (hS.belAt w (.tail _ (.tail _ (.head _))))) (GX.below (hS.belAt w (.tail _ (.tail _ (.head _))))) (GY.below (hS.belAt w (.tail _ (.tail _ (.head _))))) (GD.below (hS.belAt w (.tail _ (.tail _ (.head _)))))).mono ?_
  rintro e v1 ⟨rfl, b⟩
  replace hB := hB.trans (b.mono hB.size)
  replace hS := hS.below b
  clear b
  show wpSeq _ _ _ _ _ _
  refine wpSeq_yield (S := Facts [.blk (w.heap.size) 23 (Iv .u8 (keyOf NA)), .blk (w.heap.size + 1) 23 (Iv .u8 (keyOf NB)), .bel w]) (yieldsIf_not rfl _ _ rfl true rfl) hS ?_
  simp only [Act.put, List.setIfInBounds_toArray, List.set_cons_zero, List.set_cons_succ]
  refine wpSeq_nil ?_
  go_wp2_with fail
  exact bodyPost_ret (results_tmp rfl _ _ _) rfl ⟨rfl, hB⟩
set_option maxHeartbeats 8000000 in
set_option maxRecDepth 100000 in
theorem mixed_long2 (cu sq : Nat → Nat) (NA NB : Nat) (bv dv : Value) (l m : List Nat) (g1 : ¬ (200 : Int) < (l.length : Int)) (g2 : (200 : Int) < (m.length : Int)) (e0 : byteAt (pubN cu sq 0) 0 = 59) (e1 : byteAt (pubN cu sq 0) 1 = 106) (e2 : byteAt (pubN cu sq 0) 2 = 39) (e3 : byteAt (pubN cu sq 0) 3 = 188) (w : World) (T : Tab w cu) (SQ : Sq w sq) (hb : SB w bv l) (hd : SB w dv m) (GX : Rng w 3 (Iv .u8 (keyOf bxN))) (GY : Rng w 4 (Iv .u8 (keyOf byN))) (GD : Rng w 5 (Iv .u8 (keyOf dN))) :
    Calls Tryd.prog 4 #[Key (keyOf NA), Key (keyOf NB), bv, dv] w fun e w' => e = .returned (.bool true) ∧ Below w.heap.size w w' := by
  have bGX := GX.blk
  have bGY := GY.blk
  have bGD := GD.blk
  have ipbase := pbase_is
  have bT := T.blk
  have bSQ := SQ.blk
  obtain ⟨pb, cb, rfl, _⟩ := id hb
  obtain ⟨pd, cd, rfl, _⟩ := id hd
  unfold Key
  go_enter Tryd.func4, Tryd.ntmps4
  go_upto_region 1 with fail
  generalize hW : World.alloc (World.alloc w _) _ = W
  have hB : Below w.heap.size w W := hW ▸ ((Below.refl w.heap.size w).alloc (Nat.le_refl _) _).alloc (by simp) _
  have K0 : Blk W (w.heap.size) 23 (Iv .u8 (keyOf NA)) := hW ▸ ((Blk.new' (by simp) _ _).alloc _)
  have K1 : Blk W (w.heap.size + 1) 23 (Iv .u8 (keyOf NB)) := hW ▸ (Blk.new' (by simp) _ _)
  have hS : Facts [.blk (w.heap.size) 23 (Iv .u8 (keyOf NA)), .blk (w.heap.size + 1) 23 (Iv .u8 (keyOf NB)), .bel w] W := Facts.cons (f := .blk (w.heap.size) 23 (Iv .u8 (keyOf NA))) K0 (Facts.cons (f := .blk (w.heap.size + 1) 23 (Iv .u8 (keyOf NB))) K1 (Facts.cons (f := .bel w) hB Facts.nil))
  clear hW K0 K1
  refine wp_region_seq ?_
  refine wpSeq_wp rfl ?_
  go_simp
  refine (awake_n cu sq e0 e1 e2 e3 _ (T.below (hS.belAt w (.tail _ (.tail _ (.head _))))) (SQ.below (hS.belAt w (.tail _ (.tail _ (.head _))))) (GX.below (hS.belAt w (.tail _ (.tail _ (.head _))))) (GY.below (hS.belAt w (.tail _ (.tail _ (.head _))))) (GD.below (hS.belAt w (.tail _ (.tail _ (.head _)))))).mono ?_
  rintro e v1 ⟨rfl, b⟩
  replace hB := hB.trans (b.mono hB.size)
  replace hS := hS.below b
  clear b
  show wpSeq _ _ _ _ _ _
  refine wpSeq_yield (S := Facts [.blk (w.heap.size) 23 (Iv .u8 (keyOf NA)), .blk (w.heap.size + 1) 23 (Iv .u8 (keyOf NB)), .bel w]) (yieldsIf_not rfl _ _ rfl true rfl) hS ?_
  simp only [Act.put, List.setIfInBounds_toArray, List.set_cons_zero, List.set_cons_succ]
  refine wpSeq_nil ?_
  go_wp2_with fail
  exact bodyPost_ret (results_tmp rfl _ _ _) rfl ⟨rfl, hB⟩
theorem mixed_any (cu sq : Nat → Nat) (NA NB : Nat) (bv dv : Value) (l m : List Nat) (bl : Bytes l) (dl : Bytes m) (e0 : byteAt (pubN cu sq 0) 0 = 59) (e1 : byteAt (pubN cu sq 0) 1 = 106) (e2 : byteAt (pubN cu sq 0) 2 = 39) (e3 : byteAt (pubN cu sq 0) 3 = 188) (w : World) (T : Tab w cu) (SQ : Sq w sq) (hb : SB w bv l) (hd : SB w dv m) (GX : Rng w 3 (Iv .u8 (keyOf bxN))) (GY : Rng w 4 (Iv .u8 (keyOf byN))) (GD : Rng w 5 (Iv .u8 (keyOf dN))) :
    Calls Tryd.prog 4 #[Key (keyOf NA), Key (keyOf NB), bv, dv] w fun e w' => e = .returned (.bool true) ∧ Below w.heap.size w w' := by
  by_cases g1 : (200 : Int) < (l.length : Int)
  · exact mixed_long1 cu sq NA NB bv dv l m g1 e0 e1 e2 e3 w T SQ hb hd GX GY GD
  · by_cases g2 : (200 : Int) < (m.length : Int)
    · exact mixed_long2 cu sq NA NB bv dv l m g1 g2 e0 e1 e2 e3 w T SQ hb hd GX GY GD
    · exact mixed_n cu sq NA NB bv dv l m bl dl g1 g2 e0 e1 e2 e3 w T SQ hb hd GX GY GD
end Go.Proofs.YtmceebdaaegkeaaDoor
