/- The reference's Mac: its contract, whole. -/
import Derived.Test.YtdmhngkedgkndaaDoorKQm
namespace Go.Proofs.YtdmhngkedgkndaaDoor
open Go.RowKit
set_option maxHeartbeats 4000000 in
set_option maxRecDepth 100000 in
theorem rmac_any (w : World) (cu sq : Nat → Nat) (key m : List Nat) (bk : Bytes key) (bm : Bytes m) (kv bv : Value) (hk : SB w kv key) (hm : SB w bv m) (lk : key.length < 900000) (lm : m.length < 900000) (R : Ref w cu sq) :
    Calls Tryd.prog 13 #[kv, bv] w fun e w' => e = .returned (.agg (Iv .u8 (NI (hmac cu sq key m)))) ∧ Below w.heap.size w w' := by
  have hk' := hk
  have hm' := hm
  obtain ⟨pk, ck, rfl, _⟩ := hk'
  obtain ⟨pb, cb, rfl, _⟩ := hm'
  refine calls_enter2 47 Tryd.func13 rfl Tryd.ntmps13 (by decide) fun a h => ?_
  repeat refine wp_seq ?_
  refine wp_region_seq ?_
  refine seqW h 4 (.pointer (some ⟨w.heap.size, 0, none⟩)) (w.alloc (.cells (Iv .u8 (List.replicate 32 0)) 28)) rfl rfl rfl (fun K hK => by
    unfold Oper.wp execOp
    go_simp
    exact hK) ?_
  clear h
  intro a h
  have FB : Below w.heap.size w (w.alloc (.cells (Iv .u8 (List.replicate 32 0)) 28)) := (Below.refl _ _).alloc (Nat.le_refl _) _
  have RS := Blk.new w 28 (Iv .u8 (List.replicate 32 0))
  generalize World.alloc w _ = V at FB RS ⊢
  have RR := R.below FB
  replace hk := hk.below FB
  replace hm := hm.below FB
  refine wpSeq_nil ?_
  show Code.wp _ _ _ _ _
  repeat refine wp_seq ?_
  refine wp_region_seq ?_
  by_cases hgt : 64 < key.length
  · have l0 : (64 : Int) < (key.length : Int) := by omega
    have ek : keyPad cu sq key = padL (sha cu sq key) := by
      unfold keyPad padL
      rw [if_pos hgt]
    obtain ⟨K, hKK⟩ : ∃ K, K = sha cu sq key := ⟨_, rfl⟩
    have lK : K.length = 32 := by rw [hKK, sha_length]
    have bK : Bytes K := by rw [hKK]; exact sha_bytes _ _ _
    have hK : K.length ≤ 64 := by omega
    have CS := rsha_any V cu sq key bk (.slice pk key.length ck) hk (by omega) RR
    rw [← hKK] at CS ek
    clear hKK
    refine seqM h 11 0 rfl rfl rfl rfl rfl ?_
    clear h
    intro a h
    refine seqH h 12 (Value.int .i64 (key.length : Int)) rfl rfl (Or.inl ⟨rfl, fun w' hw' => by
        subst hw'
        have e11 : a.eval (.tmp 11) = _ := h.ev 11 rfl
        have f11 := h.at_ 11 rfl
        simp only [execOp]
        go_simp⟩) ?_
    clear h
    intro a h
    refine seqH h 13 (Value.bool true) rfl rfl (Or.inl ⟨rfl, fun w' hw' => by
        subst hw'
        have e12 : a.eval (.tmp 12) = _ := h.ev 12 rfl
        simp only [execOp, e12]
        go_simp⟩) ?_
    clear h
    intro a h
    refine wpSeq_nil ?_
    show Code.wp _ _ _ _ _
    refine wp_cond (t := true) (h.ev 13 rfl) ?_
    show Code.wp _ _ _ _ _
    repeat refine wp_seq ?_
    refine wp_region_seq ?_
    refine seqM h 14 0 rfl rfl rfl rfl rfl ?_
    clear h
    intro a h
    refine seqR h 15 rfl rfl rfl (fun v w' => v = .agg (Iv .u8 (NI K)) ∧ Below V.heap.size V w') (fun K hK => wp_call_v 11 _ _ _ Tryd.func11 (by kernel_rfl) (by kernel_rfl) rfl 15 rfl #[.slice pk key.length ck] (by simp [h.ev 14 rfl]) _ (CS.mono fun e w' h => ⟨_, h.1, rfl, h.2⟩) hK) ?_
    rintro _ w1 ⟨rfl, b1⟩
    clear h CS a
    intro a h
    refine seqW h 5 (.pointer (some ⟨w1.heap.size, 0, none⟩)) (w1.alloc (.cells (Iv .u8 (List.replicate 32 0)) 28)) rfl rfl rfl (fun K hK => by
      unfold Oper.wp execOp
      go_simp
      exact hK) ?_
    clear h
    intro a h
    have b2 := below_setRow ((Below.refl w1.heap.size w1).alloc (Nat.le_refl _) (.cells (Iv .u8 (List.replicate 32 0)) 28)) (Nat.le_refl w1.heap.size) (Iv .u8 (NI K))
    have A2 := BA.of_blk ((Blk.new w1 28 (Iv .u8 (List.replicate 32 0))).row (Iv .u8 (NI K)))
    refine seqS h 28 5 15 rfl rfl rfl w1.heap.size (Iv .u8 (NI K)) rfl rfl _ _ (Blk.new w1 28 (Iv .u8 (List.replicate 32 0))) (info_N32 _ lK) (by rw [Iv_size, Iv_size, NI_length, lK]; rfl) (Iv_one _ _) ?_
    have b3 := b1.trans (b2.mono b1.size)
    clear b1 b2
    generalize World.setRow _ _ _ = V2 at A2 b3 ⊢
    generalize w1.heap.size = gk at h A2
    replace RR := RR.below b3
    replace hm := hm.below b3
    replace RS := RS.below' b3
    replace FB := FB.trans (b3.mono FB.size)
    clear b3 hk
    have hk : SB V2 (.slice (some ⟨gk, 0, none⟩) K.length 32) K := SB.of_ba A2 (by omega)
    refine wpSeq_nil ?_
    show Code.wp _ _ _ _ _
    repeat refine wp_seq ?_
    refine wp_region_seq ?_
    refine seqH h 16 (Value.slice (some ⟨gk, 0, none⟩) K.length 32) rfl rfl (Or.inl ⟨rfl, fun w' hw' => by
        subst hw'
        have e5 : a.eval (.tmp 5) = _ := h.ev 5 rfl
        simp only [execOp, e5]
        go_simp⟩) ?_
    clear h
    intro a h
    refine seqA h 0 16 rfl rfl rfl rfl rfl ?_
    clear h
    intro a h
    refine wpSeq_nil ?_
    show Code.wp _ _ _ _ _
    repeat refine wp_seq ?_
    refine wp_region_seq ?_
    refine seqC h 6 rfl rfl rfl rfl ?_
    clear h
    intro a h
    refine seqC h 7 rfl rfl rfl rfl ?_
    clear h
    intro a h
    refine wpSeq_nil ?_
    show Code.wp _ _ _ _ _
    repeat refine wp_seq ?_
    refine wp_region_seq ?_
    refine seqC h 8 rfl rfl rfl rfl ?_
    clear h
    intro a h
    refine wpSeq_nil ?_
    show Code.wp _ _ _ _ _
    refine wp_block ?_
    refine macLoop_any V2 K bK hK (some ⟨gk, 0, none⟩) 32 (.slice pb m.length cb) w.heap.size hk a (h.trim _ ?_) ?_
    · intro p hp
      simp only [baseK, List.mem_cons, List.not_mem_nil, or_false] at hp
      rcases hp with rfl | rfl | rfl | rfl | rfl | rfl <;> rfl
    clear h a
    intro a w3 vi vo h F3
    show Code.wp _ _ _ _ _
    have e64 : (padL K).take 64 = padL K := List.take_of_length_le (by rw [padL_length _ hK]; exact Nat.le_refl _)
    have Oi := F3.i
    have Oo := F3.o
    rw [e64] at Oi Oo
    have lpd := padL_length K hK
    have bpd := padL_bytes bK
    have RR3 := RR.below F3.b
    have hm3 := hm.below F3.b
    have RS3 := RS.below' F3.b
    have FB3 := FB.trans (F3.b.mono FB.size)
    have sz3 := F3.b.size
    rw [← ek] at Oi Oo lpd bpd
    have ne3 := F3.ne
    obtain ⟨v4, w4, r4, O4, g4, o4⟩ := append_sb V2.heap.size w3 22 vi _ _ m Oi hm3 (by rw [xorL_length, lpd]; omega) sz3
    have B4 : Below V2.heap.size V2 w4 := below_grown' F3.b g4 (fun j hj => (Oi.lt j hj).1) sz3
    have Oo4 : OwL V2.heap.size w4 vo _ := Oo.of_block fun g hg => g4.block g (Oo.lt g hg).2 (fun e => ne3 g e.symm hg)
    clear F3 RR3 hm3 RS3 FB3
    repeat refine wp_seq ?_
    refine wp_region_seq ?_
    refine seqM h 39 6 rfl rfl rfl rfl rfl ?_
    clear h
    intro a h
    refine seqM h 40 1 rfl rfl rfl rfl rfl ?_
    clear h
    intro a h
    refine seqW h 41 v4 w4 rfl rfl rfl (fun K hK => wp_append_run _ _ _ _ rfl _ _ (h.ev 39 rfl) (h.ev 40 rfl) _ _ r4 hK) ?_
    clear h
    intro a h
    have RR4 := RR.below B4
    have CS := rsha_any w4 cu sq _ ((xorL_bytes (by decide) bpd).append bm) v4 O4.sb (by rw [List.length_append, xorL_length, lpd]; omega) RR4
    obtain ⟨I, hI⟩ : ∃ I, I = sha cu sq (xorL 54 (keyPad cu sq key) ++ m) := ⟨_, rfl⟩
    have lI : I.length = 32 := by rw [hI, sha_length]
    have bI : Bytes I := by rw [hI]; exact sha_bytes _ _ _
    rw [← hI] at CS
    refine seqR h 42 rfl rfl rfl (fun v w' => v = .agg (Iv .u8 (NI I)) ∧ Below w4.heap.size w4 w') (fun K hK => wp_call_v 11 _ _ _ Tryd.func11 (by kernel_rfl) (by kernel_rfl) rfl 42 rfl #[v4] (by simp [h.ev 41 rfl]) _ (CS.mono fun e w' h => ⟨_, h.1, rfl, h.2⟩) hK) ?_
    rintro _ w5 ⟨rfl, b5⟩
    clear h CS a
    intro a h
    have B5 := B4.trans (b5.mono B4.size)
    have Oo5 := Oo4.below b5
    refine seqW h 10 (.pointer (some ⟨w5.heap.size, 0, none⟩)) (w5.alloc (.cells (Iv .u8 (List.replicate 32 0)) 28)) rfl rfl rfl (fun K hK => by
      unfold Oper.wp execOp
      go_simp
      exact hK) ?_
    clear h
    intro a h
    have b6 := below_setRow ((Below.refl w5.heap.size w5).alloc (Nat.le_refl _) (.cells (Iv .u8 (List.replicate 32 0)) 28)) (Nat.le_refl w5.heap.size) (Iv .u8 (NI I))
    have A6 := BA.of_blk ((Blk.new w5 28 (Iv .u8 (List.replicate 32 0))).row (Iv .u8 (NI I)))
    refine seqS h 28 10 42 rfl rfl rfl w5.heap.size (Iv .u8 (NI I)) rfl rfl _ _ (Blk.new w5 28 (Iv .u8 (List.replicate 32 0))) (info_N32 _ lI) (by rw [Iv_size, Iv_size, NI_length, lI]; rfl) (Iv_one _ _) ?_
    have B6 := B5.trans (b6.mono B5.size)
    have Oo6 := Oo5.below b6
    generalize World.setRow _ _ _ = w6 at b6 A6 B6 Oo6 ⊢
    generalize w5.heap.size = gi at h A6
    clear b5 b6 B5 Oo5 B4 Oo4
    refine wpSeq_nil ?_
    show Code.wp _ _ _ _ _
    repeat refine wp_seq ?_
    refine wp_region_seq ?_
    have sz6 := B6.size
    obtain ⟨v7, w7, r7, O7, g7, o7⟩ := append_ba V2.heap.size w6 22 vo _ I Oo6 gi 0 32 A6 (by rw [xorL_length, lpd, lI]; decide) sz6
    rw [lI] at r7
    have B7 : Below V2.heap.size V2 w7 := below_grown' B6 g7 (fun j hj => (Oo6.lt j hj).1) sz6
    refine seqM h 43 7 rfl rfl rfl rfl rfl ?_
    clear h
    intro a h
    refine seqH h 44 (Value.slice (some ⟨gi, 0, none⟩) 32 32) rfl rfl (Or.inl ⟨rfl, fun w' hw' => by
        subst hw'
        have e10 : a.eval (.tmp 10) = _ := h.ev 10 rfl
        simp only [execOp, e10]
        go_simp⟩) ?_
    clear h
    intro a h
    refine seqW h 45 v7 w7 rfl rfl rfl (fun K hK => wp_append_run _ _ _ _ rfl _ _ (h.ev 43 rfl) (h.ev 44 rfl) _ _ r7 hK) ?_
    clear h
    intro a h
    have CS := rsha_any w7 cu sq _ ((xorL_bytes (by decide) bpd).append bI) v7 O7.sb (by rw [List.length_append, xorL_length, lpd, lI]; decide) (RR.below B7)
    obtain ⟨O, hO⟩ : ∃ O, O = sha cu sq (xorL 92 (keyPad cu sq key) ++ I) := ⟨_, rfl⟩
    have lO : O.length = 32 := by rw [hO, sha_length]
    rw [← hO] at CS
    have eO : O = hmac cu sq key m := by rw [hO, hI]; rfl
    refine seqR h 46 rfl rfl rfl (fun v w' => v = .agg (Iv .u8 (NI O)) ∧ Below w7.heap.size w7 w') (fun K hK => wp_call_v 11 _ _ _ Tryd.func11 (by kernel_rfl) (by kernel_rfl) rfl 46 rfl #[v7] (by simp [h.ev 45 rfl]) _ (CS.mono fun e w' h => ⟨_, h.1, rfl, h.2⟩) hK) ?_
    rintro _ w8 ⟨rfl, b8⟩
    clear h CS a
    intro a h
    have B8 := FB.trans ((B7.trans (b8.mono B7.size)).mono FB.size)
    have RS8 := (RS.below' B7).below' b8
    refine seqS h 28 4 46 rfl rfl rfl w.heap.size (Iv .u8 (NI O)) rfl rfl _ _ RS8 (info_N32 _ lO) (by rw [Iv_size, Iv_size, NI_length, lO]; rfl) (Iv_one _ _) ?_
    refine wpSeq_nil ?_
    show Code.wp _ _ _ _ _
    refine wp_ret ?_
    exact bodyPost_ret (results_cell_row rfl _ _ _ 28 _ (0, 0) _ (h.val 4 _ rfl) (RS8.row _) Tryd.underlying28 rfl (info_N32 _ lO)) h.defers ⟨by rw [eO], below_setRow B8 (Nat.le_refl _) _⟩
  · have l0 : ¬ ((64 : Int) < (key.length : Int)) := by omega
    have ek : keyPad cu sq key = padL key := by
      unfold keyPad padL
      rw [if_neg hgt]
    have hK : key.length ≤ 64 := by omega
    have bK := bk
    refine seqM h 11 0 rfl rfl rfl rfl rfl ?_
    clear h
    intro a h
    refine seqH h 12 (Value.int .i64 (key.length : Int)) rfl rfl (Or.inl ⟨rfl, fun w' hw' => by
        subst hw'
        have e11 : a.eval (.tmp 11) = _ := h.ev 11 rfl
        have f11 := h.at_ 11 rfl
        simp only [execOp]
        go_simp⟩) ?_
    clear h
    intro a h
    refine seqH h 13 (Value.bool false) rfl rfl (Or.inl ⟨rfl, fun w' hw' => by
        subst hw'
        have e12 : a.eval (.tmp 12) = _ := h.ev 12 rfl
        simp only [execOp, e12]
        go_simp⟩) ?_
    clear h
    intro a h
    refine wpSeq_nil ?_
    show Code.wp _ _ _ _ _
    refine wp_cond (t := false) (h.ev 13 rfl) ?_
    refine wp_skip ?_
    show Code.wp _ _ _ _ _
    repeat refine wp_seq ?_
    refine wp_region_seq ?_
    refine seqC h 6 rfl rfl rfl rfl ?_
    clear h
    intro a h
    refine seqC h 7 rfl rfl rfl rfl ?_
    clear h
    intro a h
    refine wpSeq_nil ?_
    show Code.wp _ _ _ _ _
    repeat refine wp_seq ?_
    refine wp_region_seq ?_
    refine seqC h 8 rfl rfl rfl rfl ?_
    clear h
    intro a h
    refine wpSeq_nil ?_
    show Code.wp _ _ _ _ _
    refine wp_block ?_
    refine macLoop_any V key bK hK pk ck (.slice pb m.length cb) w.heap.size hk a (h.trim _ ?_) ?_
    · intro p hp
      simp only [baseK, List.mem_cons, List.not_mem_nil, or_false] at hp
      rcases hp with rfl | rfl | rfl | rfl | rfl | rfl <;> rfl
    clear h a
    intro a w3 vi vo h F3
    show Code.wp _ _ _ _ _
    have e64 : (padL key).take 64 = padL key := List.take_of_length_le (by rw [padL_length _ hK]; exact Nat.le_refl _)
    have Oi := F3.i
    have Oo := F3.o
    rw [e64] at Oi Oo
    have lpd := padL_length key hK
    have bpd := padL_bytes bK
    have RR3 := RR.below F3.b
    have hm3 := hm.below F3.b
    have RS3 := RS.below' F3.b
    have FB3 := FB.trans (F3.b.mono FB.size)
    have sz3 := F3.b.size
    rw [← ek] at Oi Oo lpd bpd
    have ne3 := F3.ne
    obtain ⟨v4, w4, r4, O4, g4, o4⟩ := append_sb V.heap.size w3 22 vi _ _ m Oi hm3 (by rw [xorL_length, lpd]; omega) sz3
    have B4 : Below V.heap.size V w4 := below_grown' F3.b g4 (fun j hj => (Oi.lt j hj).1) sz3
    have Oo4 : OwL V.heap.size w4 vo _ := Oo.of_block fun g hg => g4.block g (Oo.lt g hg).2 (fun e => ne3 g e.symm hg)
    clear F3 RR3 hm3 RS3 FB3
    repeat refine wp_seq ?_
    refine wp_region_seq ?_
    refine seqM h 39 6 rfl rfl rfl rfl rfl ?_
    clear h
    intro a h
    refine seqM h 40 1 rfl rfl rfl rfl rfl ?_
    clear h
    intro a h
    refine seqW h 41 v4 w4 rfl rfl rfl (fun K hK => wp_append_run _ _ _ _ rfl _ _ (h.ev 39 rfl) (h.ev 40 rfl) _ _ r4 hK) ?_
    clear h
    intro a h
    have RR4 := RR.below B4
    have CS := rsha_any w4 cu sq _ ((xorL_bytes (by decide) bpd).append bm) v4 O4.sb (by rw [List.length_append, xorL_length, lpd]; omega) RR4
    obtain ⟨I, hI⟩ : ∃ I, I = sha cu sq (xorL 54 (keyPad cu sq key) ++ m) := ⟨_, rfl⟩
    have lI : I.length = 32 := by rw [hI, sha_length]
    have bI : Bytes I := by rw [hI]; exact sha_bytes _ _ _
    rw [← hI] at CS
    refine seqR h 42 rfl rfl rfl (fun v w' => v = .agg (Iv .u8 (NI I)) ∧ Below w4.heap.size w4 w') (fun K hK => wp_call_v 11 _ _ _ Tryd.func11 (by kernel_rfl) (by kernel_rfl) rfl 42 rfl #[v4] (by simp [h.ev 41 rfl]) _ (CS.mono fun e w' h => ⟨_, h.1, rfl, h.2⟩) hK) ?_
    rintro _ w5 ⟨rfl, b5⟩
    clear h CS a
    intro a h
    have B5 := B4.trans (b5.mono B4.size)
    have Oo5 := Oo4.below b5
    refine seqW h 10 (.pointer (some ⟨w5.heap.size, 0, none⟩)) (w5.alloc (.cells (Iv .u8 (List.replicate 32 0)) 28)) rfl rfl rfl (fun K hK => by
      unfold Oper.wp execOp
      go_simp
      exact hK) ?_
    clear h
    intro a h
    have b6 := below_setRow ((Below.refl w5.heap.size w5).alloc (Nat.le_refl _) (.cells (Iv .u8 (List.replicate 32 0)) 28)) (Nat.le_refl w5.heap.size) (Iv .u8 (NI I))
    have A6 := BA.of_blk ((Blk.new w5 28 (Iv .u8 (List.replicate 32 0))).row (Iv .u8 (NI I)))
    refine seqS h 28 10 42 rfl rfl rfl w5.heap.size (Iv .u8 (NI I)) rfl rfl _ _ (Blk.new w5 28 (Iv .u8 (List.replicate 32 0))) (info_N32 _ lI) (by rw [Iv_size, Iv_size, NI_length, lI]; rfl) (Iv_one _ _) ?_
    have B6 := B5.trans (b6.mono B5.size)
    have Oo6 := Oo5.below b6
    generalize World.setRow _ _ _ = w6 at b6 A6 B6 Oo6 ⊢
    generalize w5.heap.size = gi at h A6
    clear b5 b6 B5 Oo5 B4 Oo4
    refine wpSeq_nil ?_
    show Code.wp _ _ _ _ _
    repeat refine wp_seq ?_
    refine wp_region_seq ?_
    have sz6 := B6.size
    obtain ⟨v7, w7, r7, O7, g7, o7⟩ := append_ba V.heap.size w6 22 vo _ I Oo6 gi 0 32 A6 (by rw [xorL_length, lpd, lI]; decide) sz6
    rw [lI] at r7
    have B7 : Below V.heap.size V w7 := below_grown' B6 g7 (fun j hj => (Oo6.lt j hj).1) sz6
    refine seqM h 43 7 rfl rfl rfl rfl rfl ?_
    clear h
    intro a h
    refine seqH h 44 (Value.slice (some ⟨gi, 0, none⟩) 32 32) rfl rfl (Or.inl ⟨rfl, fun w' hw' => by
        subst hw'
        have e10 : a.eval (.tmp 10) = _ := h.ev 10 rfl
        simp only [execOp, e10]
        go_simp⟩) ?_
    clear h
    intro a h
    refine seqW h 45 v7 w7 rfl rfl rfl (fun K hK => wp_append_run _ _ _ _ rfl _ _ (h.ev 43 rfl) (h.ev 44 rfl) _ _ r7 hK) ?_
    clear h
    intro a h
    have CS := rsha_any w7 cu sq _ ((xorL_bytes (by decide) bpd).append bI) v7 O7.sb (by rw [List.length_append, xorL_length, lpd, lI]; decide) (RR.below B7)
    obtain ⟨O, hO⟩ : ∃ O, O = sha cu sq (xorL 92 (keyPad cu sq key) ++ I) := ⟨_, rfl⟩
    have lO : O.length = 32 := by rw [hO, sha_length]
    rw [← hO] at CS
    have eO : O = hmac cu sq key m := by rw [hO, hI]; rfl
    refine seqR h 46 rfl rfl rfl (fun v w' => v = .agg (Iv .u8 (NI O)) ∧ Below w7.heap.size w7 w') (fun K hK => wp_call_v 11 _ _ _ Tryd.func11 (by kernel_rfl) (by kernel_rfl) rfl 46 rfl #[v7] (by simp [h.ev 45 rfl]) _ (CS.mono fun e w' h => ⟨_, h.1, rfl, h.2⟩) hK) ?_
    rintro _ w8 ⟨rfl, b8⟩
    clear h CS a
    intro a h
    have B8 := FB.trans ((B7.trans (b8.mono B7.size)).mono FB.size)
    have RS8 := (RS.below' B7).below' b8
    refine seqS h 28 4 46 rfl rfl rfl w.heap.size (Iv .u8 (NI O)) rfl rfl _ _ RS8 (info_N32 _ lO) (by rw [Iv_size, Iv_size, NI_length, lO]; rfl) (Iv_one _ _) ?_
    refine wpSeq_nil ?_
    show Code.wp _ _ _ _ _
    refine wp_ret ?_
    exact bodyPost_ret (results_cell_row rfl _ _ _ 28 _ (0, 0) _ (h.val 4 _ rfl) (RS8.row _) Tryd.underlying28 rfl (info_N32 _ lO)) h.defers ⟨by rw [eO], below_setRow B8 (Nat.le_refl _) _⟩
end Go.Proofs.YtdmhngkedgkndaaDoor
