/- The law GcmLonger, by contract of Seal (printed by genve.py). -/
import Derived.Test.YteaddadmdjjfaaaVd
namespace Go.Proofs.Yteaddadmdjjfaaa
open Go.RowKit

/-- Bytes appended to a row of one's own: what else stands. -/
theorem append_keeps (B : Nat) (w : World) (ty : TypeId) (v x u : Value) (l m k : List Nat) (hv : OwL B w v l) (hx : SB w x m) (hu : OwL B w u k) (hn : ∀ g, u.ownBlock = some g → v.ownBlock ≠ some g) (hlm : l.length + m.length ≤ 70368744177664) (hB : B ≤ w.heap.size) :
    ∃ v' w', (Builtin.append_ #[24, 24] ty #[v, x]).run Try.prog w = .ok v' w' ∧ OwL B w' v' (l ++ m) ∧ OwL B w' u k ∧ (∀ g, u.ownBlock = some g → v'.ownBlock ≠ some g) ∧ Below B w w' := by
  obtain ⟨v', w', hr, ho, hg, hb⟩ := append_sb B w ty v x l m hv hx hlm hB
  refine ⟨v', w', hr, ho, hu.of_block fun g e => hg.block g (hu.lt g e).2 (fun h => hn g e h.symm), fun g e => ?_, below_grown' (Below.refl _ _) hg (fun j hj => (hv.lt j hj).1) hB⟩
  rcases hb with hb | hb
  · rw [hb]; exact hn g e
  · rw [hb]
    intro h
    have := (hu.lt g e).2
    have h' : w.heap.size = g := Option.some.inj h
    omega
theorem SB.of_head {w : World} {p : Option Addr} {n c : Nat} {l : List Nat} (h : SB w (.slice p n c) l) (k : Nat) (hk : k ≤ n) : SB w (.slice p k c) (l.take k) := h.head k hk
theorem SKsz {w0 w : World} {K NN : List Nat} (h : SK w0 K NN w) : w0.heap.size + 2 ≤ w.heap.size := by have := h.n.lt; omega
theorem wpOp_of {P : Program} {ops : Array Oper} {Q : Exit → Act → World → Prop} {K : Act → World → Prop} (i : Nat) {oi : Oper} {a : Act} {w : World} (hi : ops.toList[i]? = some oi) (hgd : oi.guard = none) (h : oi.wp P a w K Q) : wpOp P ops Q i K a w := by
  unfold wpOp
  rw [← Array.getElem?_toList, hi]
  have hwd : Region.wanted oi (yielded ops a.tmps) = true := by simp [Region.wanted, hgd]
  simp only [hwd, if_true]
  left
  exact h
set_option maxHeartbeats 8000000 in
set_option maxRecDepth 100000 in
theorem longer_c (CS : SealC) (K NN a b : List Nat) (lK : K.length = 16) (lN : NN.length = 12) (bK : ∀ x ∈ K, x < 256) (bN : ∀ x ∈ NN, x < 256) (ba : ∀ x ∈ a, x < 256) (bb : ∀ x ∈ b, x < 256)
    (pa pb : Option Addr) (na nb ca cb : Nat) (w : World) (ha : SB w (.slice pa na ca) a) (hb : SB w (.slice pb nb cb) b) :
    Calls Try.prog 8 #[.agg (Iv .u8 (NI K)), .agg (Iv .u8 (NI NN)), .slice pa na ca, .slice pb nb cb] w fun e w' => e = .returned (.bool true) ∧ Below w.heap.size w w' := by
  have AW := Lib.hid (gawake_c CS)
  have ea := ha.len
  have eb := hb.len
  have EA := Lib.hid ea
  have EB := Lib.hid eb
  clear ea eb
  go_enter Try.func8, Try.ntmps8
  go_wp2_with fail
  refine (AW.out _).mono ?_
  rintro _ w1 ⟨rfl, b1⟩
  have k1 := ((Below.refl w.heap.size w).alloc (Nat.le_refl _) (.cells (Iv .u8 (NI K)) 22)).alloc (by simp) (.cells (Iv .u8 (NI NN)) 23)
  have M : SK w K NN w1 := SK.below ⟨(Blk.new w 22 (Iv .u8 (NI K))).alloc _, Blk.new' (by simp) _ (Iv .u8 (NI NN)), k1⟩ b1
  clear AW b1 k1
  by_cases g1 : 100 < na
  · have g2 : (100 : Int) < (na : Int) := by omega
    go_wp2
    go_ret
    exact ⟨rfl, M.bel⟩
  · have g2 : ¬ (100 : Int) < (na : Int) := by omega
    by_cases g3 : 100 < nb
    · have g4 : (100 : Int) < (nb : Int) := by omega
      go_wp2
      go_ret
      exact ⟨rfl, M.bel⟩
    · have g4 : ¬ (100 : Int) < (nb : Int) := by omega
      obtain ⟨S1, h1⟩ : ∃ S, S = sealL K NN b a := ⟨_, rfl⟩
      obtain ⟨S2, h2⟩ : ∃ S, S = sealL K NN [] (a ++ b) := ⟨_, rfl⟩
      have l1 : S1.length = na + 16 := by rw [h1, sealL_length, EA.out.1]
      have l2 : S2.length = na + nb + 16 := by rw [h2, sealL_length, List.length_append, EA.out.1, EB.out.1]
      have tk : S1.take na = S2.take na := by
        have := seal_take K NN b [] a b
        rw [h1, h2, EA.out.1]
        exact this
      have C1 := Lib.hid (fun W h h' => CS K NN b a S1 pb pa nb na cb ca lK lN bK bN bb ba (by omega) (by omega) h1 W h h')
      have C2 := Lib.hid (fun p c W h h' => CS K NN [] (a ++ b) S2 none p 0 (na + nb) 0 c lK lN bK bN (fun _ h => by cases h) (Bytes.append ba bb) (by omega) (by omega) h2 W h h')
      have TK := Lib.hid tk
      have L1 := Lib.hid l1
      have L2 := Lib.hid l2
      have G1 := Lib.hid g1
      have G3 := Lib.hid g3
      clear h1 h2 tk l1 l2 g1 g3
      go_upto_region 5 with fail
      clear g2 g4
      rename_i aK
      refine wp_region_Z (S := SK w K NN) 14 (by kernel_rfl) ?_
      replace M := M.drew
      generalize World.drew _ = V at M ⊢
      have hS := M
      refine wpAnyZ_takeL 0 rfl (by kernel_rfl) (by kernel_rfl) (by kernel_rfl) (by kernel_rfl) (by kernel_rfl) (fun _ _ _ h => h) ((show YieldsIf _ _ _ _ (Value.agg (Iv .u8 (NI K))) _ from yieldsIf_row_wanted rfl 22 _ rfl (w.heap.size) rfl 22 _ _ (fun _ h => h.k) Try.underlying22 rfl (info_n _ lK))) hS ?_
      simp only [Act.put, List.setIfInBounds_toArray, List.set_cons_zero, List.set_cons_succ]
      refine wpAnyZ_takeL 1 rfl (by kernel_rfl) (by kernel_rfl) (by kernel_rfl) (by kernel_rfl) (by kernel_rfl) (fun _ _ _ h => h) ((show YieldsIf _ _ _ _ (Value.agg (Iv .u8 (NI NN))) _ from yieldsIf_row_wanted rfl 23 _ rfl (w.heap.size + 1) rfl 23 _ _ (fun _ h => h.n) Try.underlying23 rfl (info_12 _ lN))) hS ?_
      simp only [Act.put, List.setIfInBounds_toArray, List.set_cons_zero, List.set_cons_succ]
      refine wpAnyZ_takeL 2 rfl (by kernel_rfl) (by kernel_rfl) (by kernel_rfl) (by kernel_rfl) (by kernel_rfl) (fun _ _ _ h => h) (yieldsIf_move rfl _ rfl (.slice pb nb cb) rfl) hS ?_
      simp only [Act.put, List.setIfInBounds_toArray, List.set_cons_zero, List.set_cons_succ]
      refine wpAnyZ_takeL 3 rfl (by kernel_rfl) (by kernel_rfl) (by kernel_rfl) (by kernel_rfl) (by kernel_rfl) (fun _ _ _ h => h) (yieldsIf_move rfl _ rfl (.slice pa na ca) rfl) hS ?_
      simp only [Act.put, List.setIfInBounds_toArray, List.set_cons_zero, List.set_cons_succ]
      refine wpAnyZ_takeL 5 rfl (by kernel_rfl) (by kernel_rfl) (by kernel_rfl) (by kernel_rfl) (by kernel_rfl) (fun _ _ _ h => h) ((show YieldsIf _ _ _ _ (Value.agg (Iv .u8 (NI K))) _ from yieldsIf_row_wanted rfl 22 _ rfl (w.heap.size) rfl 22 _ _ (fun _ h => h.k) Try.underlying22 rfl (info_n _ lK))) hS ?_
      simp only [Act.put, List.setIfInBounds_toArray, List.set_cons_zero, List.set_cons_succ]
      refine wpAnyZ_takeL 6 rfl (by kernel_rfl) (by kernel_rfl) (by kernel_rfl) (by kernel_rfl) (by kernel_rfl) (fun _ _ _ h => h) ((show YieldsIf _ _ _ _ (Value.agg (Iv .u8 (NI NN))) _ from yieldsIf_row_wanted rfl 23 _ rfl (w.heap.size + 1) rfl 23 _ _ (fun _ h => h.n) Try.underlying23 rfl (info_12 _ lN))) hS ?_
      simp only [Act.put, List.setIfInBounds_toArray, List.set_cons_zero, List.set_cons_succ]
      refine wpAnyZ_takeL 8 rfl (by kernel_rfl) (by kernel_rfl) (by kernel_rfl) (by kernel_rfl) (by kernel_rfl) (fun _ _ _ h => h) (yieldsIf_move rfl _ rfl (.slice pa na ca) rfl) hS ?_
      simp only [Act.put, List.setIfInBounds_toArray, List.set_cons_zero, List.set_cons_succ]
      refine wpAnyZ_takeL 10 rfl (by kernel_rfl) (by kernel_rfl) (by kernel_rfl) (by kernel_rfl) (by kernel_rfl) (fun _ _ _ h => h) (yieldsIf_move rfl _ rfl (.slice pb nb cb) rfl) hS ?_
      simp only [Act.put, List.setIfInBounds_toArray, List.set_cons_zero, List.set_cons_succ]
      refine wpAnyZ_two (i := 4) (j := 7) (by kernel_rfl) ?_ ?_
      · refine wpOp_of 4 rfl rfl ?_
        unfold Oper.wp execOp
        go_simp
        refine (C1.out _ (hb.below M.bel) (ha.below M.bel)).mono ?_
        rintro _ w4 ⟨v1, rfl, O1, bw⟩
        have O1 := O1.mono (show w.heap.size + 2 ≤ _ from SKsz M)
        replace M := M.below bw
        clear hS bw C1
        refine ⟨M, ?_⟩
        have hS := M
        have O0 := ow_none (w.heap.size + 2) w4 (SKsz M)
        have N1 : ∀ g, v1.ownBlock = some g → (Value.slice (some ⟨w4.heap.size, 0, none⟩) 0 0).ownBlock ≠ some g := fun g hg h => by have := (O1.lt g hg).2; have h' : w4.heap.size = g := Option.some.inj h; omega
        have bw : Below w4.heap.size w4 (w4.alloc (.cells #[] 5)) := (Below.refl _ _).alloc (Nat.le_refl _) _
        refine zstep 7 rfl rfl (by kernel_rfl) ?_
        refine wp_build_run _ rfl _ _ (run_buildSlice_none _) ?_
        replace O1 := O1.below bw
        replace M := M.below bw
        clear hS bw
        refine ⟨fun _ => M, ?_⟩
        have hS := M
        have lz : ([] : List Nat).length + a.length ≤ 70368744177664 := by have := EA.out.1; have := G1.out; simp only [List.length_nil]; omega
        obtain ⟨v5, w5, r5, O5, O1', N5, B5⟩ := append_keeps (w.heap.size + 2) _ 24 _ _ v1 [] a S1 O0 (ha.below M.bel) O1 N1 lz (SKsz M)
        refine zstep 9 rfl rfl (by kernel_rfl) ?_
        refine wp_append_run _ _ _ _ rfl _ _ rfl rfl _ _ r5 ?_
        replace M := M.under B5 (Nat.le_refl _)
        rw [List.nil_append] at O5
        clear hS r5 B5 O0 O1 N1 lz
        refine ⟨fun _ => M, ?_⟩
        have hS := M
        have lz : a.length + b.length ≤ 70368744177664 := by have := EA.out.1; have := EB.out.1; have := G1.out; have := G3.out; omega
        obtain ⟨v6, w6, r6, O6, O1, N6, B6⟩ := append_keeps (w.heap.size + 2) _ 24 _ _ v1 a b S1 O5 (hb.below M.bel) O1' N5 lz (SKsz M)
        refine zstep 11 rfl rfl (by kernel_rfl) ?_
        refine wp_append_run _ _ _ _ rfl _ _ rfl rfl _ _ r6 ?_
        replace M := M.under B6 (Nat.le_refl _)
        clear hS r6 B6 O5 O1' N5 N6 lz
        refine ⟨fun _ => M, ?_⟩
        have hS := M
        obtain ⟨p6, c6, hv6⟩ := O6.shape
        have e6 : (a ++ b).length = na + nb := by rw [List.length_append, EA.out.1, EB.out.1]
        rw [e6] at hv6
        subst hv6
        have s6 := O6.sb
        have s1 := O1.sb
        obtain ⟨p1, c1, hv1⟩ := O1.shape
        rw [L1.out] at hv1
        subst hv1
        clear O6 O1 e6
        refine zstep 12 rfl rfl (by kernel_rfl) ?_
        unfold Oper.wp execOp
        go_simp
        refine (C2.out p6 c6 _ (SB.nil _ _ _) s6).mono ?_
        rintro _ w7 ⟨v2, rfl, O2, bw⟩
        replace M := M.below bw
        replace s1 := s1.below bw
        have s2 := O2.sb
        obtain ⟨p2, c2, hv2⟩ := O2.shape
        rw [L2.out] at hv2
        subst hv2
        clear hS bw C2 O2 s6
        refine ⟨M, ?_⟩
        have hS := M
        refine zstep 13 rfl rfl (by kernel_rfl) ?_
        unfold Oper.wp execOp
        go_simp
        refine zstep 14 rfl rfl (by kernel_rfl) ?_
        unfold Oper.wp execOp
        go_simp
        refine wpAnyZ_done (by kernel_rfl) ?_ _
        refine aK _ _ ?_
        clear aK hS
        go_upto_region 6 with fail
        rename_i aK
        refine wp_region_Z (S := fun w' => SB w' (.slice p1 (na + 16) c1) S1 ∧ SB w' (.slice p2 (na + nb + 16) c2) S2) 21 (by kernel_rfl) ?_
        replace M := M.drew
        replace s1 := s1.drew
        replace s2 := s2.drew
        generalize World.drew _ = V6 at M s1 s2 ⊢
        have hS : SB V6 (.slice p1 (na + 16) c1) S1 ∧ SB V6 (.slice p2 (na + nb + 16) c2) S2 := ⟨s1, s2⟩
        have e1 := s1.len.2
        have e2 := s2.len.2
        rw [L1.out] at e1
        rw [L2.out] at e2
        have z1 : na ≤ c1 := by omega
        have z2 : na ≤ c2 := by omega
        have w9 : wrap64 ((na : Int) + (nb : Int)) = (na : Int) + (nb : Int) := by unfold wrap64; have := G1.out; have := G3.out; omega
        clear e1 e2
        refine wpAnyZ_takeL 0 rfl (by kernel_rfl) (by kernel_rfl) (by kernel_rfl) (by kernel_rfl) (by kernel_rfl) (fun _ _ _ h => h) (yieldsIf_move rfl _ rfl (.slice p1 (na + 16) c1) rfl) hS ?_
        simp only [Act.put, List.setIfInBounds_toArray, List.set_cons_zero, List.set_cons_succ]
        refine wpAnyZ_takeL 1 rfl (by kernel_rfl) (by kernel_rfl) (by kernel_rfl) (by kernel_rfl) (by kernel_rfl) (fun _ _ _ h => h) (yieldsIf_move rfl _ rfl (.slice pa na ca) rfl) hS ?_
        simp only [Act.put, List.setIfInBounds_toArray, List.set_cons_zero, List.set_cons_succ]
        refine wpAnyZ_takeL 2 (v := (.int .i64 (na : Int))) rfl (by kernel_rfl) (by kernel_rfl) (by kernel_rfl) (by kernel_rfl) (by kernel_rfl) (fun _ _ _ h => h) (Or.inl ⟨by rfl, ?_⟩) hS ?_
        · intro w' hw'
          go_simp
        simp only [Act.put, List.setIfInBounds_toArray, List.set_cons_zero, List.set_cons_succ]
        refine wpAnyZ_takeL 3 rfl (by kernel_rfl) (by kernel_rfl) (by kernel_rfl) (by kernel_rfl) (by kernel_rfl) (fun _ _ _ h => h) (yieldsIf_head rfl _ _ rfl p1 (na + 16) c1 na rfl rfl z1) hS ?_
        simp only [Act.put, List.setIfInBounds_toArray, List.set_cons_zero, List.set_cons_succ]
        refine wpAnyZ_takeL 4 rfl (by kernel_rfl) (by kernel_rfl) (by kernel_rfl) (by kernel_rfl) (by kernel_rfl) (fun _ _ _ h => h) (yieldsIf_conv rfl _ rfl (.slice p1 na c1) rfl (S1.take na) (fun w' h => h.1.head na (by omega))) hS ?_
        simp only [Act.put, List.setIfInBounds_toArray, List.set_cons_zero, List.set_cons_succ]
        refine wpAnyZ_takeL 5 rfl (by kernel_rfl) (by kernel_rfl) (by kernel_rfl) (by kernel_rfl) (by kernel_rfl) (fun _ _ _ h => h) (yieldsIf_move rfl _ rfl (.slice p2 (na + nb + 16) c2) rfl) hS ?_
        simp only [Act.put, List.setIfInBounds_toArray, List.set_cons_zero, List.set_cons_succ]
        refine wpAnyZ_takeL 6 rfl (by kernel_rfl) (by kernel_rfl) (by kernel_rfl) (by kernel_rfl) (by kernel_rfl) (fun _ _ _ h => h) (yieldsIf_move rfl _ rfl (.slice pa na ca) rfl) hS ?_
        simp only [Act.put, List.setIfInBounds_toArray, List.set_cons_zero, List.set_cons_succ]
        refine wpAnyZ_takeL 7 (v := (.int .i64 (na : Int))) rfl (by kernel_rfl) (by kernel_rfl) (by kernel_rfl) (by kernel_rfl) (by kernel_rfl) (fun _ _ _ h => h) (Or.inl ⟨by rfl, ?_⟩) hS ?_
        · intro w' hw'
          go_simp
        simp only [Act.put, List.setIfInBounds_toArray, List.set_cons_zero, List.set_cons_succ]
        refine wpAnyZ_takeL 8 rfl (by kernel_rfl) (by kernel_rfl) (by kernel_rfl) (by kernel_rfl) (by kernel_rfl) (fun _ _ _ h => h) (yieldsIf_head rfl _ _ rfl p2 (na + nb + 16) c2 na rfl rfl z2) hS ?_
        simp only [Act.put, List.setIfInBounds_toArray, List.set_cons_zero, List.set_cons_succ]
        refine wpAnyZ_takeL 9 rfl (by kernel_rfl) (by kernel_rfl) (by kernel_rfl) (by kernel_rfl) (by kernel_rfl) (fun _ _ _ h => h) (yieldsIf_conv rfl _ rfl (.slice p2 na c2) rfl (S2.take na) (fun w' h => h.2.head na (by omega))) hS ?_
        simp only [Act.put, List.setIfInBounds_toArray, List.set_cons_zero, List.set_cons_succ]
        refine wpAnyZ_takeL 10 rfl (by kernel_rfl) (by kernel_rfl) (by kernel_rfl) (by kernel_rfl) (by kernel_rfl) (fun _ _ _ h => h) (yieldsIf_strB rfl _ _ rfl (S1.take na) (S2.take na) rfl rfl TK.out) hS ?_
        simp only [Act.put, List.setIfInBounds_toArray, List.set_cons_zero, List.set_cons_succ]
        refine wpAnyZ_takeL 11 rfl (by kernel_rfl) (by kernel_rfl) (by kernel_rfl) (by kernel_rfl) (by kernel_rfl) (fun _ _ _ h => h) (yieldsIf_move rfl _ rfl (.bool true) rfl) hS ?_
        simp only [Act.put, List.setIfInBounds_toArray, List.set_cons_zero, List.set_cons_succ]
        refine wpAnyZ_takeL 12 rfl (by kernel_rfl) (by kernel_rfl) (by kernel_rfl) (by kernel_rfl) (by kernel_rfl) (fun _ _ _ h => h) (yieldsIf_move rfl _ rfl (.slice p2 (na + nb + 16) c2) rfl) hS ?_
        simp only [Act.put, List.setIfInBounds_toArray, List.set_cons_zero, List.set_cons_succ]
        refine wpAnyZ_takeL 13 (v := (.int .i64 ((na + nb + 16 : Nat) : Int))) rfl (by kernel_rfl) (by kernel_rfl) (by kernel_rfl) (by kernel_rfl) (by kernel_rfl) (fun _ _ _ h => h) (Or.inl ⟨by rfl, ?_⟩) hS ?_
        · intro w' hw'
          go_simp
        simp only [Act.put, List.setIfInBounds_toArray, List.set_cons_zero, List.set_cons_succ]
        refine wpAnyZ_takeL 14 rfl (by kernel_rfl) (by kernel_rfl) (by kernel_rfl) (by kernel_rfl) (by kernel_rfl) (fun _ _ _ h => h) (yieldsIf_move rfl _ rfl (.slice p1 (na + 16) c1) rfl) hS ?_
        simp only [Act.put, List.setIfInBounds_toArray, List.set_cons_zero, List.set_cons_succ]
        refine wpAnyZ_takeL 15 (v := (.int .i64 ((na + 16 : Nat) : Int))) rfl (by kernel_rfl) (by kernel_rfl) (by kernel_rfl) (by kernel_rfl) (by kernel_rfl) (fun _ _ _ h => h) (Or.inl ⟨by rfl, ?_⟩) hS ?_
        · intro w' hw'
          go_simp
        simp only [Act.put, List.setIfInBounds_toArray, List.set_cons_zero, List.set_cons_succ]
        refine wpAnyZ_takeL 16 rfl (by kernel_rfl) (by kernel_rfl) (by kernel_rfl) (by kernel_rfl) (by kernel_rfl) (fun _ _ _ h => h) (yieldsIf_move rfl _ rfl (.slice pb nb cb) rfl) hS ?_
        simp only [Act.put, List.setIfInBounds_toArray, List.set_cons_zero, List.set_cons_succ]
        refine wpAnyZ_takeL 17 (v := (.int .i64 (nb : Int))) rfl (by kernel_rfl) (by kernel_rfl) (by kernel_rfl) (by kernel_rfl) (by kernel_rfl) (fun _ _ _ h => h) (Or.inl ⟨by rfl, ?_⟩) hS ?_
        · intro w' hw'
          go_simp
        simp only [Act.put, List.setIfInBounds_toArray, List.set_cons_zero, List.set_cons_succ]
        refine wpAnyZ_takeL 18 (v := (.int .i64 ((na + nb + 16 : Nat) : Int))) rfl (by kernel_rfl) (by kernel_rfl) (by kernel_rfl) (by kernel_rfl) (by kernel_rfl) (fun _ _ _ h => h) (Or.inl ⟨by rfl, ?_⟩) hS ?_
        · intro w' hw'
          have w8 : IntKind.i64.wrap (((na + 16 : Nat) : Int) + (nb : Int)) = ((na + nb + 16 : Nat) : Int) := by rw [IntKind.wrap_i64]; have := G1.out; have := G3.out; omega
          have w7 : wrap64 (((na + 16 : Nat) : Int) + (nb : Int)) = ((na + nb + 16 : Nat) : Int) := by unfold wrap64; have := G1.out; have := G3.out; omega
          have w6 : IntKind.i64.wrap ((na : Int) + 16 + (nb : Int)) = (na : Int) + (nb : Int) + 16 := by rw [IntKind.wrap_i64]; have := G1.out; have := G3.out; omega
          go_simp
        simp only [Act.put, List.setIfInBounds_toArray, List.set_cons_zero, List.set_cons_succ]
        refine wpAnyZ_takeL 19 (v := (.bool true)) rfl (by kernel_rfl) (by kernel_rfl) (by kernel_rfl) (by kernel_rfl) (by kernel_rfl) (fun _ _ _ h => h) (Or.inl ⟨by rfl, ?_⟩) hS ?_
        · intro w' hw'
          go_simp
        simp only [Act.put, List.setIfInBounds_toArray, List.set_cons_zero, List.set_cons_succ]
        refine wpAnyZ_takeL 20 rfl (by kernel_rfl) (by kernel_rfl) (by kernel_rfl) (by kernel_rfl) (by kernel_rfl) (fun _ _ _ h => h) (yieldsIf_pick rfl _ _ _ rfl true rfl (.bool true) rfl) hS ?_
        simp only [Act.put, List.setIfInBounds_toArray, List.set_cons_zero, List.set_cons_succ]
        refine zstep 21 rfl rfl (by kernel_rfl) ?_
        unfold Oper.wp execOp
        go_simp
        refine wpAnyZ_done (by kernel_rfl) ?_ _
        refine aK _ _ ?_
        have BE := M.bel
        clear aK hS M s1 s2 w9 z1 z2
        go_wp2
        refine bodyPost_ret (results_tmp rfl _ _ _) ?_ ?_
        · rfl
        · exact ⟨rfl, BE⟩
      · refine wpOp_of 7 rfl rfl ?_
        refine wp_build_run _ rfl _ _ (run_buildSlice_none _) ?_
        have O0 := ow_none (w.heap.size + 2) V (SKsz M)
        have bw : Below V.heap.size V (V.alloc (.cells #[] 5)) := (Below.refl _ _).alloc (Nat.le_refl _) _
        replace M := M.below bw
        clear hS bw
        refine ⟨fun _ => M, ?_⟩
        have hS := M
        refine zstep 4 rfl rfl (by kernel_rfl) ?_
        unfold Oper.wp execOp
        go_simp
        refine (C1.out _ (hb.below M.bel) (ha.below M.bel)).mono ?_
        rintro _ w4 ⟨v1, rfl, O1, bw⟩
        have N1 : ∀ g, v1.ownBlock = some g → (Value.slice (some ⟨V.heap.size, 0, none⟩) 0 0).ownBlock ≠ some g := fun g hg h => by have := (O1.lt g hg).1; have h' : V.heap.size = g := Option.some.inj h; have := O0.lt V.heap.size rfl; omega
        replace O0 := O0.below bw
        have O1 := O1.mono (show w.heap.size + 2 ≤ _ from SKsz M)
        replace M := M.below bw
        clear hS bw C1
        refine ⟨M, ?_⟩
        have hS := M
        have lz : ([] : List Nat).length + a.length ≤ 70368744177664 := by have := EA.out.1; have := G1.out; simp only [List.length_nil]; omega
        obtain ⟨v5, w5, r5, O5, O1', N5, B5⟩ := append_keeps (w.heap.size + 2) _ 24 _ _ v1 [] a S1 O0 (ha.below M.bel) O1 N1 lz (SKsz M)
        refine zstep 9 rfl rfl (by kernel_rfl) ?_
        refine wp_append_run _ _ _ _ rfl _ _ rfl rfl _ _ r5 ?_
        replace M := M.under B5 (Nat.le_refl _)
        rw [List.nil_append] at O5
        clear hS r5 B5 O0 O1 N1 lz
        refine ⟨fun _ => M, ?_⟩
        have hS := M
        have lz : a.length + b.length ≤ 70368744177664 := by have := EA.out.1; have := EB.out.1; have := G1.out; have := G3.out; omega
        obtain ⟨v6, w6, r6, O6, O1, N6, B6⟩ := append_keeps (w.heap.size + 2) _ 24 _ _ v1 a b S1 O5 (hb.below M.bel) O1' N5 lz (SKsz M)
        refine zstep 11 rfl rfl (by kernel_rfl) ?_
        refine wp_append_run _ _ _ _ rfl _ _ rfl rfl _ _ r6 ?_
        replace M := M.under B6 (Nat.le_refl _)
        clear hS r6 B6 O5 O1' N5 N6 lz
        refine ⟨fun _ => M, ?_⟩
        have hS := M
        obtain ⟨p6, c6, hv6⟩ := O6.shape
        have e6 : (a ++ b).length = na + nb := by rw [List.length_append, EA.out.1, EB.out.1]
        rw [e6] at hv6
        subst hv6
        have s6 := O6.sb
        have s1 := O1.sb
        obtain ⟨p1, c1, hv1⟩ := O1.shape
        rw [L1.out] at hv1
        subst hv1
        clear O6 O1 e6
        refine zstep 12 rfl rfl (by kernel_rfl) ?_
        unfold Oper.wp execOp
        go_simp
        refine (C2.out p6 c6 _ (SB.nil _ _ _) s6).mono ?_
        rintro _ w7 ⟨v2, rfl, O2, bw⟩
        replace M := M.below bw
        replace s1 := s1.below bw
        have s2 := O2.sb
        obtain ⟨p2, c2, hv2⟩ := O2.shape
        rw [L2.out] at hv2
        subst hv2
        clear hS bw C2 O2 s6
        refine ⟨M, ?_⟩
        have hS := M
        refine zstep 13 rfl rfl (by kernel_rfl) ?_
        unfold Oper.wp execOp
        go_simp
        refine zstep 14 rfl rfl (by kernel_rfl) ?_
        unfold Oper.wp execOp
        go_simp
        refine wpAnyZ_done (by kernel_rfl) ?_ _
        refine aK _ _ ?_
        clear aK hS
        go_upto_region 6 with fail
        rename_i aK
        refine wp_region_Z (S := fun w' => SB w' (.slice p1 (na + 16) c1) S1 ∧ SB w' (.slice p2 (na + nb + 16) c2) S2) 21 (by kernel_rfl) ?_
        replace M := M.drew
        replace s1 := s1.drew
        replace s2 := s2.drew
        generalize World.drew _ = V6 at M s1 s2 ⊢
        have hS : SB V6 (.slice p1 (na + 16) c1) S1 ∧ SB V6 (.slice p2 (na + nb + 16) c2) S2 := ⟨s1, s2⟩
        have e1 := s1.len.2
        have e2 := s2.len.2
        rw [L1.out] at e1
        rw [L2.out] at e2
        have z1 : na ≤ c1 := by omega
        have z2 : na ≤ c2 := by omega
        have w9 : wrap64 ((na : Int) + (nb : Int)) = (na : Int) + (nb : Int) := by unfold wrap64; have := G1.out; have := G3.out; omega
        clear e1 e2
        refine wpAnyZ_takeL 0 rfl (by kernel_rfl) (by kernel_rfl) (by kernel_rfl) (by kernel_rfl) (by kernel_rfl) (fun _ _ _ h => h) (yieldsIf_move rfl _ rfl (.slice p1 (na + 16) c1) rfl) hS ?_
        simp only [Act.put, List.setIfInBounds_toArray, List.set_cons_zero, List.set_cons_succ]
        refine wpAnyZ_takeL 1 rfl (by kernel_rfl) (by kernel_rfl) (by kernel_rfl) (by kernel_rfl) (by kernel_rfl) (fun _ _ _ h => h) (yieldsIf_move rfl _ rfl (.slice pa na ca) rfl) hS ?_
        simp only [Act.put, List.setIfInBounds_toArray, List.set_cons_zero, List.set_cons_succ]
        refine wpAnyZ_takeL 2 (v := (.int .i64 (na : Int))) rfl (by kernel_rfl) (by kernel_rfl) (by kernel_rfl) (by kernel_rfl) (by kernel_rfl) (fun _ _ _ h => h) (Or.inl ⟨by rfl, ?_⟩) hS ?_
        · intro w' hw'
          go_simp
        simp only [Act.put, List.setIfInBounds_toArray, List.set_cons_zero, List.set_cons_succ]
        refine wpAnyZ_takeL 3 rfl (by kernel_rfl) (by kernel_rfl) (by kernel_rfl) (by kernel_rfl) (by kernel_rfl) (fun _ _ _ h => h) (yieldsIf_head rfl _ _ rfl p1 (na + 16) c1 na rfl rfl z1) hS ?_
        simp only [Act.put, List.setIfInBounds_toArray, List.set_cons_zero, List.set_cons_succ]
        refine wpAnyZ_takeL 4 rfl (by kernel_rfl) (by kernel_rfl) (by kernel_rfl) (by kernel_rfl) (by kernel_rfl) (fun _ _ _ h => h) (yieldsIf_conv rfl _ rfl (.slice p1 na c1) rfl (S1.take na) (fun w' h => h.1.head na (by omega))) hS ?_
        simp only [Act.put, List.setIfInBounds_toArray, List.set_cons_zero, List.set_cons_succ]
        refine wpAnyZ_takeL 5 rfl (by kernel_rfl) (by kernel_rfl) (by kernel_rfl) (by kernel_rfl) (by kernel_rfl) (fun _ _ _ h => h) (yieldsIf_move rfl _ rfl (.slice p2 (na + nb + 16) c2) rfl) hS ?_
        simp only [Act.put, List.setIfInBounds_toArray, List.set_cons_zero, List.set_cons_succ]
        refine wpAnyZ_takeL 6 rfl (by kernel_rfl) (by kernel_rfl) (by kernel_rfl) (by kernel_rfl) (by kernel_rfl) (fun _ _ _ h => h) (yieldsIf_move rfl _ rfl (.slice pa na ca) rfl) hS ?_
        simp only [Act.put, List.setIfInBounds_toArray, List.set_cons_zero, List.set_cons_succ]
        refine wpAnyZ_takeL 7 (v := (.int .i64 (na : Int))) rfl (by kernel_rfl) (by kernel_rfl) (by kernel_rfl) (by kernel_rfl) (by kernel_rfl) (fun _ _ _ h => h) (Or.inl ⟨by rfl, ?_⟩) hS ?_
        · intro w' hw'
          go_simp
        simp only [Act.put, List.setIfInBounds_toArray, List.set_cons_zero, List.set_cons_succ]
        refine wpAnyZ_takeL 8 rfl (by kernel_rfl) (by kernel_rfl) (by kernel_rfl) (by kernel_rfl) (by kernel_rfl) (fun _ _ _ h => h) (yieldsIf_head rfl _ _ rfl p2 (na + nb + 16) c2 na rfl rfl z2) hS ?_
        simp only [Act.put, List.setIfInBounds_toArray, List.set_cons_zero, List.set_cons_succ]
        refine wpAnyZ_takeL 9 rfl (by kernel_rfl) (by kernel_rfl) (by kernel_rfl) (by kernel_rfl) (by kernel_rfl) (fun _ _ _ h => h) (yieldsIf_conv rfl _ rfl (.slice p2 na c2) rfl (S2.take na) (fun w' h => h.2.head na (by omega))) hS ?_
        simp only [Act.put, List.setIfInBounds_toArray, List.set_cons_zero, List.set_cons_succ]
        refine wpAnyZ_takeL 10 rfl (by kernel_rfl) (by kernel_rfl) (by kernel_rfl) (by kernel_rfl) (by kernel_rfl) (fun _ _ _ h => h) (yieldsIf_strB rfl _ _ rfl (S1.take na) (S2.take na) rfl rfl TK.out) hS ?_
        simp only [Act.put, List.setIfInBounds_toArray, List.set_cons_zero, List.set_cons_succ]
        refine wpAnyZ_takeL 11 rfl (by kernel_rfl) (by kernel_rfl) (by kernel_rfl) (by kernel_rfl) (by kernel_rfl) (fun _ _ _ h => h) (yieldsIf_move rfl _ rfl (.bool true) rfl) hS ?_
        simp only [Act.put, List.setIfInBounds_toArray, List.set_cons_zero, List.set_cons_succ]
        refine wpAnyZ_takeL 12 rfl (by kernel_rfl) (by kernel_rfl) (by kernel_rfl) (by kernel_rfl) (by kernel_rfl) (fun _ _ _ h => h) (yieldsIf_move rfl _ rfl (.slice p2 (na + nb + 16) c2) rfl) hS ?_
        simp only [Act.put, List.setIfInBounds_toArray, List.set_cons_zero, List.set_cons_succ]
        refine wpAnyZ_takeL 13 (v := (.int .i64 ((na + nb + 16 : Nat) : Int))) rfl (by kernel_rfl) (by kernel_rfl) (by kernel_rfl) (by kernel_rfl) (by kernel_rfl) (fun _ _ _ h => h) (Or.inl ⟨by rfl, ?_⟩) hS ?_
        · intro w' hw'
          go_simp
        simp only [Act.put, List.setIfInBounds_toArray, List.set_cons_zero, List.set_cons_succ]
        refine wpAnyZ_takeL 14 rfl (by kernel_rfl) (by kernel_rfl) (by kernel_rfl) (by kernel_rfl) (by kernel_rfl) (fun _ _ _ h => h) (yieldsIf_move rfl _ rfl (.slice p1 (na + 16) c1) rfl) hS ?_
        simp only [Act.put, List.setIfInBounds_toArray, List.set_cons_zero, List.set_cons_succ]
        refine wpAnyZ_takeL 15 (v := (.int .i64 ((na + 16 : Nat) : Int))) rfl (by kernel_rfl) (by kernel_rfl) (by kernel_rfl) (by kernel_rfl) (by kernel_rfl) (fun _ _ _ h => h) (Or.inl ⟨by rfl, ?_⟩) hS ?_
        · intro w' hw'
          go_simp
        simp only [Act.put, List.setIfInBounds_toArray, List.set_cons_zero, List.set_cons_succ]
        refine wpAnyZ_takeL 16 rfl (by kernel_rfl) (by kernel_rfl) (by kernel_rfl) (by kernel_rfl) (by kernel_rfl) (fun _ _ _ h => h) (yieldsIf_move rfl _ rfl (.slice pb nb cb) rfl) hS ?_
        simp only [Act.put, List.setIfInBounds_toArray, List.set_cons_zero, List.set_cons_succ]
        refine wpAnyZ_takeL 17 (v := (.int .i64 (nb : Int))) rfl (by kernel_rfl) (by kernel_rfl) (by kernel_rfl) (by kernel_rfl) (by kernel_rfl) (fun _ _ _ h => h) (Or.inl ⟨by rfl, ?_⟩) hS ?_
        · intro w' hw'
          go_simp
        simp only [Act.put, List.setIfInBounds_toArray, List.set_cons_zero, List.set_cons_succ]
        refine wpAnyZ_takeL 18 (v := (.int .i64 ((na + nb + 16 : Nat) : Int))) rfl (by kernel_rfl) (by kernel_rfl) (by kernel_rfl) (by kernel_rfl) (by kernel_rfl) (fun _ _ _ h => h) (Or.inl ⟨by rfl, ?_⟩) hS ?_
        · intro w' hw'
          have w8 : IntKind.i64.wrap (((na + 16 : Nat) : Int) + (nb : Int)) = ((na + nb + 16 : Nat) : Int) := by rw [IntKind.wrap_i64]; have := G1.out; have := G3.out; omega
          have w7 : wrap64 (((na + 16 : Nat) : Int) + (nb : Int)) = ((na + nb + 16 : Nat) : Int) := by unfold wrap64; have := G1.out; have := G3.out; omega
          have w6 : IntKind.i64.wrap ((na : Int) + 16 + (nb : Int)) = (na : Int) + (nb : Int) + 16 := by rw [IntKind.wrap_i64]; have := G1.out; have := G3.out; omega
          go_simp
        simp only [Act.put, List.setIfInBounds_toArray, List.set_cons_zero, List.set_cons_succ]
        refine wpAnyZ_takeL 19 (v := (.bool true)) rfl (by kernel_rfl) (by kernel_rfl) (by kernel_rfl) (by kernel_rfl) (by kernel_rfl) (fun _ _ _ h => h) (Or.inl ⟨by rfl, ?_⟩) hS ?_
        · intro w' hw'
          go_simp
        simp only [Act.put, List.setIfInBounds_toArray, List.set_cons_zero, List.set_cons_succ]
        refine wpAnyZ_takeL 20 rfl (by kernel_rfl) (by kernel_rfl) (by kernel_rfl) (by kernel_rfl) (by kernel_rfl) (fun _ _ _ h => h) (yieldsIf_pick rfl _ _ _ rfl true rfl (.bool true) rfl) hS ?_
        simp only [Act.put, List.setIfInBounds_toArray, List.set_cons_zero, List.set_cons_succ]
        refine zstep 21 rfl rfl (by kernel_rfl) ?_
        unfold Oper.wp execOp
        go_simp
        refine wpAnyZ_done (by kernel_rfl) ?_ _
        refine aK _ _ ?_
        have BE := M.bel
        clear aK hS M s1 s2 w9 z1 z2
        go_wp2
        refine bodyPost_ret (results_tmp rfl _ _ _) ?_ ?_
        · rfl
        · exact ⟨rfl, BE⟩
end Go.Proofs.Yteaddadmdjjfaaa
