/- The law GcmStream, by contract of Seal (printed by genvf.py). -/
import Derived.Test.YteaddadmdjjfaaaVe
namespace Go.Proofs.Yteaddadmdjjfaaa
open Go.RowKit

theorem SB.ptr {w : World} {p : Option Addr} {n c : Nat} {l : List Nat} (h : SB w (.slice p n c) l) (hn : 0 < n) : ∃ g o, p = some ⟨g, o, none⟩ := by
  rcases h.at_ with h0 | ⟨g, o, e, _⟩
  · omega
  · exact ⟨g, o, e⟩
theorem take_getD (l : List Nat) (n i : Nat) (h : i < n) : (l.take n).getD i 0 = l.getD i 0 := by
  rw [List.getD_eq_getElem?_getD, List.getElem?_take, if_pos h, ← List.getD_eq_getElem?_getD]
theorem xor_both (x y s : Nat) : (x ^^^ s) ^^^ (y ^^^ s) = x ^^^ y := by
  rw [Nat.xor_comm y s, Nat.xor_assoc, ← Nat.xor_assoc s s y, Nat.xor_self, Nat.zero_xor]
set_option maxHeartbeats 8000000 in
set_option maxRecDepth 100000 in
theorem stream_c (CS : SealC) (K NN a b : List Nat) (lK : K.length = 16) (lN : NN.length = 12) (bK : ∀ x ∈ K, x < 256) (bN : ∀ x ∈ NN, x < 256) (ba : ∀ x ∈ a, x < 256) (bb : ∀ x ∈ b, x < 256)
    (pa pb : Option Addr) (na nb ca cb : Nat) (w : World) (ha : SB w (.slice pa na ca) a) (hb : SB w (.slice pb nb cb) b) :
    Calls Try.prog 6 #[.agg (Iv .u8 (NI K)), .agg (Iv .u8 (NI NN)), .slice pa na ca, .slice pb nb cb] w fun e w' => e = .returned (.bool true) ∧ Below w.heap.size w w' := by
  have AW := Lib.hid (gawake_c CS)
  obtain ⟨n, hn⟩ : ∃ n, n = min na nb := ⟨_, rfl⟩
  have na1 : n ≤ na := by omega
  have nb1 : n ≤ nb := by omega
  have en : (if nb < na then (nb : Int) else (na : Int)) = (n : Int) := by split <;> omega
  have EA := Lib.hid ha.len
  have EB := Lib.hid hb.len
  clear hn
  go_enter Try.func6, Try.ntmps6
  go_wp2_with fail
  refine (AW.out _).mono ?_
  rintro _ w1 ⟨rfl, b1⟩
  have k1 := ((Below.refl w.heap.size w).alloc (Nat.le_refl _) (.cells (Iv .u8 (NI K)) 22)).alloc (by simp) (.cells (Iv .u8 (NI NN)) 23)
  have M : SK w K NN w1 := SK.below ⟨(Blk.new w 22 (Iv .u8 (NI K))).alloc _, Blk.new' (by simp) _ (Iv .u8 (NI NN)), k1⟩ b1
  clear AW b1 k1
  go_upto_region 4 with fail
  by_cases g1 : 200 < n
  · have g2 : (200 : Int) < (n : Int) := by omega
    go_wp2
    go_ret
    exact ⟨rfl, M.bel⟩
  · have g2 : ¬ (200 : Int) < (n : Int) := by omega
    obtain ⟨S1, h1⟩ : ∃ S, S = sealL K NN [] (a.take n) := ⟨_, rfl⟩
    obtain ⟨S2, h2⟩ : ∃ S, S = sealL K NN [1] (b.take n) := ⟨_, rfl⟩
    have ea : (a.take n).length = n := by rw [List.length_take]; have := EA.out.1; omega
    have eb : (b.take n).length = n := by rw [List.length_take]; have := EB.out.1; omega
    have l1 : S1.length = n + 16 := by rw [h1, sealL_length, ea]
    have l2 : S2.length = n + 16 := by rw [h2, sealL_length, eb]
    have bS1 : ∀ x ∈ S1, x < 256 := by rw [h1]; exact sealL_bytes bK bN (fun x hx => ba x (List.mem_of_mem_take hx)) (by omega)
    have bS2 : ∀ x ∈ S2, x < 256 := by rw [h2]; exact sealL_bytes bK bN (fun x hx => bb x (List.mem_of_mem_take hx)) (by omega)
    have XY := Lib.hid (fun i (hi : i < n) => show S1.getD i 0 ^^^ S2.getD i 0 = a.getD i 0 ^^^ b.getD i 0 by
      rw [h1, h2, seal_get _ _ _ _ _ (by omega), seal_get _ _ _ _ _ (by omega), xor_both, take_getD _ _ _ hi, take_getD _ _ _ hi])
    have C1 := Lib.hid (fun W h h' => CS K NN [] (a.take n) S1 none pa 0 n 0 ca lK lN bK bN (fun _ h => by cases h) (fun x hx => ba x (List.mem_of_mem_take hx)) (by omega) (by omega) h1 W h h')
    have C2 := Lib.hid (fun p W h h' => CS K NN [1] (b.take n) S2 p pb 1 n 1 cb lK lN bK bN (by decide) (fun x hx => bb x (List.mem_of_mem_take hx)) (by omega) (by omega) h2 W h h')
    have L1 := Lib.hid l1
    have L2 := Lib.hid l2
    have za : n ≤ ca := by have := EA.out.2; have := EA.out.1; omega
    have zb : n ≤ cb := by have := EB.out.2; have := EB.out.1; omega
    have G1 := Lib.hid g1
    clear h1 h2 ea eb l1 l2 g1
    go_upto_region 6 with fail
    clear g2 en
    rename_i aK
    refine wp_region_Z (S := SK w K NN) 14 (by kernel_rfl) ?_
    replace M := M.drew
    generalize World.drew _ = V at M ⊢
    have hS := M
    refine wpAnyZ_takeL 0 rfl (by kernel_rfl) (by kernel_rfl) (by kernel_rfl) (by kernel_rfl) (by kernel_rfl) (fun _ _ _ h => h) ((show YieldsIf _ _ _ _ (Value.agg (Iv .u8 (NI K))) _ from yieldsIf_row_wanted rfl 22 _ rfl (w.heap.size) rfl 22 _ _ (fun _ h => h.k) Try.underlying22 rfl (info_n _ lK))) hS ?_
    simp only [Act.put, List.setIfInBounds_toArray, List.set_cons_zero, List.set_cons_succ]
    refine wpAnyZ_takeL 1 rfl (by kernel_rfl) (by kernel_rfl) (by kernel_rfl) (by kernel_rfl) (by kernel_rfl) (fun _ _ _ h => h) ((show YieldsIf _ _ _ _ (Value.agg (Iv .u8 (NI NN))) _ from yieldsIf_row_wanted rfl 23 _ rfl (w.heap.size + 1) rfl 23 _ _ (fun _ h => h.n) Try.underlying23 rfl (info_12 _ lN))) hS ?_
    simp only [Act.put, List.setIfInBounds_toArray, List.set_cons_zero, List.set_cons_succ]
    refine wpAnyZ_takeL 2 rfl (by kernel_rfl) (by kernel_rfl) (by kernel_rfl) (by kernel_rfl) (by kernel_rfl) (fun _ _ _ h => h) (yieldsIf_move rfl _ rfl (.slice pa na ca) rfl) hS ?_
    simp only [Act.put, List.setIfInBounds_toArray, List.set_cons_zero, List.set_cons_succ]
    refine wpAnyZ_takeL 3 rfl (by kernel_rfl) (by kernel_rfl) (by kernel_rfl) (by kernel_rfl) (by kernel_rfl) (fun _ _ _ h => h) (yieldsIf_move rfl _ rfl (.int .i64 (n : Int)) rfl) hS ?_
    simp only [Act.put, List.setIfInBounds_toArray, List.set_cons_zero, List.set_cons_succ]
    refine wpAnyZ_takeL 4 rfl (by kernel_rfl) (by kernel_rfl) (by kernel_rfl) (by kernel_rfl) (by kernel_rfl) (fun _ _ _ h => h) (yieldsIf_head rfl _ _ rfl pa na ca n rfl rfl za) hS ?_
    simp only [Act.put, List.setIfInBounds_toArray, List.set_cons_zero, List.set_cons_succ]
    refine wpAnyZ_takeL 6 rfl (by kernel_rfl) (by kernel_rfl) (by kernel_rfl) (by kernel_rfl) (by kernel_rfl) (fun _ _ _ h => h) ((show YieldsIf _ _ _ _ (Value.agg (Iv .u8 (NI K))) _ from yieldsIf_row_wanted rfl 22 _ rfl (w.heap.size) rfl 22 _ _ (fun _ h => h.k) Try.underlying22 rfl (info_n _ lK))) hS ?_
    simp only [Act.put, List.setIfInBounds_toArray, List.set_cons_zero, List.set_cons_succ]
    refine wpAnyZ_takeL 7 rfl (by kernel_rfl) (by kernel_rfl) (by kernel_rfl) (by kernel_rfl) (by kernel_rfl) (fun _ _ _ h => h) ((show YieldsIf _ _ _ _ (Value.agg (Iv .u8 (NI NN))) _ from yieldsIf_row_wanted rfl 23 _ rfl (w.heap.size + 1) rfl 23 _ _ (fun _ h => h.n) Try.underlying23 rfl (info_12 _ lN))) hS ?_
    simp only [Act.put, List.setIfInBounds_toArray, List.set_cons_zero, List.set_cons_succ]
    refine wpAnyZ_takeL 9 rfl (by kernel_rfl) (by kernel_rfl) (by kernel_rfl) (by kernel_rfl) (by kernel_rfl) (fun _ _ _ h => h) (yieldsIf_move rfl _ rfl (.slice pb nb cb) rfl) hS ?_
    simp only [Act.put, List.setIfInBounds_toArray, List.set_cons_zero, List.set_cons_succ]
    refine wpAnyZ_takeL 10 rfl (by kernel_rfl) (by kernel_rfl) (by kernel_rfl) (by kernel_rfl) (by kernel_rfl) (fun _ _ _ h => h) (yieldsIf_move rfl _ rfl (.int .i64 (n : Int)) rfl) hS ?_
    simp only [Act.put, List.setIfInBounds_toArray, List.set_cons_zero, List.set_cons_succ]
    refine wpAnyZ_takeL 11 rfl (by kernel_rfl) (by kernel_rfl) (by kernel_rfl) (by kernel_rfl) (by kernel_rfl) (fun _ _ _ h => h) (yieldsIf_head rfl _ _ rfl pb nb cb n rfl rfl zb) hS ?_
    simp only [Act.put, List.setIfInBounds_toArray, List.set_cons_zero, List.set_cons_succ]
    refine wpAnyZ_two (i := 5) (j := 8) (by kernel_rfl) ?_ ?_
    · refine wpOp_of 5 rfl rfl ?_
      unfold Oper.wp execOp
      go_simp
      refine (C1.out _ (SB.nil _ _ _) ((ha.below M.bel).head n na1)).mono ?_
      rintro _ w4 ⟨v1, rfl, O1, bw⟩
      obtain ⟨p1, c1, hv1⟩ := O1.shape
      rw [L1.out] at hv1
      subst hv1
      have s1 := O1.sb
      replace M := M.below bw
      clear hS bw C1 O1
      refine ⟨M, ?_⟩
      have hS := M
      refine zstep 8 rfl rfl (by kernel_rfl) ?_
      refine build_one _ _ rfl rfl 1 rfl ?_
      have R0 := byte_row w4 1
      have bw : Below w4.heap.size w4 (w4.alloc (.cells #[.int .u8 ((1 : Nat) : Int)] 5)) := (Below.refl _ _).alloc (Nat.le_refl _) _
      replace s1 := s1.below bw
      replace M := M.below bw
      clear hS bw
      refine ⟨fun _ => M, ?_⟩
      have hS := M
      have r1 : SB _ (.slice (some ⟨w4.heap.size, 0, none⟩) 1 1) [1] := SB.of_ba' R0 rfl (Nat.le_refl _)
      refine zstep 12 rfl rfl (by kernel_rfl) ?_
      unfold Oper.wp execOp
      go_simp
      refine (C2.out _ _ r1 ((hb.below M.bel).head n nb1)).mono ?_
      rintro _ w7 ⟨v2, rfl, O2, bw⟩
      obtain ⟨p2, c2, hv2⟩ := O2.shape
      rw [L2.out] at hv2
      subst hv2
      have s2 := O2.sb
      replace M := M.below bw
      replace s1 := s1.below bw
      clear hS bw C2 O2 r1 R0
      refine ⟨M, ?_⟩
      have hS := M
      refine zstep 13 rfl rfl (by kernel_rfl) ?_
      unfold Oper.wp execOp
      go_simp
      refine zstep 14 rfl rfl (by kernel_rfl) ?_
      unfold Oper.wp execOp
      go_simp
      refine wpAnyZ_done (by kernel_rfl) ?_ _
      refine aK _ _ ?_
      clear aK hS
      obtain ⟨gx, ox, rfl⟩ := s1.ptr (by omega)
      obtain ⟨gy, oy, rfl⟩ := s2.ptr (by omega)
      have hT : Below w.heap.size w w7 ∧ SB w7 (.slice (some ⟨gx, ox, none⟩) (n + 16) c1) S1 ∧ SB w7 (.slice (some ⟨gy, oy, none⟩) (n + 16) c2) S2 := ⟨M.bel, s1, s2⟩
      clear M s1 s2
      go_upto_region 8 with fail
      go_loopw [36] (fun i wr => ∃ t : Nat, t ≤ n ∧ i = .int .i64 (t : Int) ∧ Below w.heap.size w wr ∧ SB wr (.slice (some ⟨gx, ox, none⟩) (n + 16) c1) S1 ∧ SB wr (.slice (some ⟨gy, oy, none⟩) (n + 16) c2) S2) (fun i _ => (n - intOf i).toNat)
      case atStart => exact ⟨0, by omega, rfl, hT⟩
      case round =>
        clear hT
        obtain ⟨t, ht, rfl, B, s1, s2⟩ := hrel
        by_cases htn : t = n
        · subst htn
          have g5 : ¬ (t : Int) < (t : Int) := by omega
          have w5 : wrap64 ((t : Int) + 16) = (t : Int) + 16 := by unfold wrap64; have := G1.out; omega
          clear s1 s2
          go_wp2
          refine bodyPost_ret (results_tmp rfl _ _ _) ?_ ?_
          · rfl
          · exact ⟨rfl, B⟩
        · have g5 : (t : Int) < (n : Int) := by omega
          have lt : t < n := by omega
          have i0 : (0 : Int) ≤ (t : Int) := by omega
          have i9 : (t : Int) < (n : Int) + 16 := by omega
          have ia : (t : Int) < (na : Int) := by omega
          have ib : (t : Int) < (nb : Int) := by omega
          obtain ⟨ga, oa, rfl⟩ := ha.ptr (by omega)
          obtain ⟨gb, ob, rfl⟩ := hb.ptr (by omega)
          have cx := s1.cellAt t (by omega)
          have cy := s2.cellAt t (by omega)
          have ka := (ha.below B).cellAt t (by omega)
          have kb := (hb.below B).cellAt t (by omega)
          have x1 := u8_xor_nat _ _ (getD_lt bS1 t) (getD_lt bS2 t)
          have x2 := u8_xor_nat _ _ (getD_lt ba t) (getD_lt bb t)
          rw [XY.out t lt] at x1
          generalize S1.getD t 0 = X1 at *
          generalize S2.getD t 0 = Y1 at *
          generalize a.getD t 0 = A1 at *
          generalize b.getD t 0 = B1 at *
          generalize A1 ^^^ B1 = Z1 at *
          go_upto_region 10 with fail
          rename_i aK
          refine wp_region_still_lit (by kernel_rfl) (by kernel_rfl) ?_
          change wpStill _ _ (World.drew wr) (fun a' => Exit.then _ _ Exit.normal a' (World.drew wr)) _ _
          replace cx : (World.drew wr).cell? _ = _ := cx
          replace cy : (World.drew wr).cell? _ = _ := cy
          replace ka : (World.drew wr).cell? _ = _ := ka
          replace kb : (World.drew wr).cell? _ = _ := kb
          replace s1 := s1.drew
          replace s2 := s2.drew
          replace B := below_drew B
          generalize World.drew wr = V9 at *
          repeat still_step
          refine wpStill_nil ?_
          refine aK _ _ ?_
          clear aK cx cy ka kb x1 x2 ha hb za zb na1 nb1 ia ib i9 bS1 bS2 ba bb bK bN htn ht
          have e3 : wrap64 ((t : Int) + 1) = (t : Int) + 1 := by unfold wrap64; have := G1.out; omega
          go_upto_region 12 with fail
          rename_i aK
          refine wp_region_seq ?_
          refine wpSeq_yield (S := fun w' => w' = V9) (v := (.int .i64 ((t : Int) + 1))) (Or.inl ⟨rfl, fun w' hw' => ?_⟩) rfl ?_
          · simp only [execOp]
            have e4 : IntKind.i64.wrap ((t : Int) + 1) = (t : Int) + 1 := by rw [IntKind.wrap_i64]; have := G1.out; omega
            go_simp
          simp only [Act.put, List.setIfInBounds_toArray, List.set_cons_zero, List.set_cons_succ]
          refine wpSeq_yield (S := fun w' => w' = V9) (yieldsIf_move rfl _ rfl (.int .i64 ((t : Int) + 1)) rfl) rfl ?_
          simp only [Act.put, List.setIfInBounds_toArray, List.set_cons_zero, List.set_cons_succ]
          refine wpSeq_nil ?_
          refine ⟨⟨_, _, _, _, _, _, _, _, _, _, _, _, _, _, _, _, _, _, _, _, _, _, _, _, _, ⟨t + 1, by omega, rfl, B, s1, s2⟩, rfl⟩, ?_⟩
          show ((n : Int) - ((t : Int) + 1)).toNat < ((n : Int) - (t : Int)).toNat
          omega
    · refine wpOp_of 8 rfl rfl ?_
      refine build_one _ _ rfl rfl 1 rfl ?_
      have R0 := byte_row V 1
      have bw : Below V.heap.size V (V.alloc (.cells #[.int .u8 ((1 : Nat) : Int)] 5)) := (Below.refl _ _).alloc (Nat.le_refl _) _
      replace M := M.below bw
      clear hS bw
      refine ⟨fun _ => M, ?_⟩
      have hS := M
      refine zstep 5 rfl rfl (by kernel_rfl) ?_
      unfold Oper.wp execOp
      go_simp
      refine (C1.out _ (SB.nil _ _ _) ((ha.below M.bel).head n na1)).mono ?_
      rintro _ w4 ⟨v1, rfl, O1, bw⟩
      obtain ⟨p1, c1, hv1⟩ := O1.shape
      rw [L1.out] at hv1
      subst hv1
      have s1 := O1.sb
      replace M := M.below bw
      replace R0 := R0.below bw
      clear hS bw C1 O1
      refine ⟨M, ?_⟩
      have hS := M
      have r1 : SB _ (.slice (some ⟨V.heap.size, 0, none⟩) 1 1) [1] := SB.of_ba' R0 rfl (Nat.le_refl _)
      refine zstep 12 rfl rfl (by kernel_rfl) ?_
      unfold Oper.wp execOp
      go_simp
      refine (C2.out _ _ r1 ((hb.below M.bel).head n nb1)).mono ?_
      rintro _ w7 ⟨v2, rfl, O2, bw⟩
      obtain ⟨p2, c2, hv2⟩ := O2.shape
      rw [L2.out] at hv2
      subst hv2
      have s2 := O2.sb
      replace M := M.below bw
      replace s1 := s1.below bw
      clear hS bw C2 O2 r1 R0
      refine ⟨M, ?_⟩
      have hS := M
      refine zstep 13 rfl rfl (by kernel_rfl) ?_
      unfold Oper.wp execOp
      go_simp
      refine zstep 14 rfl rfl (by kernel_rfl) ?_
      unfold Oper.wp execOp
      go_simp
      refine wpAnyZ_done (by kernel_rfl) ?_ _
      refine aK _ _ ?_
      clear aK hS
      obtain ⟨gx, ox, rfl⟩ := s1.ptr (by omega)
      obtain ⟨gy, oy, rfl⟩ := s2.ptr (by omega)
      have hT : Below w.heap.size w w7 ∧ SB w7 (.slice (some ⟨gx, ox, none⟩) (n + 16) c1) S1 ∧ SB w7 (.slice (some ⟨gy, oy, none⟩) (n + 16) c2) S2 := ⟨M.bel, s1, s2⟩
      clear M s1 s2
      go_upto_region 8 with fail
      go_loopw [36] (fun i wr => ∃ t : Nat, t ≤ n ∧ i = .int .i64 (t : Int) ∧ Below w.heap.size w wr ∧ SB wr (.slice (some ⟨gx, ox, none⟩) (n + 16) c1) S1 ∧ SB wr (.slice (some ⟨gy, oy, none⟩) (n + 16) c2) S2) (fun i _ => (n - intOf i).toNat)
      case atStart => exact ⟨0, by omega, rfl, hT⟩
      case round =>
        clear hT
        obtain ⟨t, ht, rfl, B, s1, s2⟩ := hrel
        by_cases htn : t = n
        · subst htn
          have g5 : ¬ (t : Int) < (t : Int) := by omega
          have w5 : wrap64 ((t : Int) + 16) = (t : Int) + 16 := by unfold wrap64; have := G1.out; omega
          clear s1 s2
          go_wp2
          refine bodyPost_ret (results_tmp rfl _ _ _) ?_ ?_
          · rfl
          · exact ⟨rfl, B⟩
        · have g5 : (t : Int) < (n : Int) := by omega
          have lt : t < n := by omega
          have i0 : (0 : Int) ≤ (t : Int) := by omega
          have i9 : (t : Int) < (n : Int) + 16 := by omega
          have ia : (t : Int) < (na : Int) := by omega
          have ib : (t : Int) < (nb : Int) := by omega
          obtain ⟨ga, oa, rfl⟩ := ha.ptr (by omega)
          obtain ⟨gb, ob, rfl⟩ := hb.ptr (by omega)
          have cx := s1.cellAt t (by omega)
          have cy := s2.cellAt t (by omega)
          have ka := (ha.below B).cellAt t (by omega)
          have kb := (hb.below B).cellAt t (by omega)
          have x1 := u8_xor_nat _ _ (getD_lt bS1 t) (getD_lt bS2 t)
          have x2 := u8_xor_nat _ _ (getD_lt ba t) (getD_lt bb t)
          rw [XY.out t lt] at x1
          generalize S1.getD t 0 = X1 at *
          generalize S2.getD t 0 = Y1 at *
          generalize a.getD t 0 = A1 at *
          generalize b.getD t 0 = B1 at *
          generalize A1 ^^^ B1 = Z1 at *
          go_upto_region 10 with fail
          rename_i aK
          refine wp_region_still_lit (by kernel_rfl) (by kernel_rfl) ?_
          change wpStill _ _ (World.drew wr) (fun a' => Exit.then _ _ Exit.normal a' (World.drew wr)) _ _
          replace cx : (World.drew wr).cell? _ = _ := cx
          replace cy : (World.drew wr).cell? _ = _ := cy
          replace ka : (World.drew wr).cell? _ = _ := ka
          replace kb : (World.drew wr).cell? _ = _ := kb
          replace s1 := s1.drew
          replace s2 := s2.drew
          replace B := below_drew B
          generalize World.drew wr = V9 at *
          repeat still_step
          refine wpStill_nil ?_
          refine aK _ _ ?_
          clear aK cx cy ka kb x1 x2 ha hb za zb na1 nb1 ia ib i9 bS1 bS2 ba bb bK bN htn ht
          have e3 : wrap64 ((t : Int) + 1) = (t : Int) + 1 := by unfold wrap64; have := G1.out; omega
          go_upto_region 12 with fail
          rename_i aK
          refine wp_region_seq ?_
          refine wpSeq_yield (S := fun w' => w' = V9) (v := (.int .i64 ((t : Int) + 1))) (Or.inl ⟨rfl, fun w' hw' => ?_⟩) rfl ?_
          · simp only [execOp]
            have e4 : IntKind.i64.wrap ((t : Int) + 1) = (t : Int) + 1 := by rw [IntKind.wrap_i64]; have := G1.out; omega
            go_simp
          simp only [Act.put, List.setIfInBounds_toArray, List.set_cons_zero, List.set_cons_succ]
          refine wpSeq_yield (S := fun w' => w' = V9) (yieldsIf_move rfl _ rfl (.int .i64 ((t : Int) + 1)) rfl) rfl ?_
          simp only [Act.put, List.setIfInBounds_toArray, List.set_cons_zero, List.set_cons_succ]
          refine wpSeq_nil ?_
          refine ⟨⟨_, _, _, _, _, _, _, _, _, _, _, _, _, _, _, _, _, _, _, _, _, _, _, _, _, ⟨t + 1, by omega, rfl, B, s1, s2⟩, rfl⟩, ?_⟩
          show ((n : Int) - ((t : Int) + 1)).toNat < ((n : Int) - (t : Int)).toNat
          omega
end Go.Proofs.Yteaddadmdjjfaaa
