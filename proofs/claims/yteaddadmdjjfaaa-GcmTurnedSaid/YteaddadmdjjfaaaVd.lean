/- The law GcmOpens, by contract of Seal and Open (printed by genvd.py). -/
import Derived.Test.YteaddadmdjjfaaaVc
namespace Go.Proofs.Yteaddadmdjjfaaa
open Go.RowKit

theorem open_is {k nonce beside s c : List Nat} (h : openL k nonce beside s = some c) : c = xorS k nonce (s.take (s.length - 16)) := by
  unfold openL at h
  split at h
  · simp only [Option.some.injEq] at h
    exact h.symm
  · cases h
theorem open_bytes' {k nonce beside s c : List Nat} (h : openL k nonce beside s = some c) (bk : ∀ x ∈ k, x < 256) (bn : ∀ x ∈ nonce, x < 256) (bs : ∀ x ∈ s, x < 256) (ls : s.length ≤ 1000000) : ∀ x ∈ c, x < 256 := by
  rw [open_is h]
  exact xorS_bytes bk bn (fun x hx => bs x (List.mem_of_mem_take hx)) (by rw [List.length_take]; omega)
set_option maxHeartbeats 8000000 in
set_option maxRecDepth 100000 in
theorem opens_c (CS : SealC) (CO : OpenC) (K NN D b : List Nat) (lK : K.length = 16) (lN : NN.length = 12) (bK : ∀ x ∈ K, x < 256) (bN : ∀ x ∈ NN, x < 256) (bD : ∀ x ∈ D, x < 256) (bb : ∀ x ∈ b, x < 256)
    (pd pb : Option Addr) (nd nb cd cb : Nat) (right : Bool) (w : World) (hd : SB w (.slice pd nd cd) D) (hb : SB w (.slice pb nb cb) b) :
    Calls Try.prog 4 #[.agg (Iv .u8 (NI K)), .agg (Iv .u8 (NI NN)), .slice pd nd cd, .slice pb nb cb, .bool right] w fun e w' => e = .returned (.bool true) ∧ Below w.heap.size w w' := by
  have AW := Lib.hid (gawake_c CS)
  have eb := hb.len.1
  have EB := Lib.hid eb
  clear eb
  go_enter Try.func4, Try.ntmps4
  go_wp2_with fail
  refine (AW.out _).mono ?_
  rintro _ w1 ⟨rfl, b1⟩
  have k1 := ((Below.refl w.heap.size w).alloc (Nat.le_refl _) (.cells (Iv .u8 (NI K)) 22)).alloc (by simp) (.cells (Iv .u8 (NI NN)) 23)
  have M : SK w K NN w1 := SK.below ⟨(Blk.new w 22 (Iv .u8 (NI K))).alloc _, Blk.new' (by simp) _ (Iv .u8 (NI NN)), k1⟩ b1
  clear AW b1 k1
  by_cases g1 : 200 < nd
  · have g2 : (200 : Int) < (nd : Int) := by omega
    go_wp2
    go_ret
    exact ⟨rfl, M.bel⟩
  · have g2 : ¬ (200 : Int) < (nd : Int) := by omega
    by_cases g3 : 200 < nb
    · have g4 : (200 : Int) < (nb : Int) := by omega
      go_wp2
      go_ret
      exact ⟨rfl, M.bel⟩
    · have g4 : ¬ (200 : Int) < (nb : Int) := by omega
      have CX := Lib.hid (fun (c : List Nat) (bc : ∀ x ∈ c, x < 256) pc nc cc (lc : nc ≤ 1000) xv W h0 h1 h2 => rseal_f K NN D c lK lN bK bN bD bc xv pd pc nd nc cd cc (by omega) lc W h0 h1 h2)
      cases right
      · have s2 := hb.below M.bel
        obtain ⟨op, hop⟩ : ∃ op, op = openL K NN D b := ⟨_, rfl⟩
        have C2 := Lib.hid (fun W h1 h2 => CO K NN D b op pd pb nd nb cd cb lK lN bK bN bD bb (by omega) (by omega) hop W h1 h2)
        have HO := Lib.hid hop
        clear hop
        cases op with
        | none =>
          go_wp2_with (first | (refine wpList_load_row rfl 22 _ rfl w.heap.size rfl 22 _ (0, 0) _ M.k Try.underlying22 rfl (info_n _ lK) ?_) | (refine wpList_load_row rfl 23 _ rfl (w.heap.size + 1) rfl 23 _ (0, 0) _ M.n Try.underlying23 rfl (info_12 _ lN) ?_))
          refine (C2.out _ (hd.below M.bel) s2).mono ?_
          rintro _ w3 ⟨v3, rfl, O3, b3⟩
          replace M := M.below b3
          replace s2 := s2.below b3
          clear b3 C2
          obtain ⟨pc, cc, hvc⟩ := O3.shape
          subst hvc
          have BE := M.bel
          clear O3 s2 M HO CX g1 g2 g3 g4
          go_wp2
          refine bodyPost_ret (results_tmp rfl _ _ _) ?_ ?_
          · rfl
          · exact ⟨rfl, BE⟩
        | some c =>
          have hc := HO.out.symm
          have lc := (open_length hc).1
          have bc := open_bytes' hc bK bN bb (by have := EB.out; omega)
          have lc2 : c.length ≤ 1000 := by have := EB.out; omega
          clear lc
          go_wp2_with (first | (refine wpList_load_row rfl 22 _ rfl w.heap.size rfl 22 _ (0, 0) _ M.k Try.underlying22 rfl (info_n _ lK) ?_) | (refine wpList_load_row rfl 23 _ rfl (w.heap.size + 1) rfl 23 _ (0, 0) _ M.n Try.underlying23 rfl (info_12 _ lN) ?_))
          refine (C2.out _ (hd.below M.bel) s2).mono ?_
          rintro _ w3 ⟨v3, rfl, O3, b3⟩
          replace M := M.below b3
          replace s2 := s2.below b3
          clear b3 C2
          clear g1 g2 g3 g4
          replace O3 : OwL _ w3 v3 c := O3
          go_upto_region 10 with fail
          rename_i aK
          obtain ⟨pc, cc, hvc⟩ := O3.shape
          subst hvc
          have s3 := O3.sb
          have CC := Lib.hid (CX.out c bc pc c.length cc lc2)
          have HC := Lib.hid (seal_open hc)
          clear O3 CX
          refine wp_region_Z (S := fun w' => SK w K NN w' ∧ SB w' (.slice pb nb cb) b) 10 (by kernel_rfl) ?_
          replace M := M.drew
          replace s2 := s2.drew
          replace s3 := s3.drew
          generalize World.drew _ = V at M s2 s3 ⊢
          have hS : SK w K NN V ∧ SB V (.slice pb nb cb) b := ⟨M, s2⟩
          refine wpAnyZ_takeL 1 rfl (by kernel_rfl) (by kernel_rfl) (by kernel_rfl) (by kernel_rfl) (by kernel_rfl) (fun _ _ _ h => h) ((show YieldsIf _ _ _ _ (Value.agg (Iv .u8 (NI K))) _ from yieldsIf_row_wanted rfl 22 _ rfl (w.heap.size) rfl 22 _ _ (fun _ h => h.1.k) Try.underlying22 rfl (info_n _ lK))) hS ?_
          simp only [Act.put, List.setIfInBounds_toArray, List.set_cons_zero, List.set_cons_succ]
          refine wpAnyZ_takeL 2 rfl (by kernel_rfl) (by kernel_rfl) (by kernel_rfl) (by kernel_rfl) (by kernel_rfl) (fun _ _ _ h => h) ((show YieldsIf _ _ _ _ (Value.agg (Iv .u8 (NI NN))) _ from yieldsIf_row_wanted rfl 23 _ rfl (w.heap.size + 1) rfl 23 _ _ (fun _ h => h.1.n) Try.underlying23 rfl (info_12 _ lN))) hS ?_
          simp only [Act.put, List.setIfInBounds_toArray, List.set_cons_zero, List.set_cons_succ]
          refine wpAnyZ_takeL 3 rfl (by kernel_rfl) (by kernel_rfl) (by kernel_rfl) (by kernel_rfl) (by kernel_rfl) (fun _ _ _ h => h) (yieldsIf_move rfl _ rfl (.slice pd nd cd) rfl) hS ?_
          simp only [Act.put, List.setIfInBounds_toArray, List.set_cons_zero, List.set_cons_succ]
          refine wpAnyZ_takeL 4 rfl (by kernel_rfl) (by kernel_rfl) (by kernel_rfl) (by kernel_rfl) (by kernel_rfl) (fun _ _ _ h => h) (yieldsIf_move rfl _ rfl (.slice pc c.length cc) rfl) hS ?_
          simp only [Act.put, List.setIfInBounds_toArray, List.set_cons_zero, List.set_cons_succ]
          refine wpAnyZ_takeL 7 rfl (by kernel_rfl) (by kernel_rfl) (by kernel_rfl) (by kernel_rfl) (by kernel_rfl) (fun _ _ _ h => h) (yieldsIf_move rfl _ rfl (.slice pb nb cb) rfl) hS ?_
          simp only [Act.put, List.setIfInBounds_toArray, List.set_cons_zero, List.set_cons_succ]
          refine wpAnyZ_takeL 8 rfl (by kernel_rfl) (by kernel_rfl) (by kernel_rfl) (by kernel_rfl) (by kernel_rfl) (fun _ _ _ h => h) (yieldsIf_conv rfl _ rfl (.slice pb nb cb) rfl b (fun w' h => h.2)) hS ?_
          simp only [Act.put, List.setIfInBounds_toArray, List.set_cons_zero, List.set_cons_succ]
          refine zstep 0 rfl rfl (by kernel_rfl) ?_
          unfold Oper.wp execOp
          go_simp
          refine (rbox_any _).mono ?_
          rintro _ w7 ⟨xv, rfl, OX, bw⟩
          clear hS
          replace M := M.below bw
          replace s2 := s2.below bw
          replace s3 := s3.below bw
          have hS : SK w K NN _ ∧ SB _ (.slice pb nb cb) b := ⟨M, s2⟩
          have sx := OX.sb
          clear bw OX
          refine ⟨hS, ?_⟩
          refine zstep 5 rfl rfl (by kernel_rfl) ?_
          unfold Oper.wp execOp
          go_simp
          refine (CC.out xv _ sx (hd.below M.bel) s3).mono ?_
          rintro _ w8 ⟨rv, rfl, OR, bw⟩
          clear hS
          replace M := M.below bw
          replace s2 := s2.below bw
          replace s3 := s3.below bw
          have hS : SK w K NN _ ∧ SB _ (.slice pb nb cb) b := ⟨M, s2⟩
          have sr := OR.sb
          rw [HC.out] at sr
          clear bw OR sx CC s3
          refine ⟨hS, ?_⟩
          refine zstep 6 rfl rfl (by kernel_rfl) ?_
          refine wp_conv _ _ rfl rfl rv rfl b sr ?_
          refine ⟨fun _ => hS, ?_⟩
          simp only [Act.put, List.setIfInBounds_toArray, List.set_cons_zero, List.set_cons_succ]
          refine wpAnyZ_takeL 9 rfl (by kernel_rfl) (by kernel_rfl) (by kernel_rfl) (by kernel_rfl) (by kernel_rfl) (fun _ _ _ h => h) (yieldsIf_strB rfl _ _ rfl b b rfl rfl rfl) hS ?_
          simp only [Act.put, List.setIfInBounds_toArray, List.set_cons_zero, List.set_cons_succ]
          refine zstep 10 rfl rfl (by kernel_rfl) ?_
          unfold Oper.wp execOp
          go_simp
          refine wpAnyZ_done (by kernel_rfl) ?_ _
          refine aK _ _ ?_
          have BE := M.bel
          clear aK hS M s2 sr
          go_wp2
          refine bodyPost_ret (results_tmp rfl _ _ _) ?_ ?_
          · rfl
          · exact ⟨rfl, BE⟩
      · obtain ⟨S, hS⟩ : ∃ S, S = sealL K NN D b := ⟨_, rfl⟩
        have lS : S.length = nb + 16 := by rw [hS, sealL_length, EB.out]
        have bS : ∀ x ∈ S, x < 256 := by rw [hS]; exact sealL_bytes bK bN bb (by have := EB.out; omega)
        have eO : some b = openL K NN D S := by rw [hS]; exact (open_seal K NN D b).symm
        have CQ := Lib.hid (fun ps cs W h1 h2 => CO K NN D S (some b) pd ps nd (nb + 16) cd cs lK lN bK bN bD bS (by omega) (by omega) eO W h1 h2)
        have C3 := Lib.hid (CX.out b bb pb nb cb (by omega))
        have HS := Lib.hid hS
        have HEO := Lib.hid eO
        clear hS eO
        go_upto_region 6 with fail
        rename_i aK
        refine wp_region_Z (S := SK w K NN) 6 (by kernel_rfl) ?_
        replace M := M.drew
        generalize World.drew _ = V at M ⊢
        have hS := M
        refine wpAnyZ_takeL 1 rfl (by kernel_rfl) (by kernel_rfl) (by kernel_rfl) (by kernel_rfl) (by kernel_rfl) (fun _ _ _ h => h) ((show YieldsIf _ _ _ _ (Value.agg (Iv .u8 (NI K))) _ from yieldsIf_row_wanted rfl 22 _ rfl (w.heap.size) rfl 22 _ _ (fun _ h => h.k) Try.underlying22 rfl (info_n _ lK))) hS ?_
        simp only [Act.put, List.setIfInBounds_toArray, List.set_cons_zero, List.set_cons_succ]
        refine wpAnyZ_takeL 2 rfl (by kernel_rfl) (by kernel_rfl) (by kernel_rfl) (by kernel_rfl) (by kernel_rfl) (fun _ _ _ h => h) ((show YieldsIf _ _ _ _ (Value.agg (Iv .u8 (NI NN))) _ from yieldsIf_row_wanted rfl 23 _ rfl (w.heap.size + 1) rfl 23 _ _ (fun _ h => h.n) Try.underlying23 rfl (info_12 _ lN))) hS ?_
        simp only [Act.put, List.setIfInBounds_toArray, List.set_cons_zero, List.set_cons_succ]
        refine wpAnyZ_takeL 3 rfl (by kernel_rfl) (by kernel_rfl) (by kernel_rfl) (by kernel_rfl) (by kernel_rfl) (fun _ _ _ h => h) (yieldsIf_move rfl _ rfl (.slice pd nd cd) rfl) hS ?_
        simp only [Act.put, List.setIfInBounds_toArray, List.set_cons_zero, List.set_cons_succ]
        refine wpAnyZ_takeL 4 rfl (by kernel_rfl) (by kernel_rfl) (by kernel_rfl) (by kernel_rfl) (by kernel_rfl) (fun _ _ _ h => h) (yieldsIf_move rfl _ rfl (.slice pb nb cb) rfl) hS ?_
        simp only [Act.put, List.setIfInBounds_toArray, List.set_cons_zero, List.set_cons_succ]
        refine zstep 0 rfl rfl (by kernel_rfl) ?_
        unfold Oper.wp execOp
        go_simp
        refine (rbox_any _).mono ?_
        rintro _ w7 ⟨xv, rfl, OX, bw⟩
        clear hS
        replace M := M.below bw
        have sx := OX.sb
        clear bw OX
        refine ⟨M, ?_⟩
        have hS := M
        refine zstep 5 rfl rfl (by kernel_rfl) ?_
        unfold Oper.wp execOp
        go_simp
        refine (C3.out xv _ sx (hd.below M.bel) (hb.below M.bel)).mono ?_
        rintro _ w8 ⟨rv, rfl, OR, bw⟩
        clear hS
        replace M := M.below bw
        rw [← HS.out] at OR
        clear bw sx C3
        refine ⟨M, ?_⟩
        have hS := M
        refine zstep 6 rfl rfl (by kernel_rfl) ?_
        unfold Oper.wp execOp
        go_simp
        refine wpAnyZ_done (by kernel_rfl) ?_ _
        obtain ⟨ps, cs, hv⟩ := OR.shape
        rw [lS] at hv
        subst hv
        have s2 := OR.sb
        have C2 := Lib.hid (CQ.out ps cs)
        refine aK _ _ ?_
        clear aK hS OR CQ g1 g2 g3 g4
        go_wp2_with (first | (refine wpList_load_row rfl 22 _ rfl w.heap.size rfl 22 _ (0, 0) _ M.k Try.underlying22 rfl (info_n _ lK) ?_) | (refine wpList_load_row rfl 23 _ rfl (w.heap.size + 1) rfl 23 _ (0, 0) _ M.n Try.underlying23 rfl (info_12 _ lN) ?_))
        refine (C2.out _ (hd.below M.bel) s2).mono ?_
        rintro _ w3 ⟨v3, rfl, O3, b3⟩
        replace M := M.below b3
        replace s2 := s2.below b3
        clear b3 C2
        have hc := HEO.out.symm
        have bc := bb
        have lc2 : b.length ≤ 1000 := by have := EB.out; omega
        replace O3 : OwL _ w3 v3 b := O3
        go_upto_region 10 with fail
        rename_i aK
        obtain ⟨pc, cc, hvc⟩ := O3.shape
        subst hvc
        have s3 := O3.sb
        have CC := Lib.hid (CX.out b bc pc b.length cc lc2)
        have HC := Lib.hid (seal_open hc)
        clear O3 CX
        refine wp_region_Z (S := fun w' => SK w K NN w' ∧ SB w' (.slice ps (nb + 16) cs) S) 10 (by kernel_rfl) ?_
        replace M := M.drew
        replace s2 := s2.drew
        replace s3 := s3.drew
        generalize World.drew _ = V at M s2 s3 ⊢
        have hS : SK w K NN V ∧ SB V (.slice ps (nb + 16) cs) S := ⟨M, s2⟩
        refine wpAnyZ_takeL 1 rfl (by kernel_rfl) (by kernel_rfl) (by kernel_rfl) (by kernel_rfl) (by kernel_rfl) (fun _ _ _ h => h) ((show YieldsIf _ _ _ _ (Value.agg (Iv .u8 (NI K))) _ from yieldsIf_row_wanted rfl 22 _ rfl (w.heap.size) rfl 22 _ _ (fun _ h => h.1.k) Try.underlying22 rfl (info_n _ lK))) hS ?_
        simp only [Act.put, List.setIfInBounds_toArray, List.set_cons_zero, List.set_cons_succ]
        refine wpAnyZ_takeL 2 rfl (by kernel_rfl) (by kernel_rfl) (by kernel_rfl) (by kernel_rfl) (by kernel_rfl) (fun _ _ _ h => h) ((show YieldsIf _ _ _ _ (Value.agg (Iv .u8 (NI NN))) _ from yieldsIf_row_wanted rfl 23 _ rfl (w.heap.size + 1) rfl 23 _ _ (fun _ h => h.1.n) Try.underlying23 rfl (info_12 _ lN))) hS ?_
        simp only [Act.put, List.setIfInBounds_toArray, List.set_cons_zero, List.set_cons_succ]
        refine wpAnyZ_takeL 3 rfl (by kernel_rfl) (by kernel_rfl) (by kernel_rfl) (by kernel_rfl) (by kernel_rfl) (fun _ _ _ h => h) (yieldsIf_move rfl _ rfl (.slice pd nd cd) rfl) hS ?_
        simp only [Act.put, List.setIfInBounds_toArray, List.set_cons_zero, List.set_cons_succ]
        refine wpAnyZ_takeL 4 rfl (by kernel_rfl) (by kernel_rfl) (by kernel_rfl) (by kernel_rfl) (by kernel_rfl) (fun _ _ _ h => h) (yieldsIf_move rfl _ rfl (.slice pc b.length cc) rfl) hS ?_
        simp only [Act.put, List.setIfInBounds_toArray, List.set_cons_zero, List.set_cons_succ]
        refine wpAnyZ_takeL 7 rfl (by kernel_rfl) (by kernel_rfl) (by kernel_rfl) (by kernel_rfl) (by kernel_rfl) (fun _ _ _ h => h) (yieldsIf_move rfl _ rfl (.slice ps (nb + 16) cs) rfl) hS ?_
        simp only [Act.put, List.setIfInBounds_toArray, List.set_cons_zero, List.set_cons_succ]
        refine wpAnyZ_takeL 8 rfl (by kernel_rfl) (by kernel_rfl) (by kernel_rfl) (by kernel_rfl) (by kernel_rfl) (fun _ _ _ h => h) (yieldsIf_conv rfl _ rfl (.slice ps (nb + 16) cs) rfl S (fun w' h => h.2)) hS ?_
        simp only [Act.put, List.setIfInBounds_toArray, List.set_cons_zero, List.set_cons_succ]
        refine zstep 0 rfl rfl (by kernel_rfl) ?_
        unfold Oper.wp execOp
        go_simp
        refine (rbox_any _).mono ?_
        rintro _ w7 ⟨xv, rfl, OX, bw⟩
        clear hS
        replace M := M.below bw
        replace s2 := s2.below bw
        replace s3 := s3.below bw
        have hS : SK w K NN _ ∧ SB _ (.slice ps (nb + 16) cs) S := ⟨M, s2⟩
        have sx := OX.sb
        clear bw OX
        refine ⟨hS, ?_⟩
        refine zstep 5 rfl rfl (by kernel_rfl) ?_
        unfold Oper.wp execOp
        go_simp
        refine (CC.out xv _ sx (hd.below M.bel) s3).mono ?_
        rintro _ w8 ⟨rv, rfl, OR, bw⟩
        clear hS
        replace M := M.below bw
        replace s2 := s2.below bw
        replace s3 := s3.below bw
        have hS : SK w K NN _ ∧ SB _ (.slice ps (nb + 16) cs) S := ⟨M, s2⟩
        have sr := OR.sb
        rw [HC.out] at sr
        clear bw OR sx CC s3
        refine ⟨hS, ?_⟩
        refine zstep 6 rfl rfl (by kernel_rfl) ?_
        refine wp_conv _ _ rfl rfl rv rfl S sr ?_
        refine ⟨fun _ => hS, ?_⟩
        simp only [Act.put, List.setIfInBounds_toArray, List.set_cons_zero, List.set_cons_succ]
        refine wpAnyZ_takeL 9 rfl (by kernel_rfl) (by kernel_rfl) (by kernel_rfl) (by kernel_rfl) (by kernel_rfl) (fun _ _ _ h => h) (yieldsIf_strB rfl _ _ rfl S S rfl rfl rfl) hS ?_
        simp only [Act.put, List.setIfInBounds_toArray, List.set_cons_zero, List.set_cons_succ]
        refine zstep 10 rfl rfl (by kernel_rfl) ?_
        unfold Oper.wp execOp
        go_simp
        refine wpAnyZ_done (by kernel_rfl) ?_ _
        refine aK _ _ ?_
        have BE := M.bel
        clear aK hS M s2 sr
        go_wp2
        refine bodyPost_ret (results_tmp rfl _ _ _) ?_ ?_
        · rfl
        · exact ⟨rfl, BE⟩
end Go.Proofs.Yteaddadmdjjfaaa
