/- The law GcmSeals, by contract of Seal and Open (printed by genvc.py). -/
import Derived.Test.YteaddadmdjjfaaaVb
namespace Go.Proofs.Yteaddadmdjjfaaa
open Go.RowKit

theorem wp_conv {o : Oper} {a : Act} {w : World} {K : Act → World → Prop} {Q : Exit → Act → World → Prop} (x : Operand) (d : Tmp) (ho : o.op = .convert 24 9 x) (hd : o.dst = some d) (v : Value) (hx : a.eval x = v) (l : List Nat) (h : SB w v l) (hK : K (a.put (some d) (.string (strB l))) w) : o.wp Try.prog a w K Q := by
  unfold Oper.wp execOp
  simp only [ho, hx, Sem.run_bind, conv_l h, Result.andThen_ok, Sem.run_pure]
  show K (a.put o.dst _) _
  rw [hd]
  exact hK
theorem OwL.sbB {B : Nat} {w w' : World} {v : Value} {l : List Nat} (h : OwL B w v l) (b : Below w.heap.size w w') : SB w' v l := h.sb.below b
set_option maxHeartbeats 8000000 in
set_option maxRecDepth 100000 in
theorem seals_c (CS : SealC) (CO : OpenC) (K NN D b : List Nat) (lK : K.length = 16) (lN : NN.length = 12) (bK : ∀ x ∈ K, x < 256) (bN : ∀ x ∈ NN, x < 256) (bD : ∀ x ∈ D, x < 256) (bb : ∀ x ∈ b, x < 256)
    (pd pb : Option Addr) (nd nb cd cb : Nat) (w : World) (hd : SB w (.slice pd nd cd) D) (hb : SB w (.slice pb nb cb) b) :
    Calls Try.prog 3 #[.agg (Iv .u8 (NI K)), .agg (Iv .u8 (NI NN)), .slice pd nd cd, .slice pb nb cb] w fun e w' => e = .returned (.bool true) ∧ Below w.heap.size w w' := by
  have AW := Lib.hid (gawake_c CS)
  have eb := hb.len.1
  have EB := Lib.hid eb
  clear eb
  go_enter Try.func3, Try.ntmps3
  go_wp2_with fail
  refine (AW.out _).mono ?_
  rintro _ w1 ⟨rfl, b1⟩
  have k1 := ((Below.refl w.heap.size w).alloc (Nat.le_refl _) (.cells (Iv .u8 (NI K)) 22)).alloc (by simp) (.cells (Iv .u8 (NI NN)) 23)
  have M : SK w K NN w1 := SK.below ⟨(Blk.new w 22 (Iv .u8 (NI K))).alloc _, Blk.new' (by simp) _ (Iv .u8 (NI NN)), k1⟩ b1
  clear AW b1 k1
  by_cases g1 : 200 < nd
  · have g2 : (200 : Int) < (nd : Int) := by omega
    go_wp2
    go_ret
    exact ⟨rfl, M.bel⟩
  · have g2 : ¬ (200 : Int) < (nd : Int) := by omega
    by_cases g3 : 200 < nb
    · have g4 : (200 : Int) < (nb : Int) := by omega
      go_wp2
      go_ret
      exact ⟨rfl, M.bel⟩
    · have g4 : ¬ (200 : Int) < (nb : Int) := by omega
      obtain ⟨S, hS⟩ : ∃ S, S = sealL K NN D b := ⟨_, rfl⟩
      have lS : S.length = nb + 16 := by rw [hS, sealL_length, EB.out]
      have bS : ∀ x ∈ S, x < 256 := by rw [hS]; exact sealL_bytes bK bN bb (by have := EB.out; omega)
      have eO : some b = openL K NN D S := by rw [hS]; exact (open_seal K NN D b).symm
      have C1 := Lib.hid (fun W h1 h2 => CS K NN D b S pd pb nd nb cd cb lK lN bK bN bD bb (by omega) (by omega) hS W h1 h2)
      have C2 := Lib.hid (fun ps cs W h1 h2 => CO K NN D S (some b) pd ps nd (nb + 16) cd cs lK lN bK bN bD bS (by omega) (by omega) eO W h1 h2)
      have C3 := Lib.hid (fun xv W h0 h1 h2 => rseal_f K NN D b lK lN bK bN bD bb xv pd pb nd nb cd cb (by omega) (by omega) W h0 h1 h2)
      have HS := Lib.hid hS
      clear hS eO bS g1 g3
      go_wp2_with (first | (refine wpList_load_row rfl 22 _ rfl w.heap.size rfl 22 _ (0, 0) _ M.k Try.underlying22 rfl (info_n _ lK) ?_) | (refine wpList_load_row rfl 23 _ rfl (w.heap.size + 1) rfl 23 _ (0, 0) _ M.n Try.underlying23 rfl (info_12 _ lN) ?_))
      refine (C1.out _ (hd.below M.bel) (hb.below M.bel)).mono ?_
      rintro _ w2 ⟨v2, rfl, O2, b2⟩
      obtain ⟨ps, cs, hv⟩ := O2.shape
      rw [lS] at hv
      subst hv
      replace M := M.below b2
      clear b2 C1 g2 g4
      have s2 := O2.sb
      clear O2
      go_wp2_with (first | (refine wpList_load_row rfl 22 _ rfl w.heap.size rfl 22 _ (0, 0) _ M.k Try.underlying22 rfl (info_n _ lK) ?_) | (refine wpList_load_row rfl 23 _ rfl (w.heap.size + 1) rfl 23 _ (0, 0) _ M.n Try.underlying23 rfl (info_12 _ lN) ?_))
      refine (C2.out ps cs _ (hd.below M.bel) s2).mono ?_
      rintro _ w3 ⟨v3, rfl, O3, b3⟩
      replace M := M.below b3
      replace s2 := s2.below b3
      have s3 : SB w3 v3 b := O3.sb
      clear b3 C2 O3
      go_upto_region 7 with fail
      rename_i aK
      refine wp_region_Z (S := fun w' => SK w K NN w' ∧ SB w' (.slice ps (nb + 16) cs) S ∧ SB w' v3 b) 20 (by kernel_rfl) ?_
      replace M := M.drew
      replace s2 := s2.drew
      replace s3 := s3.drew
      generalize World.drew w3 = V at M s2 s3 ⊢
      have hS : SK w K NN V ∧ SB V (.slice ps (nb + 16) cs) S ∧ SB V v3 b := ⟨M, s2, s3⟩
      refine wpAnyZ_takeL 0 rfl (by kernel_rfl) (by kernel_rfl) (by kernel_rfl) (by kernel_rfl) (by kernel_rfl) (fun _ _ _ h => h) (yieldsIf_move rfl _ rfl (.slice ps (nb + 16) cs) rfl) hS ?_
      simp only [Act.put, List.setIfInBounds_toArray, List.set_cons_zero, List.set_cons_succ]
      refine wpAnyZ_takeL 1 rfl (by kernel_rfl) (by kernel_rfl) (by kernel_rfl) (by kernel_rfl) (by kernel_rfl) (fun _ _ _ h => h) (yieldsIf_conv rfl _ rfl (.slice ps (nb + 16) cs) rfl S (fun w' h => h.2.1)) hS ?_
      simp only [Act.put, List.setIfInBounds_toArray, List.set_cons_zero, List.set_cons_succ]
      refine wpAnyZ_takeL 3 rfl (by kernel_rfl) (by kernel_rfl) (by kernel_rfl) (by kernel_rfl) (by kernel_rfl) (fun _ _ _ h => h) ((show YieldsIf _ _ _ _ (Value.agg (Iv .u8 (NI K))) _ from yieldsIf_row_wanted rfl 22 _ rfl (w.heap.size) rfl 22 _ _ (fun _ h => h.1.k) Try.underlying22 rfl (info_n _ lK))) hS ?_
      simp only [Act.put, List.setIfInBounds_toArray, List.set_cons_zero, List.set_cons_succ]
      refine wpAnyZ_takeL 4 rfl (by kernel_rfl) (by kernel_rfl) (by kernel_rfl) (by kernel_rfl) (by kernel_rfl) (fun _ _ _ h => h) ((show YieldsIf _ _ _ _ (Value.agg (Iv .u8 (NI NN))) _ from yieldsIf_row_wanted rfl 23 _ rfl (w.heap.size + 1) rfl 23 _ _ (fun _ h => h.1.n) Try.underlying23 rfl (info_12 _ lN))) hS ?_
      simp only [Act.put, List.setIfInBounds_toArray, List.set_cons_zero, List.set_cons_succ]
      refine wpAnyZ_takeL 5 rfl (by kernel_rfl) (by kernel_rfl) (by kernel_rfl) (by kernel_rfl) (by kernel_rfl) (fun _ _ _ h => h) (yieldsIf_move rfl _ rfl (.slice pd nd cd) rfl) hS ?_
      simp only [Act.put, List.setIfInBounds_toArray, List.set_cons_zero, List.set_cons_succ]
      refine wpAnyZ_takeL 6 rfl (by kernel_rfl) (by kernel_rfl) (by kernel_rfl) (by kernel_rfl) (by kernel_rfl) (fun _ _ _ h => h) (yieldsIf_move rfl _ rfl (.slice pb nb cb) rfl) hS ?_
      simp only [Act.put, List.setIfInBounds_toArray, List.set_cons_zero, List.set_cons_succ]
      refine zstep 2 rfl rfl (by kernel_rfl) ?_
      unfold Oper.wp execOp
      go_simp
      refine (rbox_any _).mono ?_
      rintro _ w4 ⟨xv, rfl, OX, bw⟩
      clear hS
      replace M := M.below bw
      replace s2 := s2.below bw
      replace s3 := s3.below bw
      have hS : SK w K NN _ ∧ SB _ (.slice ps (nb + 16) cs) S ∧ SB _ v3 b := ⟨M, s2, s3⟩
      have sx := OX.sb
      clear bw OX
      refine ⟨hS, ?_⟩
      refine zstep 7 rfl rfl (by kernel_rfl) ?_
      unfold Oper.wp execOp
      go_simp
      refine (C3.out xv _ sx (hd.below M.bel) (hb.below M.bel)).mono ?_
      rintro _ w5 ⟨rv, rfl, OR, bw⟩
      clear hS
      replace M := M.below bw
      replace s2 := s2.below bw
      replace s3 := s3.below bw
      have hS : SK w K NN _ ∧ SB _ (.slice ps (nb + 16) cs) S ∧ SB _ v3 b := ⟨M, s2, s3⟩
      have sr := OR.sb
      rw [← HS.out] at sr
      clear bw OR sx C3
      refine ⟨hS, ?_⟩
      refine zstep 8 rfl rfl (by kernel_rfl) ?_
      refine wp_conv _ _ rfl rfl rv rfl S sr ?_
      refine ⟨fun _ => hS, ?_⟩
      simp only [Act.put, List.setIfInBounds_toArray, List.set_cons_zero, List.set_cons_succ]
      refine wpAnyZ_takeL 9 rfl (by kernel_rfl) (by kernel_rfl) (by kernel_rfl) (by kernel_rfl) (by kernel_rfl) (fun _ _ _ h => h) (yieldsIf_strB rfl _ _ rfl S S rfl rfl rfl) hS ?_
      simp only [Act.put, List.setIfInBounds_toArray, List.set_cons_zero, List.set_cons_succ]
      refine wpAnyZ_takeL 10 rfl (by kernel_rfl) (by kernel_rfl) (by kernel_rfl) (by kernel_rfl) (by kernel_rfl) (fun _ _ _ h => h) (yieldsIf_move rfl _ rfl (.bool true) rfl) hS ?_
      simp only [Act.put, List.setIfInBounds_toArray, List.set_cons_zero, List.set_cons_succ]
      refine wpAnyZ_takeL 11 rfl (by kernel_rfl) (by kernel_rfl) (by kernel_rfl) (by kernel_rfl) (by kernel_rfl) (fun _ _ _ h => h) (yieldsIf_move rfl _ rfl (.bool true) rfl) hS ?_
      simp only [Act.put, List.setIfInBounds_toArray, List.set_cons_zero, List.set_cons_succ]
      refine wpAnyZ_takeL 12 rfl (by kernel_rfl) (by kernel_rfl) (by kernel_rfl) (by kernel_rfl) (by kernel_rfl) (fun _ _ _ h => h) (yieldsIf_pick rfl _ _ _ rfl true rfl (.bool true) rfl) hS ?_
      simp only [Act.put, List.setIfInBounds_toArray, List.set_cons_zero, List.set_cons_succ]
      refine wpAnyZ_takeL 13 rfl (by kernel_rfl) (by kernel_rfl) (by kernel_rfl) (by kernel_rfl) (by kernel_rfl) (fun _ _ _ h => h) (yieldsIf_move rfl _ rfl (.bool true) rfl) hS ?_
      simp only [Act.put, List.setIfInBounds_toArray, List.set_cons_zero, List.set_cons_succ]
      refine wpAnyZ_takeL 14 rfl (by kernel_rfl) (by kernel_rfl) (by kernel_rfl) (by kernel_rfl) (by kernel_rfl) (fun _ _ _ h => h) (yieldsIf_move rfl _ rfl v3 rfl) hS ?_
      simp only [Act.put, List.setIfInBounds_toArray, List.set_cons_zero, List.set_cons_succ]
      refine wpAnyZ_takeL 15 rfl (by kernel_rfl) (by kernel_rfl) (by kernel_rfl) (by kernel_rfl) (by kernel_rfl) (fun _ _ _ h => h) (yieldsIf_conv rfl _ rfl v3 rfl b (fun w' h => h.2.2)) hS ?_
      simp only [Act.put, List.setIfInBounds_toArray, List.set_cons_zero, List.set_cons_succ]
      refine wpAnyZ_takeL 16 rfl (by kernel_rfl) (by kernel_rfl) (by kernel_rfl) (by kernel_rfl) (by kernel_rfl) (fun _ _ _ h => h) (yieldsIf_move rfl _ rfl (.slice pb nb cb) rfl) hS ?_
      simp only [Act.put, List.setIfInBounds_toArray, List.set_cons_zero, List.set_cons_succ]
      refine wpAnyZ_takeL 17 rfl (by kernel_rfl) (by kernel_rfl) (by kernel_rfl) (by kernel_rfl) (by kernel_rfl) (fun _ _ _ h => h) (yieldsIf_conv rfl _ rfl (.slice pb nb cb) rfl b (fun w' h => hb.below h.1.bel)) hS ?_
      simp only [Act.put, List.setIfInBounds_toArray, List.set_cons_zero, List.set_cons_succ]
      refine wpAnyZ_takeL 18 rfl (by kernel_rfl) (by kernel_rfl) (by kernel_rfl) (by kernel_rfl) (by kernel_rfl) (fun _ _ _ h => h) (yieldsIf_strB rfl _ _ rfl b b rfl rfl rfl) hS ?_
      simp only [Act.put, List.setIfInBounds_toArray, List.set_cons_zero, List.set_cons_succ]
      refine wpAnyZ_takeL 19 rfl (by kernel_rfl) (by kernel_rfl) (by kernel_rfl) (by kernel_rfl) (by kernel_rfl) (fun _ _ _ h => h) (yieldsIf_pick rfl _ _ _ rfl true rfl (.bool true) rfl) hS ?_
      simp only [Act.put, List.setIfInBounds_toArray, List.set_cons_zero, List.set_cons_succ]
      refine zstep 20 rfl rfl (by kernel_rfl) ?_
      unfold Oper.wp execOp
      go_simp
      refine wpAnyZ_done (by kernel_rfl) ?_ _
      refine aK _ _ ?_
      have BE := M.bel
      clear aK hS M s2 s3 sr
      go_wp2
      refine bodyPost_ret (results_tmp rfl _ _ _) ?_ ?_
      · rfl
      · exact ⟨rfl, BE⟩
end Go.Proofs.Yteaddadmdjjfaaa
