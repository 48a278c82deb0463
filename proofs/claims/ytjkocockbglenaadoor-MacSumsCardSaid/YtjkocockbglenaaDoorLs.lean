/- The law MacSums. -/
import Derived.Test.YtjkocockbglenaaDoorQn
namespace Go.Proofs.YtjkocockbglenaaDoor
open Go.RowKit

/-- What stands throughout. -/
structure SsW (w : World) (kv av bv : Value) (K A B O : List Nat) (G : Nat) (wr : World) : Prop where
  b : Below w.heap.size w wr
  key : SB wr kv K
  a : SB wr av A
  bb : SB wr bv B
  tab : Tab wr cuT
  sq : Sq wr sqT
  ref : Ref wr cuT sqT
  o : Blk wr G 25 (Iv .u8 (NI O))
theorem SsW.below {w : World} {kv av bv : Value} {K A B O : List Nat} {G : Nat} {wr w2 : World} (h : SsW w kv av bv K A B O G wr) (hb : Below wr.heap.size wr w2) : SsW w kv av bv K A B O G w2 :=
  ⟨h.b.trans (hb.mono h.b.size), h.key.below hb, h.a.below hb, h.bb.below hb, h.tab.below hb, h.sq.below hb, h.ref.below hb, h.o.below' hb⟩

set_option maxHeartbeats 4000000 in
set_option maxRecDepth 100000 in
theorem sums_any (w : World) (K A B : List Nat) (pk pa pb : Option Addr) (ck ca cb : Nat) (T : Tab w cuT) (S : Sq w sqT) (R : Ref w cuT sqT) (hk : SB w (.slice pk K.length ck) K) (ha : SB w (.slice pa A.length ca) A) (hb : SB w (.slice pb B.length cb) B) (bK : Bytes K) (bA : Bytes A) (bB : Bytes B) :
    Calls Tryd.prog 3 #[.slice pk K.length ck, .slice pa A.length ca, .slice pb B.length cb] w fun e w' => e = .returned (.bool true) ∧ Below w.heap.size w w' := by
  have CA := Lib.hid (awake_any w T S)
  go_enter Tryd.func3, Tryd.ntmps3
  go_wp2_with fail
  refine CA.out.mono ?_
  rintro _ w1 ⟨rfl, b1⟩
  replace hk := hk.below b1
  replace ha := ha.below b1
  replace hb := hb.below b1
  replace T := T.below b1
  replace S := S.below b1
  replace R := R.below b1
  clear CA
  go_upto_region 3 with fail
  by_cases h1 : (500 : Int) < (K.length : Int)
  · go_wp2
    go_ret
    exact ⟨rfl, b1⟩
  by_cases h2 : (500 : Int) < (A.length : Int)
  · go_wp2
    go_ret
    exact ⟨rfl, b1⟩
  by_cases h3 : (500 : Int) < (B.length : Int)
  · go_wp2
    go_ret
    exact ⟨rfl, b1⟩
  go_upto_region 5 with fail
  have O0 := ow_none w1.heap.size w1 (Nat.le_refl _)
  have B0 : Below w1.heap.size w1 _ := (Below.refl _ _).alloc (Nat.le_refl _) (.cells #[] 5)
  obtain ⟨v2, w2, r2, O2, g2, _⟩ := append_sb w1.heap.size _ 22 _ _ [] A O0 (ha.below B0) (by simp; omega) B0.size
  have B2 : Below w1.heap.size w1 w2 := below_grown' B0 g2 (fun j hj => (O0.lt j hj).1) B0.size
  rw [List.nil_append] at O2
  obtain ⟨v3, w3, r3, O3, g3, _⟩ := append_sb w1.heap.size _ 22 _ _ A B O2 (hb.below B2) (by omega) B2.size
  have B3 : Below w1.heap.size w1 w3 := below_grown' B2 g3 (fun j hj => (O2.lt j hj).1) B2.size
  have CM := Lib.hid (rmac_any w3 cuT sqT K (A ++ B) bK (bA.append bB) _ v3 (hk.below B3) O3.sb (by omega) (by rw [List.length_append]; omega) (R.below B3))
  obtain ⟨O, hO⟩ : ∃ O, O = hmac cuT sqT K (A ++ B) := ⟨_, rfl⟩
  have lO : O.length = 32 := by rw [hO, hmac_length]
  rw [← hO] at CM
  have HO := Lib.hid hO
  clear hO
  go_wp2_with (first | (refine wpList_build_run rfl _ rfl _ _ (run_buildSlice_none _) ?_) | (refine wpList_append_run rfl _ _ _ _ rfl _ _ rfl rfl _ _ r2 ?_) | (refine wpList_append_run rfl _ _ _ _ rfl _ _ rfl rfl _ _ r3 ?_))
  refine CM.out.mono ?_
  rintro _ w4 ⟨rfl, b4⟩
  have B4 := B3.trans (b4.mono B3.size)
  clear CM O0 B0 r2 O2 g2 B2 r3 O3 g3 B3 b4
  go_upto_region 6 with (refine wpList_store_row rfl 25 _ _ rfl (w4.heap.size) (Iv .u8 (NI O)) rfl rfl 25 _ (Blk.new w4 25 (Iv .u8 (List.replicate 32 0))) (info_N32 _ lO) (by rw [Iv_size, Iv_size, NI_length, lO]; rfl) (Iv_one _ _) ?_)
  rename_i aK
  change Code.wp _ _ _ _ (World.setRow (w4.alloc (.cells (Iv .u8 (List.replicate 32 0)) 25)) w4.heap.size _)
  have b5 := below_setRow ((Below.refl w4.heap.size w4).alloc (Nat.le_refl _) (.cells (Iv .u8 (List.replicate 32 0)) 25)) (Nat.le_refl w4.heap.size) (Iv .u8 (NI O))
  have A5 := (Blk.new w4 25 (Iv .u8 (List.replicate 32 0))).row (Iv .u8 (NI O))
  have B5 := B4.trans (b5.mono B4.size)
  have b6 := b1.trans (B5.mono b1.size)
  have F : SsW w (.slice pk K.length ck) (.slice pa A.length ca) (.slice pb B.length cb) K A B O w4.heap.size _ := ⟨b6, hk.below B5, ha.below B5, hb.below B5, T.below B5, S.below B5, R.below B5, A5⟩
  generalize World.setRow _ _ _ = V at F ⊢
  generalize w4.heap.size = G at F ⊢
  clear b5 A5 B5 b6 B4 hk ha hb T S R b1
  simp only [Act.put]
  have hS := F.below (below_drew (Below.refl V.heap.size V))
  clear F
  have lN : (NI O).length = 32 := by rw [NI_length, lO]
  obtain ⟨E, hE⟩ : ∃ E, E = hmac cuT sqT K A := ⟨_, rfl⟩
  have lE : (NI E).length = 32 := by rw [NI_length, hE, hmac_length]
  have HE := Lib.hid hE
  clear hE
  refine wp_region_S (S := SsW w (.slice pk K.length ck) (.slice pa A.length ca) (.slice pb B.length cb) K A B O G) (by kernel_rfl) ?_
  generalize World.drew V = V0 at *
  refine wpAnyS_takeL 0 rfl (by kernel_rfl) (by kernel_rfl) (by kernel_rfl) (fun _ _ _ h => h) (yieldsIf_move rfl _ rfl _ rfl) hS ?_
  simp only [Act.put, List.setIfInBounds_toArray, List.set_cons_zero, List.set_cons_succ]
  refine wpAnyS_takeL 1 rfl (by kernel_rfl) (by kernel_rfl) (by kernel_rfl) (fun _ _ _ h => h) (yieldsIf_move rfl _ rfl _ rfl) hS ?_
  simp only [Act.put, List.setIfInBounds_toArray, List.set_cons_zero, List.set_cons_succ]
  refine wpAnyS_takeL 2 rfl (by kernel_rfl) (by kernel_rfl) (by kernel_rfl) (fun _ _ _ h => h) (yieldsIf_move rfl _ rfl _ rfl) hS ?_
  simp only [Act.put, List.setIfInBounds_toArray, List.set_cons_zero, List.set_cons_succ]
  refine wpAnyS_takeL 5 rfl (by kernel_rfl) (by kernel_rfl) (by kernel_rfl) (fun _ _ _ h => h) (show YieldsIf _ _ _ _ (.agg (Iv .u8 (NI O))) _ from yieldsIf_row_wanted rfl 25 _ rfl G rfl 25 _ _ (fun _ h => h.o) Tryd.underlying25 rfl (info_N32 _ lO)) hS ?_
  simp only [Act.put, List.setIfInBounds_toArray, List.set_cons_zero, List.set_cons_succ]
  refine wpAnyS_one (i := 3) (by kernel_rfl) ?_
  unfold wpOp
  go_simp
  left
  have b47 := (Below.refl V0.heap.size V0).alloc (Nat.le_refl _) (.cells #[.slice pa A.length ca, .slice pb B.length cb] 22)
  have P47 := sp_two 22 hS.a hS.bb
  replace hS := SsW.below hS b47
  refine ⟨hS, ?_⟩
  generalize World.alloc V0 _ = V1 at *
  clear b47
  generalize V0.heap.size = gp at *
  refine wpAnyS_one (i := 4) (by kernel_rfl) ?_
  unfold wpOp
  go_simp
  left
  refine (sum_any cuT sqT V1 _ _ K _ hS.tab hS.sq hS.key P47 bK (fun x hx => by
    simp only [List.mem_cons, List.not_mem_nil, or_false] at hx
    rcases hx with rfl | rfl
    · exact bA
    · exact bB) (by simp) (by simp) (by omega) (by simp; omega)).mono ?_
  rintro _ V2 ⟨rfl, b⟩
  rw [show [A, B].flatten = A ++ B by simp, ← HO.out]
  replace hS := SsW.below hS b
  refine ⟨hS, ?_⟩
  clear b P47
  refine wpAnyS_takeL 6 rfl (by kernel_rfl) (by kernel_rfl) (by kernel_rfl) (fun _ _ _ h => h) (yieldsIf_eql rfl 25 _ _ _ rfl _ _ rfl rfl (by kernel_rfl) true (fun W => by rw [eql_keys _ _ lN lN]; simp)) hS ?_
  simp only [Act.put, List.setIfInBounds_toArray, List.set_cons_zero, List.set_cons_succ]
  refine wpAnyS_takeL 7 rfl (by kernel_rfl) (by kernel_rfl) (by kernel_rfl) (fun _ _ _ h => h) (yieldsIf_move rfl _ rfl _ rfl) hS ?_
  simp only [Act.put, List.setIfInBounds_toArray, List.set_cons_zero, List.set_cons_succ]
  refine wpAnyS_takeL 8 rfl (by kernel_rfl) (by kernel_rfl) (by kernel_rfl) (fun _ _ _ h => h) (yieldsIf_move rfl _ rfl _ rfl) hS ?_
  simp only [Act.put, List.setIfInBounds_toArray, List.set_cons_zero, List.set_cons_succ]
  refine wpAnyS_takeL 9 rfl (by kernel_rfl) (by kernel_rfl) (by kernel_rfl) (fun _ _ _ h => h) (yieldsIf_move rfl _ rfl _ rfl) hS ?_
  simp only [Act.put, List.setIfInBounds_toArray, List.set_cons_zero, List.set_cons_succ]
  refine wpAnyS_takeL 11 rfl (by kernel_rfl) (by kernel_rfl) (by kernel_rfl) (fun _ _ _ h => h) (yieldsIf_move rfl _ rfl _ rfl) hS ?_
  simp only [Act.put, List.setIfInBounds_toArray, List.set_cons_zero, List.set_cons_succ]
  refine wpAnyS_takeL 12 rfl (by kernel_rfl) (by kernel_rfl) (by kernel_rfl) (fun _ _ _ h => h) (yieldsIf_move rfl _ rfl _ rfl) hS ?_
  simp only [Act.put, List.setIfInBounds_toArray, List.set_cons_zero, List.set_cons_succ]
  refine wpAnyS_one (i := 10) (by kernel_rfl) ?_
  unfold wpOp
  go_simp
  left
  refine (extract_any cuT sqT V2 _ _ K A hS.tab hS.sq hS.key hS.a bK bA (by omega) (by omega)).mono ?_
  rintro _ V3 ⟨rfl, b⟩
  rw [← HE.out]
  replace hS := SsW.below hS b
  refine ⟨hS, ?_⟩
  clear b
  refine wpAnyS_one (i := 13) (by kernel_rfl) ?_
  unfold wpOp
  go_simp
  left
  refine (rmac_any V3 cuT sqT K A bK bA _ _ hS.key hS.a (by omega) (by omega) hS.ref).mono ?_
  rintro _ V4 ⟨rfl, b⟩
  rw [← HE.out]
  replace hS := SsW.below hS b
  refine ⟨hS, ?_⟩
  clear b
  refine wpAnyS_takeL 14 rfl (by kernel_rfl) (by kernel_rfl) (by kernel_rfl) (fun _ _ _ h => h) (yieldsIf_eql rfl 25 _ _ _ rfl _ _ rfl rfl (by kernel_rfl) true (fun W => by rw [eql_keys _ _ lE lE]; simp)) hS ?_
  simp only [Act.put, List.setIfInBounds_toArray, List.set_cons_zero, List.set_cons_succ]
  refine wpAnyS_takeL 15 rfl (by kernel_rfl) (by kernel_rfl) (by kernel_rfl) (fun _ _ _ h => h) (yieldsIf_pick rfl _ _ _ rfl true rfl _ rfl) hS ?_
  simp only [Act.put, List.setIfInBounds_toArray, List.set_cons_zero, List.set_cons_succ]
  refine wpAnyS_takeL 16 rfl (by kernel_rfl) (by kernel_rfl) (by kernel_rfl) (fun _ _ _ h => h) (show YieldsIf _ _ _ _ (.bool true) _ from yieldsIf_assign rfl _ rfl _ rfl) hS ?_
  simp only [Act.put, List.setIfInBounds_toArray, List.set_cons_zero, List.set_cons_succ]
  refine wpAnyS_done (by kernel_rfl) ?_ _
  have HB := hS.b
  clear hS
  refine aK _ _ ?_
  clear aK
  refine wp_ret ?_
  exact bodyPost_ret (results_tmp rfl _ _ _) rfl ⟨rfl, HB⟩
end Go.Proofs.YtjkocockbglenaaDoor
