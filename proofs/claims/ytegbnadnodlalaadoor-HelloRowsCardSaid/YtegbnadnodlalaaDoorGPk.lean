/- The contract of curve's Add (printed by gencurve.py). -/
import Derived.Test.YtegbnadnodlalaaDoorGPf
namespace Go.Proofs.YtegbnadnodlalaaDoor
open Go.RowKit
set_option maxHeartbeats 4000000 in
set_option maxRecDepth 100000 in
theorem cadd (ps : List P4) (hok : ∀ p ∈ ps, p.Ok) (n g : Nat) (hn : ps.length = n) (hbig : n ≤ 1000) (w : World) (hg : Blk w g 80 (Pl ps)) (GD : Rng w 3 (Iv .u8 (keyOf dN))) :
    Calls Tryd.prog 50 #[.slice (some ⟨g, 0, none⟩) n n] w fun e w' => e = .returned (PV (psum ps)) ∧ Below w.heap.size w w' := by
  have bGD := GD.blk
  have bG := hg.lt
  go_enter Tryd.func50, Tryd.ntmps50
  go_upto_region 1 with fail
  generalize hW : World.alloc w _ = W
  have hB : Below w.heap.size w W := hW ▸ (Below.refl w.heap.size w).alloc (Nat.le_refl _) _
  have K0 : Blk W (w.heap.size) 80 (Pc p40) := hW ▸ Blk.new' rfl _ _
  have hS : Facts [.blk (g) 80 (Pl ps), .rng 3 (Iv .u8 (keyOf dN))] W := Facts.cons (f := .blk g 80 (Pl ps)) (hg.below' hB) (Facts.cons (f := .rng 3 (Iv .u8 (keyOf dN))) (GD.below hB) Facts.nil)
  clear hW
  refine wp_region_seq ?_
  refine wpSeq_wp rfl ?_
  go_simp
  refine (czero_v _).mono ?_
  rintro e v1 ⟨rfl, b⟩
  replace hB := hB.trans (b.mono hB.size)
  replace hS := hS.below b
  replace K0 := K0.below' b
  clear b
  show wpSeq _ _ _ _ _ _
  refine wpSeq_allocQ 80 (Pc p40) rfl (fun W => by go_simp; rfl) ?_
  intro B1 C1 AB1 b mB1
  simp only [Act.put, List.setIfInBounds_toArray, List.set_cons_zero, List.set_cons_succ]
  have hb := b
  clear b
  refine wpSeq_store_row rfl 80 _ _ rfl (B1) (Pc pzero) rfl rfl _ _ AB1 (info_Pc _) (Pc_same _ _) (Pc_one _) ?_
  try simp only [Act.put, List.setIfInBounds_toArray, List.set_cons_zero, List.set_cons_succ]
  replace AB1 := AB1.row (Pc pzero)
  replace hb := below_setRow hb mB1 (Pc pzero)
  generalize hWn : World.setRow _ _ _ = Wn at *
  clear hWn
  have eB1_0 := Nat.lt_of_lt_of_le (hS.blkAt (g) 80 (Pl ps) (.head _)).lt mB1
  have uB1_K0 := Nat.lt_of_lt_of_le K0.lt mB1
  replace mB1 := Nat.le_trans hB.size mB1
  replace hB := hB.trans (hb.mono hB.size)
  replace hS := hS.below hb
  replace K0 := K0.below' hb
  clear hb
  replace hS : Facts [.blk (B1) 80 (Pc pzero), .blk (g) 80 (Pl ps), .rng 3 (Iv .u8 (keyOf dN))] _ := Facts.cons (f := .blk B1 80 (Pc pzero)) AB1 hS
  clear AB1
  refine wpSeq_nil ?_
  go_upto_region 2 with fail
  go_wp2_with fail
  go_loopw [9] (fun i wr => ∃ k : Nat, k ≤ n ∧ i = .int .i64 k ∧ Below w.heap.size w wr ∧ Blk wr (w.heap.size) 80 (Pc p40) ∧ Facts [.blk (B1) 80 (Pc (psum (ps.take k))), .blk (g) 80 (Pl ps), .rng 3 (Iv .u8 (keyOf dN))] wr) (fun i _ => n - (intOf i).toNat)
  case atStart => exact ⟨0, by omega, rfl, hB, K0, hS⟩
  case round =>
    obtain ⟨k, hk, rfl, hB, K0, hS⟩ := hrel
    by_cases hlt : k < n
    · have i2 : (k : Int) < (n : Int) := by omega
      obtain ⟨p, hp⟩ : ∃ p, ps[k]? = some p := ⟨_, List.getElem?_eq_getElem (by omega)⟩
      have pok := hok p (List.mem_of_getElem? hp)
      have hnext := psum_next ps k p hp
      have sok := psum_ok (ps.take k) (fun p h => hok p (List.mem_of_mem_take h))
      generalize psum (ps.take k) = s at *
      have i1 : (0 : Int) ≤ (k : Int) := by omega
      have C5 := Lib.hid (fun W GD => cplus s p sok pok W GD)
      have HP := Lib.hid hp
      have HN := Lib.hid hnext
      have i3 : (k : Int).toNat = k := by omega
      clear hp hnext sok pok
      go_upto_region 4 with fail
      refine wp_region_seq ?_
      refine wpSeq_yield (S := Facts [.blk (B1) 80 (Pc s), .blk (g) 80 (Pl ps), .rng 3 (Iv .u8 (keyOf dN))]) (v := (.pointer (some ⟨g, k * 20, none⟩))) (Or.inl ⟨by rfl, ?_⟩) hS ?_
      · intro w' _
        go_simp
      simp only [Act.put, List.setIfInBounds_toArray, List.set_cons_zero, List.set_cons_succ]
      refine wpSeq_yield (S := Facts [.blk (B1) 80 (Pc s), .blk (g) 80 (Pl ps), .rng 3 (Iv .u8 (keyOf dN))]) (show YieldsIf _ _ _ _ (PV p) _ from yieldsIf_load_mid rfl 80 _ rfl g (k * 20) rfl (Pc p).toList _ (fun _ h => rangePl (h.blkAt g 80 (Pl ps) (.tail _ (.head _))) k p HP.out) Tryd.underlying80 rfl (info_Pc p)) hS ?_
      simp only [Act.put, List.setIfInBounds_toArray, List.set_cons_zero, List.set_cons_succ]
      refine wpSeq_allocQ 80 (Pc p40) rfl (fun W => by go_simp; rfl) ?_
      intro B2 C2 AB2 b mB2
      simp only [Act.put, List.setIfInBounds_toArray, List.set_cons_zero, List.set_cons_succ]
      have hb := b
      clear b
      refine wpSeq_store_row rfl 80 _ _ rfl (B2) (Pc p) rfl rfl _ _ AB2 (info_Pc _) (Pc_same _ _) (Pc_one _) ?_
      try simp only [Act.put, List.setIfInBounds_toArray, List.set_cons_zero, List.set_cons_succ]
      replace AB2 := AB2.row (Pc p)
      replace hb := below_setRow hb mB2 (Pc p)
      generalize hWn : World.setRow _ _ _ = Wn at *
      clear hWn
      have eB2_0 := Nat.lt_of_lt_of_le (hS.blkAt (B1) 80 (Pc s) (.head _)).lt mB2
      have eB2_1 := Nat.lt_of_lt_of_le (hS.blkAt (g) 80 (Pl ps) (.tail _ (.head _))).lt mB2
      have uB2_K0 := Nat.lt_of_lt_of_le K0.lt mB2
      replace mB2 := Nat.le_trans hB.size mB2
      replace hB := hB.trans (hb.mono hB.size)
      replace hS := hS.below hb
      replace K0 := K0.below' hb
      clear hb
      replace hS : Facts [.blk (B2) 80 (Pc p), .blk (B1) 80 (Pc s), .blk (g) 80 (Pl ps), .rng 3 (Iv .u8 (keyOf dN))] _ := Facts.cons (f := .blk B2 80 (Pc p)) AB2 hS
      clear AB2
      refine wpSeq_nil ?_
      go_upto_region 5 with fail
      refine wp_region_seq ?_
      refine wpSeq_yield (S := Facts [.blk (B2) 80 (Pc p), .blk (B1) 80 (Pc s), .blk (g) 80 (Pl ps), .rng 3 (Iv .u8 (keyOf dN))]) (show YieldsIf _ _ _ _ (PV s) _ from yieldsIf_load rfl 80 _ rfl (B1) rfl 80 _ _ (.tail _ (.head _)) Tryd.underlying80 rfl (info_Pc _)) hS ?_
      simp only [Act.put, List.setIfInBounds_toArray, List.set_cons_zero, List.set_cons_succ]
      refine wpSeq_yield (S := Facts [.blk (B2) 80 (Pc p), .blk (B1) 80 (Pc s), .blk (g) 80 (Pl ps), .rng 3 (Iv .u8 (keyOf dN))]) (show YieldsIf _ _ _ _ (PV p) _ from yieldsIf_load rfl 80 _ rfl (B2) rfl 80 _ _ (.head _) Tryd.underlying80 rfl (info_Pc _)) hS ?_
      simp only [Act.put, List.setIfInBounds_toArray, List.set_cons_zero, List.set_cons_succ]
      refine wpSeq_wp rfl ?_
      go_simp
      refine (C5.out _ (hS.rngAt _ _ (.tail _ (.tail _ (.tail _ (.head _)))))).mono ?_
      rintro e v2 ⟨rfl, b⟩
      replace hB := hB.trans (b.mono hB.size)
      replace hS := hS.below b
      replace K0 := K0.below' b
      clear b
      show wpSeq _ _ _ _ _ _
      refine wpSeq_store_row rfl 80 _ _ rfl (B1) (Pc (padd s p)) rfl rfl _ _ (hS.blkAt (B1) 80 (Pc s) (.tail _ (.head _))) (info_Pc _) rfl (Pc_one _) ?_
      try simp only [Act.put, List.setIfInBounds_toArray, List.set_cons_zero, List.set_cons_succ]
      replace K0 := K0.rowFar (k := B1) (by omega) (Pc (padd s p))
      replace hB := below_setRow hB (g := B1) (by omega) (Pc (padd s p))
      replace hS : Facts [.blk (B2) 80 (Pc p), .blk (B1) 80 (Pc (padd s p)), .blk (g) 80 (Pl ps), .rng 3 (Iv .u8 (keyOf dN))] _ := Facts.cons (f := .blk (B2) 80 (Pc p)) ((hS.blkAt (B2) 80 (Pc p) (.head _)).rowFar (k := B1) (by first | omega | exact blk_ne (hS.blkAt _ _ _ (.head _)) (hS.blkAt _ _ _ (.tail _ (.head _))) (by decide)) _) (Facts.cons (f := .blk (B1) 80 (Pc (padd s p))) ((hS.blkAt (B1) 80 (Pc s) (.tail _ (.head _))).row _) (Facts.cons (f := .blk (g) 80 (Pl ps)) ((hS.blkAt (g) 80 (Pl ps) (.tail _ (.tail _ (.head _)))).rowFar (k := B1) (by first | omega | exact blk_ne (hS.blkAt _ _ _ (.tail _ (.tail _ (.head _)))) (hS.blkAt _ _ _ (.tail _ (.head _))) (by decide)) _) (Facts.cons (f := .rng 3 (Iv .u8 (keyOf dN))) ((hS.rngAt _ _ (.tail _ (.tail _ (.tail _ (.head _))))).rowFar (k := B1) (by omega) _) (Facts.nil))))
      generalize hWn : World.setRow _ _ _ = Wn at *
      clear hWn
      refine wpSeq_nil ?_
      have hF := hS.blkAt (B1) 80 (Pc (padd s p)) (.tail _ (.head _))
      go_wp2
      exact ⟨⟨k + 1, by omega, by go_num, hB, K0, Facts.cons (f := .blk (B1) 80 _) (by show Blk _ _ _ (Pc (psum (ps.take (k + 1)))); rw [HN.out]; exact hF) (Facts.cons (f := .blk (g) 80 (Pl ps)) (hS.blkAt (g) 80 (Pl ps) (.tail _ (.tail _ (.head _)))) (Facts.cons (f := .rng 3 (Iv .u8 (keyOf dN))) (hS.rngAt _ _ (.tail _ (.tail _ (.tail _ (.head _))))) Facts.nil))⟩, by simp [intOf]; omega⟩
    · obtain rfl : k = n := by omega
      rw [show ps.take k = ps by rw [← hn]; exact List.take_length] at hS
      go_upto_region 7 with fail
      refine wp_region_seq ?_
      refine wpSeq_yield (S := Facts [.blk (B1) 80 (Pc (psum ps)), .blk (g) 80 (Pl ps), .rng 3 (Iv .u8 (keyOf dN))]) (show YieldsIf _ _ _ _ (PV (psum ps)) _ from yieldsIf_load rfl 80 _ rfl (B1) rfl 80 _ _ (.head _) Tryd.underlying80 rfl (info_Pc _)) hS ?_
      simp only [Act.put, List.setIfInBounds_toArray, List.set_cons_zero, List.set_cons_succ]
      refine wpSeq_store_row rfl 80 _ _ rfl (w.heap.size) (Pc (psum ps)) rfl rfl _ _ K0 (info_Pc _) (Pc_same _ _) (Pc_one _) ?_
      try simp only [Act.put, List.setIfInBounds_toArray, List.set_cons_zero, List.set_cons_succ]
      replace hB := below_setRow hB (g := w.heap.size) (by omega) (Pc (psum ps))
      replace hS : Facts [.blk (B1) 80 (Pc (psum ps)), .blk (g) 80 (Pl ps), .rng 3 (Iv .u8 (keyOf dN))] _ := Facts.cons (f := .blk (B1) 80 (Pc (psum ps))) ((hS.blkAt (B1) 80 (Pc (psum ps)) (.head _)).rowFar (k := w.heap.size) (by omega) (Pc (psum ps))) (Facts.cons (f := .blk (g) 80 (Pl ps)) ((hS.blkAt (g) 80 (Pl ps) (.tail _ (.head _))).rowFar (k := w.heap.size) (by omega) (Pc (psum ps))) (Facts.cons (f := .rng 3 (Iv .u8 (keyOf dN))) ((hS.rngAt _ _ (.tail _ (.tail _ (.head _)))).rowFar (k := w.heap.size) (by omega) (Pc (psum ps))) (Facts.nil)))
      replace K0 := K0.row (Pc (psum ps))
      generalize hWn : World.setRow _ _ _ = Wn at *
      clear hWn
      refine wpSeq_nil ?_
      go_wp2
      exact bodyPost_ret (results_cell_row rfl _ _ _ 80 _ (0, 0) _ rfl K0 Tryd.underlying80 rfl (info_Pc _)) rfl ⟨rfl, hB⟩
end Go.Proofs.YtegbnadnodlalaaDoor
