/- The contract of curve's Add (printed by gencurve.py). -/
import Derived.Test.YtjaomgildhiddaaDoorPf
import Derived.Test.YtjaomgildhiddaaDoorPj
namespace Go.Proofs.YtjaomgildhiddaaDoor
open Go.RowKit

set_option maxHeartbeats 4000000 in
set_option maxRecDepth 100000 in
theorem cadd_nil (w : World) (GD : Rng w 2 (Iv .u8 (keyOf dN))) :
    Calls Tryd.prog 22 #[.slice none 0 0] w fun e w' => e = .returned (PV pzero) ∧ Below w.heap.size w w' := by
  have bGD := GD.blk
  go_enter Tryd.func22, Tryd.ntmps22
  go_upto_region 1 with fail
  generalize hW : World.alloc w _ = W
  have hB : Below w.heap.size w W := hW ▸ (Below.refl w.heap.size w).alloc (Nat.le_refl _) _
  have K0 : Blk W (w.heap.size) 38 (Pc p40) := hW ▸ Blk.new' rfl _ _
  have hS : Facts [.rng 2 (Iv .u8 (keyOf dN))] W := Facts.cons (f := .rng 2 (Iv .u8 (keyOf dN))) (GD.below hB) Facts.nil
  clear hW
  refine wp_region_seq ?_
  refine wpSeq_wp rfl ?_
  go_simp
  refine (czero_v _).mono ?_
  rintro e v1 ⟨rfl, b⟩
  replace hB := hB.trans (b.mono hB.size)
  replace hS := hS.below b
  replace K0 := K0.below' b
  clear b
  show wpSeq _ _ _ _ _ _
  refine wpSeq_allocQ 38 (Pc p40) rfl (fun W => by go_simp; rfl) ?_
  intro B1 C1 AB1 b mB1
  simp only [Act.put, List.setIfInBounds_toArray, List.set_cons_zero, List.set_cons_succ]
  have hb := b
  clear b
  refine wpSeq_store_row rfl 38 _ _ rfl (B1) (Pc pzero) rfl rfl _ _ AB1 (info_Pc _) (Pc_same _ _) (Pc_one _) ?_
  try simp only [Act.put, List.setIfInBounds_toArray, List.set_cons_zero, List.set_cons_succ]
  replace AB1 := AB1.row (Pc pzero)
  replace hb := below_setRow hb mB1 (Pc pzero)
  generalize hWn : World.setRow _ _ _ = Wn at *
  clear hWn
  have uB1_K0 := Nat.lt_of_lt_of_le K0.lt mB1
  replace mB1 := Nat.le_trans hB.size mB1
  replace hB := hB.trans (hb.mono hB.size)
  replace hS := hS.below hb
  replace K0 := K0.below' hb
  clear hb
  replace hS : Facts [.blk (B1) 38 (Pc pzero), .rng 2 (Iv .u8 (keyOf dN))] _ := Facts.cons (f := .blk B1 38 (Pc pzero)) AB1 hS
  clear AB1
  refine wpSeq_nil ?_
  go_upto_region 2 with fail
  go_wp2_with fail
  go_loopw [9] (fun i wr => ∃ k : Nat, k ≤ 0 ∧ i = .int .i64 k ∧ Below w.heap.size w wr ∧ Blk wr (w.heap.size) 38 (Pc p40) ∧ Facts [.blk (B1) 38 (Pc pzero), .rng 2 (Iv .u8 (keyOf dN))] wr) (fun i _ => 0 - (intOf i).toNat)
  case atStart => exact ⟨0, by omega, rfl, hB, K0, hS⟩
  case round =>
    obtain ⟨k, hk, rfl, hB, K0, hS⟩ := hrel
    obtain rfl : k = 0 := by omega
    go_upto_region 7 with fail
    refine wp_region_seq ?_
    refine wpSeq_yield (S := Facts [.blk (B1) 38 (Pc pzero), .rng 2 (Iv .u8 (keyOf dN))]) (show YieldsIf _ _ _ _ (PV pzero) _ from yieldsIf_load rfl 38 _ rfl (B1) rfl 38 _ _ (.head _) Tryd.underlying38 rfl (info_Pc _)) hS ?_
    simp only [Act.put, List.setIfInBounds_toArray, List.set_cons_zero, List.set_cons_succ]
    refine wpSeq_store_row rfl 38 _ _ rfl (w.heap.size) (Pc pzero) rfl rfl _ _ K0 (info_Pc _) (Pc_same _ _) (Pc_one _) ?_
    try simp only [Act.put, List.setIfInBounds_toArray, List.set_cons_zero, List.set_cons_succ]
    replace hB := below_setRow hB (g := w.heap.size) (by omega) (Pc pzero)
    replace hS : Facts [.blk (B1) 38 (Pc pzero), .rng 2 (Iv .u8 (keyOf dN))] _ := Facts.cons (f := .blk (B1) 38 (Pc pzero)) ((hS.blkAt (B1) 38 (Pc pzero) (.head _)).rowFar (k := w.heap.size) (by omega) (Pc pzero)) (Facts.cons (f := .rng 2 (Iv .u8 (keyOf dN))) ((hS.rngAt _ _ (.tail _ (.head _))).rowFar (k := w.heap.size) (by omega) (Pc pzero)) (Facts.nil))
    replace K0 := K0.row (Pc pzero)
    generalize hWn : World.setRow _ _ _ = Wn at *
    clear hWn
    refine wpSeq_nil ?_
    go_wp2
    exact bodyPost_ret (results_cell_row rfl _ _ _ 38 _ (0, 0) _ rfl K0 Tryd.underlying38 rfl (info_Pc _)) rfl ⟨rfl, hB⟩
set_option maxHeartbeats 4000000 in
set_option maxRecDepth 100000 in
theorem cadd (ps : List P4) (hok : ∀ p ∈ ps, p.Ok) (n g : Nat) (hn : ps.length = n) (hbig : n ≤ 1000) (w : World) (hg : Blk w g 38 (Pl ps)) (GD : Rng w 2 (Iv .u8 (keyOf dN))) :
    Calls Tryd.prog 22 #[.slice (some ⟨g, 0, none⟩) n n] w fun e w' => e = .returned (PV (psum ps)) ∧ Below w.heap.size w w' := by
  have bGD := GD.blk
  have bG := hg.lt
  go_enter Tryd.func22, Tryd.ntmps22
  go_upto_region 1 with fail
  generalize hW : World.alloc w _ = W
  have hB : Below w.heap.size w W := hW ▸ (Below.refl w.heap.size w).alloc (Nat.le_refl _) _
  have K0 : Blk W (w.heap.size) 38 (Pc p40) := hW ▸ Blk.new' rfl _ _
  have hS : Facts [.blk (g) 38 (Pl ps), .rng 2 (Iv .u8 (keyOf dN))] W := Facts.cons (f := .blk g 38 (Pl ps)) (hg.below' hB) (Facts.cons (f := .rng 2 (Iv .u8 (keyOf dN))) (GD.below hB) Facts.nil)
  clear hW
  refine wp_region_seq ?_
  refine wpSeq_wp rfl ?_
  go_simp
  refine (czero_v _).mono ?_
  rintro e v1 ⟨rfl, b⟩
  replace hB := hB.trans (b.mono hB.size)
  replace hS := hS.below b
  replace K0 := K0.below' b
  clear b
  show wpSeq _ _ _ _ _ _
  refine wpSeq_allocQ 38 (Pc p40) rfl (fun W => by go_simp; rfl) ?_
  intro B1 C1 AB1 b mB1
  simp only [Act.put, List.setIfInBounds_toArray, List.set_cons_zero, List.set_cons_succ]
  have hb := b
  clear b
  refine wpSeq_store_row rfl 38 _ _ rfl (B1) (Pc pzero) rfl rfl _ _ AB1 (info_Pc _) (Pc_same _ _) (Pc_one _) ?_
  try simp only [Act.put, List.setIfInBounds_toArray, List.set_cons_zero, List.set_cons_succ]
  replace AB1 := AB1.row (Pc pzero)
  replace hb := below_setRow hb mB1 (Pc pzero)
  generalize hWn : World.setRow _ _ _ = Wn at *
  clear hWn
  have eB1_0 := Nat.lt_of_lt_of_le (hS.blkAt (g) 38 (Pl ps) (.head _)).lt mB1
  have uB1_K0 := Nat.lt_of_lt_of_le K0.lt mB1
  replace mB1 := Nat.le_trans hB.size mB1
  replace hB := hB.trans (hb.mono hB.size)
  replace hS := hS.below hb
  replace K0 := K0.below' hb
  clear hb
  replace hS : Facts [.blk (B1) 38 (Pc pzero), .blk (g) 38 (Pl ps), .rng 2 (Iv .u8 (keyOf dN))] _ := Facts.cons (f := .blk B1 38 (Pc pzero)) AB1 hS
  clear AB1
  refine wpSeq_nil ?_
  go_upto_region 2 with fail
  go_wp2_with fail
  go_loopw [9] (fun i wr => ∃ k : Nat, k ≤ n ∧ i = .int .i64 k ∧ Below w.heap.size w wr ∧ Blk wr (w.heap.size) 38 (Pc p40) ∧ Facts [.blk (B1) 38 (Pc (psum (ps.take k))), .blk (g) 38 (Pl ps), .rng 2 (Iv .u8 (keyOf dN))] wr) (fun i _ => n - (intOf i).toNat)
  case atStart => exact ⟨0, by omega, rfl, hB, K0, hS⟩
  case round =>
    obtain ⟨k, hk, rfl, hB, K0, hS⟩ := hrel
    by_cases hlt : k < n
    · have i2 : (k : Int) < (n : Int) := by omega
      obtain ⟨p, hp⟩ : ∃ p, ps[k]? = some p := ⟨_, List.getElem?_eq_getElem (by omega)⟩
      have pok := hok p (List.mem_of_getElem? hp)
      have hnext := psum_next ps k p hp
      have sok := psum_ok (ps.take k) (fun p h => hok p (List.mem_of_mem_take h))
      generalize psum (ps.take k) = s at *
      have i1 : (0 : Int) ≤ (k : Int) := by omega
      have C5 := Lib.hid (fun W GD => cplus s p sok pok W GD)
      have HP := Lib.hid hp
      have HN := Lib.hid hnext
      have i3 : (k : Int).toNat = k := by omega
      clear hp hnext sok pok
      go_upto_region 4 with fail
      refine wp_region_seq ?_
      refine wpSeq_yield (S := Facts [.blk (B1) 38 (Pc s), .blk (g) 38 (Pl ps), .rng 2 (Iv .u8 (keyOf dN))]) (v := (.pointer (some ⟨g, k * 20, none⟩))) (Or.inl ⟨by rfl, ?_⟩) hS ?_
      · intro w' _
        go_simp
      simp only [Act.put, List.setIfInBounds_toArray, List.set_cons_zero, List.set_cons_succ]
      refine wpSeq_yield (S := Facts [.blk (B1) 38 (Pc s), .blk (g) 38 (Pl ps), .rng 2 (Iv .u8 (keyOf dN))]) (show YieldsIf _ _ _ _ (PV p) _ from yieldsIf_load_mid rfl 38 _ rfl g (k * 20) rfl (Pc p).toList _ (fun _ h => rangePl (h.blkAt g 38 (Pl ps) (.tail _ (.head _))) k p HP.out) Tryd.underlying38 rfl (info_Pc p)) hS ?_
      simp only [Act.put, List.setIfInBounds_toArray, List.set_cons_zero, List.set_cons_succ]
      refine wpSeq_allocQ 38 (Pc p40) rfl (fun W => by go_simp; rfl) ?_
      intro B2 C2 AB2 b mB2
      simp only [Act.put, List.setIfInBounds_toArray, List.set_cons_zero, List.set_cons_succ]
      have hb := b
      clear b
      refine wpSeq_store_row rfl 38 _ _ rfl (B2) (Pc p) rfl rfl _ _ AB2 (info_Pc _) (Pc_same _ _) (Pc_one _) ?_
      try simp only [Act.put, List.setIfInBounds_toArray, List.set_cons_zero, List.set_cons_succ]
      replace AB2 := AB2.row (Pc p)
      replace hb := below_setRow hb mB2 (Pc p)
      generalize hWn : World.setRow _ _ _ = Wn at *
      clear hWn
      have eB2_0 := Nat.lt_of_lt_of_le (hS.blkAt (B1) 38 (Pc s) (.head _)).lt mB2
      have eB2_1 := Nat.lt_of_lt_of_le (hS.blkAt (g) 38 (Pl ps) (.tail _ (.head _))).lt mB2
      have uB2_K0 := Nat.lt_of_lt_of_le K0.lt mB2
      replace mB2 := Nat.le_trans hB.size mB2
      replace hB := hB.trans (hb.mono hB.size)
      replace hS := hS.below hb
      replace K0 := K0.below' hb
      clear hb
      replace hS : Facts [.blk (B2) 38 (Pc p), .blk (B1) 38 (Pc s), .blk (g) 38 (Pl ps), .rng 2 (Iv .u8 (keyOf dN))] _ := Facts.cons (f := .blk B2 38 (Pc p)) AB2 hS
      clear AB2
      refine wpSeq_nil ?_
      go_upto_region 5 with fail
      refine wp_region_seq ?_
      refine wpSeq_yield (S := Facts [.blk (B2) 38 (Pc p), .blk (B1) 38 (Pc s), .blk (g) 38 (Pl ps), .rng 2 (Iv .u8 (keyOf dN))]) (show YieldsIf _ _ _ _ (PV s) _ from yieldsIf_load rfl 38 _ rfl (B1) rfl 38 _ _ (.tail _ (.head _)) Tryd.underlying38 rfl (info_Pc _)) hS ?_
      simp only [Act.put, List.setIfInBounds_toArray, List.set_cons_zero, List.set_cons_succ]
      refine wpSeq_yield (S := Facts [.blk (B2) 38 (Pc p), .blk (B1) 38 (Pc s), .blk (g) 38 (Pl ps), .rng 2 (Iv .u8 (keyOf dN))]) (show YieldsIf _ _ _ _ (PV p) _ from yieldsIf_load rfl 38 _ rfl (B2) rfl 38 _ _ (.head _) Tryd.underlying38 rfl (info_Pc _)) hS ?_
      simp only [Act.put, List.setIfInBounds_toArray, List.set_cons_zero, List.set_cons_succ]
      refine wpSeq_wp rfl ?_
      go_simp
      refine (C5.out _ (hS.rngAt _ _ (.tail _ (.tail _ (.tail _ (.head _)))))).mono ?_
      rintro e v2 ⟨rfl, b⟩
      replace hB := hB.trans (b.mono hB.size)
      replace hS := hS.below b
      replace K0 := K0.below' b
      clear b
      show wpSeq _ _ _ _ _ _
      refine wpSeq_store_row rfl 38 _ _ rfl (B1) (Pc (padd s p)) rfl rfl _ _ (hS.blkAt (B1) 38 (Pc s) (.tail _ (.head _))) (info_Pc _) rfl (Pc_one _) ?_
      try simp only [Act.put, List.setIfInBounds_toArray, List.set_cons_zero, List.set_cons_succ]
      replace K0 := K0.rowFar (k := B1) (by omega) (Pc (padd s p))
      replace hB := below_setRow hB (g := B1) (by omega) (Pc (padd s p))
      replace hS : Facts [.blk (B2) 38 (Pc p), .blk (B1) 38 (Pc (padd s p)), .blk (g) 38 (Pl ps), .rng 2 (Iv .u8 (keyOf dN))] _ := Facts.cons (f := .blk (B2) 38 (Pc p)) ((hS.blkAt (B2) 38 (Pc p) (.head _)).rowFar (k := B1) (by first | omega | exact blk_ne (hS.blkAt _ _ _ (.head _)) (hS.blkAt _ _ _ (.tail _ (.head _))) (by decide)) _) (Facts.cons (f := .blk (B1) 38 (Pc (padd s p))) ((hS.blkAt (B1) 38 (Pc s) (.tail _ (.head _))).row _) (Facts.cons (f := .blk (g) 38 (Pl ps)) ((hS.blkAt (g) 38 (Pl ps) (.tail _ (.tail _ (.head _)))).rowFar (k := B1) (by first | omega | exact blk_ne (hS.blkAt _ _ _ (.tail _ (.tail _ (.head _)))) (hS.blkAt _ _ _ (.tail _ (.head _))) (by decide)) _) (Facts.cons (f := .rng 2 (Iv .u8 (keyOf dN))) ((hS.rngAt _ _ (.tail _ (.tail _ (.tail _ (.head _))))).rowFar (k := B1) (by omega) _) (Facts.nil))))
      generalize hWn : World.setRow _ _ _ = Wn at *
      clear hWn
      refine wpSeq_nil ?_
      have hF := hS.blkAt (B1) 38 (Pc (padd s p)) (.tail _ (.head _))
      go_wp2
      exact ⟨⟨k + 1, by omega, by go_num, hB, K0, Facts.cons (f := .blk (B1) 38 _) (by show Blk _ _ _ (Pc (psum (ps.take (k + 1)))); rw [HN.out]; exact hF) (Facts.cons (f := .blk (g) 38 (Pl ps)) (hS.blkAt (g) 38 (Pl ps) (.tail _ (.tail _ (.head _)))) (Facts.cons (f := .rng 2 (Iv .u8 (keyOf dN))) (hS.rngAt _ _ (.tail _ (.tail _ (.tail _ (.head _))))) Facts.nil))⟩, by simp [intOf]; omega⟩
    · obtain rfl : k = n := by omega
      rw [show ps.take k = ps by rw [← hn]; exact List.take_length] at hS
      go_upto_region 7 with fail
      refine wp_region_seq ?_
      refine wpSeq_yield (S := Facts [.blk (B1) 38 (Pc (psum ps)), .blk (g) 38 (Pl ps), .rng 2 (Iv .u8 (keyOf dN))]) (show YieldsIf _ _ _ _ (PV (psum ps)) _ from yieldsIf_load rfl 38 _ rfl (B1) rfl 38 _ _ (.head _) Tryd.underlying38 rfl (info_Pc _)) hS ?_
      simp only [Act.put, List.setIfInBounds_toArray, List.set_cons_zero, List.set_cons_succ]
      refine wpSeq_store_row rfl 38 _ _ rfl (w.heap.size) (Pc (psum ps)) rfl rfl _ _ K0 (info_Pc _) (Pc_same _ _) (Pc_one _) ?_
      try simp only [Act.put, List.setIfInBounds_toArray, List.set_cons_zero, List.set_cons_succ]
      replace hB := below_setRow hB (g := w.heap.size) (by omega) (Pc (psum ps))
      replace hS : Facts [.blk (B1) 38 (Pc (psum ps)), .blk (g) 38 (Pl ps), .rng 2 (Iv .u8 (keyOf dN))] _ := Facts.cons (f := .blk (B1) 38 (Pc (psum ps))) ((hS.blkAt (B1) 38 (Pc (psum ps)) (.head _)).rowFar (k := w.heap.size) (by omega) (Pc (psum ps))) (Facts.cons (f := .blk (g) 38 (Pl ps)) ((hS.blkAt (g) 38 (Pl ps) (.tail _ (.head _))).rowFar (k := w.heap.size) (by omega) (Pc (psum ps))) (Facts.cons (f := .rng 2 (Iv .u8 (keyOf dN))) ((hS.rngAt _ _ (.tail _ (.tail _ (.head _)))).rowFar (k := w.heap.size) (by omega) (Pc (psum ps))) (Facts.nil)))
      replace K0 := K0.row (Pc (psum ps))
      generalize hWn : World.setRow _ _ _ = Wn at *
      clear hWn
      refine wpSeq_nil ?_
      go_wp2
      exact bodyPost_ret (results_cell_row rfl _ _ _ 38 _ (0, 0) _ rfl K0 Tryd.underlying38 rfl (info_Pc _)) rfl ⟨rfl, hB⟩
end Go.Proofs.YtjaomgildhiddaaDoor
/- Contracts by points: what a law's walk takes (Mul, Base, Zero, Neg, Add); the reference's order. -/
namespace Go.Proofs.YtjaomgildhiddaaDoor
open Go.RowKit Ed

theorem mul_p (N : Nat) (p : P4) (P : Pt dd) (hN : N < p256) (hp : p.Is P) (w : World) (GD : Rng w 2 (Iv .u8 (keyOf dN))) :
    Calls Tryd.prog 26 #[Key (keyOf N), PV p] w fun e w' => ∃ q : P4, e = .returned (PV q) ∧ q.Is (times ok N P) ∧ Below w.heap.size w w' := by
  refine (cmul N p hN hp.ok w GD).mono ?_
  rintro e w' ⟨rfl, b⟩
  have h := pmul_is N (by rw [show (2 ^ 256 : Nat) = p256 by decide +kernel]; exact hN) hp 256 (Nat.le_refl _)
  rw [Nat.sub_self, Nat.pow_zero, Nat.div_one] at h
  exact ⟨_, rfl, h, b⟩
theorem base_p (w : World) (GX : Rng w 0 (Iv .u8 (keyOf bxN))) (GY : Rng w 1 (Iv .u8 (keyOf byN))) :
    Calls Tryd.prog 28 #[] w fun e w' => ∃ q : P4, e = .returned (PV q) ∧ q.Is bb ∧ Below w.heap.size w w' := by
  refine (cbase_v w GX GY).mono ?_
  rintro e w' ⟨rfl, b⟩
  exact ⟨_, rfl, pbase_is, b⟩
theorem zero_p (w : World) : Calls Tryd.prog 24 #[] w fun e w' => ∃ q : P4, e = .returned (PV q) ∧ q.Is (zero dd) ∧ Below w.heap.size w w' := by
  refine (czero_v w).mono ?_
  rintro e w' ⟨rfl, b⟩
  exact ⟨_, rfl, pzero_is, b⟩
theorem neg_p (p : P4) (P : Pt dd) (hp : p.Is P) (w : World) : Calls Tryd.prog 25 #[PV p] w fun e w' => ∃ q : P4, e = .returned (PV q) ∧ q.Is (neg P) ∧ Below w.heap.size w w' := by
  refine (cneg p hp.ok w).mono ?_
  rintro e w' ⟨rfl, b⟩
  exact ⟨_, rfl, pneg_is hp, b⟩
theorem add0_p (w : World) (GD : Rng w 2 (Iv .u8 (keyOf dN))) : Calls Tryd.prog 22 #[.slice none 0 0] w fun e w' => ∃ q : P4, e = .returned (PV q) ∧ q.Is (zero dd) ∧ Below w.heap.size w w' := by
  refine (cadd_nil w GD).mono ?_
  rintro e w' ⟨rfl, b⟩
  exact ⟨_, rfl, pzero_is, b⟩
theorem add1_p (p : P4) (P : Pt dd) (hp : p.Is P) (g : Nat) (w : World) (hg : Blk w g 38 (Pl [p])) (GD : Rng w 2 (Iv .u8 (keyOf dN))) :
    Calls Tryd.prog 22 #[.slice (some ⟨g, 0, none⟩) 1 1] w fun e w' => ∃ q : P4, e = .returned (PV q) ∧ q.Is P ∧ Below w.heap.size w w' := by
  refine (cadd [p] (fun q hq => by rw [List.mem_singleton.1 hq]; exact hp.ok) 1 g rfl (by decide) w hg GD).mono ?_
  rintro e w' ⟨rfl, b⟩
  have h := padd_is pzero_is hp
  rw [Ed.zero_add] at h
  exact ⟨_, rfl, h, b⟩
theorem add2_p (p q : P4) (P Q : Pt dd) (hp : p.Is P) (hq : q.Is Q) (g : Nat) (w : World) (hg : Blk w g 38 (Pl [p, q])) (GD : Rng w 2 (Iv .u8 (keyOf dN))) :
    Calls Tryd.prog 22 #[.slice (some ⟨g, 0, none⟩) 2 2] w fun e w' => ∃ s : P4, e = .returned (PV s) ∧ s.Is (add ok P Q) ∧ Below w.heap.size w w' := by
  refine (cadd [p, q] (fun r hr => by
    rcases List.mem_cons.1 hr with rfl | hr
    · exact hp.ok
    · rw [List.mem_singleton.1 hr]; exact hq.ok) 2 g rfl (by decide) w hg GD).mono ?_
  rintro e w' ⟨rfl, b⟩
  have h := padd_is (padd_is pzero_is hp) hq
  rw [Ed.zero_add] at h
  exact ⟨_, rfl, h, b⟩
theorem add3_p (p q r : P4) (P Q R : Pt dd) (hp : p.Is P) (hq : q.Is Q) (hr : r.Is R) (g : Nat) (w : World) (hg : Blk w g 38 (Pl [p, q, r])) (GD : Rng w 2 (Iv .u8 (keyOf dN))) :
    Calls Tryd.prog 22 #[.slice (some ⟨g, 0, none⟩) 3 3] w fun e w' => ∃ s : P4, e = .returned (PV s) ∧ s.Is (add ok (add ok P Q) R) ∧ Below w.heap.size w w' := by
  refine (cadd [p, q, r] (fun x hx => by
    rcases List.mem_cons.1 hx with rfl | hx
    · exact hp.ok
    · rcases List.mem_cons.1 hx with rfl | hx
      · exact hq.ok
      · rw [List.mem_singleton.1 hx]; exact hr.ok) 3 g rfl (by decide) w hg GD).mono ?_
  rintro e w' ⟨rfl, b⟩
  have h := padd_is (padd_is (padd_is pzero_is hp) hq) hr
  rw [Ed.zero_add] at h
  exact ⟨_, rfl, h, b⟩

/-! The order. -/
theorem ell_digits : ((List.range 16).map fun i => ((dAt ell i : Nat) : Int)) = [54253, 23797, 25370, 22546, 40150, 41719, 63966, 5342, 0, 0, 0, 0, 0, 0, 0, 4096] := by decide +kernel
theorem ell_256 : ell < 65536 ^ 16 := by decide +kernel
theorem ell_lt : ell < p256 := by decide +kernel
theorem dAt_high (v : Nat) (hv : v < 65536 ^ 16) (i : Nat) (h : 16 ≤ i) : dAt v i = 0 := by
  have : v < 65536 ^ i := Nat.lt_of_lt_of_le hv (Nat.pow_le_pow_right (by decide) h)
  unfold dAt
  rw [Nat.div_eq_of_lt this]
theorem rl_any (w : World) : Calls Tryd.prog 29 #[] w (RetSl w 16 (dAt ell)) := by
  go_enter Tryd.func29, Tryd.ntmps29
  go_wp2
  go_ret
  refine ⟨w.heap.size, 16, rfl, Sl.of_blk (t := 30) ?_ (dAt_lt ell) (dAt_high ell ell_256), Nat.le_refl _, ?_⟩
  · rw [ell_digits]
    exact Blk.new _ _ _
  · exact (Below.refl _ _).alloc (Nat.le_refl _) _
theorem rl_v (w : World) : Calls Tryd.prog 29 #[] w (RetL w ell) :=
  retL_ofSl (rl_any w) (by rw [d_num, Nat.mod_eq_of_lt ell_256]) (by decide)
end Go.Proofs.YtjaomgildhiddaaDoor
/- Contracts on points by letters; Awake (printed by gencurve.py). -/
namespace Go.Proofs.YtjaomgildhiddaaDoor
open Go.RowKit

open Ed
theorem pmul_is256 (N : Nat) (hN : N < p256) {p : P4} {P : Pt dd} (hp : p.Is P) : (pmul N p 256).Is (times ok N P) := by
  have h := pmul_is N (by rw [show (2 ^ 256 : Nat) = p256 by decide +kernel]; exact hN) hp 256 (Nat.le_refl _)
  rw [Nat.sub_self, Nat.pow_zero, Nat.div_one] at h
  exact h
theorem psum1 {p : P4} {P : Pt dd} (hp : p.Is P) : (psum [p]).Is P := by
  have h := padd_is pzero_is hp
  rw [Ed.zero_add] at h
  exact h
theorem psum2 {p q : P4} {P Q : Pt dd} (hp : p.Is P) (hq : q.Is Q) : (psum [p, q]).Is (add ok P Q) := by
  have h := padd_is (padd_is pzero_is hp) hq
  rw [Ed.zero_add] at h
  exact h
theorem psum3 {p q r : P4} {P Q R : Pt dd} (hp : p.Is P) (hq : q.Is Q) (hr : r.Is R) : (psum [p, q, r]).Is (add ok (add ok P Q) R) := by
  have h := padd_is (padd_is (padd_is pzero_is hp) hq) hr
  rw [Ed.zero_add] at h
  exact h
theorem mul_d (N : Nat) (p q : P4) (hN : N < p256) (hp : p.Ok) (hq : q = pmul N p 256) (w : World) (GD : Rng w 2 (Iv .u8 (keyOf dN))) :
    Calls Tryd.prog 26 #[Key (keyOf N), PV p] w fun e w' => e = .returned (PV q) ∧ Below w.heap.size w w' := hq ▸ cmul N p hN hp w GD
theorem neg_d (p q : P4) (hp : p.Ok) (hq : q = pneg p) (w : World) : Calls Tryd.prog 25 #[PV p] w fun e w' => e = .returned (PV q) ∧ Below w.heap.size w w' := hq ▸ cneg p hp w
theorem add_d1 (p s : P4) (hp : p.Ok) (g : Nat) (w : World) (hg : Blk w g 38 (Pl [p])) (GD : Rng w 2 (Iv .u8 (keyOf dN))) (hs : s = psum [p]) :
    Calls Tryd.prog 22 #[.slice (some ⟨g, 0, none⟩) 1 1] w fun e w' => e = .returned (PV s) ∧ Below w.heap.size w w' :=
  hs ▸ cadd [p] (fun q hq => by rw [List.mem_singleton.1 hq]; exact hp) 1 g rfl (by decide) w hg GD
theorem add_d2 (p q s : P4) (hp : p.Ok) (hq : q.Ok) (g : Nat) (w : World) (hg : Blk w g 38 (Pl [p, q])) (GD : Rng w 2 (Iv .u8 (keyOf dN))) (hs : s = psum [p, q]) :
    Calls Tryd.prog 22 #[.slice (some ⟨g, 0, none⟩) 2 2] w fun e w' => e = .returned (PV s) ∧ Below w.heap.size w w' :=
  hs ▸ cadd [p, q] (fun r hr => by
    rcases List.mem_cons.1 hr with rfl | hr
    · exact hp
    · rw [List.mem_singleton.1 hr]; exact hq) 2 g rfl (by decide) w hg GD
theorem add_d3 (p q r s : P4) (hp : p.Ok) (hq : q.Ok) (hr : r.Ok) (g : Nat) (w : World) (hg : Blk w g 38 (Pl [p, q, r])) (GD : Rng w 2 (Iv .u8 (keyOf dN))) (hs : s = psum [p, q, r]) :
    Calls Tryd.prog 22 #[.slice (some ⟨g, 0, none⟩) 3 3] w fun e w' => e = .returned (PV s) ∧ Below w.heap.size w w' :=
  hs ▸ cadd [p, q, r] (fun x hx => by
    rcases List.mem_cons.1 hx with rfl | hx
    · exact hp
    · rcases List.mem_cons.1 hx with rfl | hx
      · exact hq
      · rw [List.mem_singleton.1 hx]; exact hr) 3 g rfl (by decide) w hg GD
theorem text_base : byN = textN bb := by decide +kernel
theorem text_zero : 1 = textN (zero dd) := by decide +kernel
set_option maxHeartbeats 8000000 in
set_option maxRecDepth 100000 in
theorem awake_any (w : World) (GX : Rng w 0 (Iv .u8 (keyOf bxN))) (GY : Rng w 1 (Iv .u8 (keyOf byN))) :
    Calls Tryd.prog 9 #[] w fun e w' => e = .returned (.bool true) ∧ Below w.heap.size w w' := by
  have bGX := GX.blk
  have bGY := GY.blk
  have ipbase := pbase_is
  have ipzero := pzero_is
  go_enter Tryd.func9, Tryd.ntmps9
  go_upto_region 1 with fail
  have hB := Below.refl w.heap.size w
  have hS : Facts [.rng 0 (Iv .u8 (keyOf bxN)), .rng 1 (Iv .u8 (keyOf byN))] w := Facts.cons (f := .rng 0 (Iv .u8 (keyOf bxN))) GX (Facts.cons (f := .rng 1 (Iv .u8 (keyOf byN))) GY Facts.nil)
  refine wp_region_seq ?_
  refine wpSeq_wp rfl ?_
  go_simp
  refine (cbase_v _ (hS.rngAt _ _ (.head _)) (hS.rngAt _ _ (.tail _ (.head _)))).mono ?_
  rintro e v1 ⟨rfl, b⟩
  replace hB := hB.trans (b.mono hB.size)
  replace hS := hS.below b
  clear b
  show wpSeq _ _ _ _ _ _
  refine wpSeq_wp rfl ?_
  go_simp
  refine (cenc pbase bb ipbase byN text_base _).mono ?_
  rintro e v2 ⟨rfl, b⟩
  replace hB := hB.trans (b.mono hB.size)
  replace hS := hS.below b
  clear b
  show wpSeq _ _ _ _ _ _
  refine wpSeq_allocQ 23 (Iv .u8 (List.replicate 32 0)) rfl (fun W => by go_simp; rfl) ?_
  intro B1 C1 AB1 b mB1
  simp only [Act.put, List.setIfInBounds_toArray, List.set_cons_zero, List.set_cons_succ]
  have hb := b
  clear b
  refine wpSeq_store_row rfl 23 _ _ rfl (B1) (Iv .u8 (keyOf byN)) rfl rfl _ _ AB1 (info_key _ (keyOf_length _)) (by rw [Iv_size, Iv_size, keyOf_length]; rfl) (Iv_one _ _) ?_
  try simp only [Act.put, List.setIfInBounds_toArray, List.set_cons_zero, List.set_cons_succ]
  replace AB1 := AB1.row (Iv .u8 (keyOf byN))
  replace hb := below_setRow hb mB1 (Iv .u8 (keyOf byN))
  generalize hWn : World.setRow _ _ _ = Wn at *
  clear hWn
  replace mB1 := Nat.le_trans hB.size mB1
  replace hB := hB.trans (hb.mono hB.size)
  replace hS := hS.below hb
  clear hb
  replace hS : Facts [.blk (B1) 23 (Iv .u8 (keyOf byN)), .rng 0 (Iv .u8 (keyOf bxN)), .rng 1 (Iv .u8 (keyOf byN))] _ := Facts.cons (f := .blk B1 23 (Iv .u8 (keyOf byN))) AB1 hS
  clear AB1
  refine wpSeq_nil ?_
  go_upto_region 2 with fail
  refine wp_region_seq ?_
  refine wpSeq_wp rfl ?_
  go_simp
  refine (czero_v _).mono ?_
  rintro e v3 ⟨rfl, b⟩
  replace hB := hB.trans (b.mono hB.size)
  replace hS := hS.below b
  clear b
  show wpSeq _ _ _ _ _ _
  refine wpSeq_wp rfl ?_
  go_simp
  refine (cenc pzero (zero dd) ipzero 1 text_zero _).mono ?_
  rintro e v4 ⟨rfl, b⟩
  replace hB := hB.trans (b.mono hB.size)
  replace hS := hS.below b
  clear b
  show wpSeq _ _ _ _ _ _
  refine wpSeq_yield (S := Facts [.blk (B1) 23 (Iv .u8 (keyOf byN)), .rng 0 (Iv .u8 (keyOf bxN)), .rng 1 (Iv .u8 (keyOf byN))]) (yieldsIf_key1 1 (by decide) rfl rfl) hS ?_
  simp only [Act.put, List.setIfInBounds_toArray, List.set_cons_zero, List.set_cons_succ]
  refine wpSeq_yield (S := Facts [.blk (B1) 23 (Iv .u8 (keyOf byN)), .rng 0 (Iv .u8 (keyOf bxN)), .rng 1 (Iv .u8 (keyOf byN))]) (yieldsIf_eqlk rfl _ _ rfl 1 1 rfl rfl true (by decide) (by decide) (decide_eq_true rfl)) hS ?_
  simp only [Act.put, List.setIfInBounds_toArray, List.set_cons_zero, List.set_cons_succ]
  refine wpSeq_yield (S := Facts [.blk (B1) 23 (Iv .u8 (keyOf byN)), .rng 0 (Iv .u8 (keyOf bxN)), .rng 1 (Iv .u8 (keyOf byN))]) (yieldsIf_move rfl _ rfl _ rfl) hS ?_
  simp only [Act.put, List.setIfInBounds_toArray, List.set_cons_zero, List.set_cons_succ]
  refine wpSeq_yield (S := Facts [.blk (B1) 23 (Iv .u8 (keyOf byN)), .rng 0 (Iv .u8 (keyOf bxN)), .rng 1 (Iv .u8 (keyOf byN))]) (v := (.pointer (some ⟨B1, 0, none⟩))) (Or.inl ⟨by rfl, ?_⟩) hS ?_
  · intro w' _
    go_simp
  simp only [Act.put, List.setIfInBounds_toArray, List.set_cons_zero, List.set_cons_succ]
  refine wpSeq_yield (S := Facts [.blk (B1) 23 (Iv .u8 (keyOf byN)), .rng 0 (Iv .u8 (keyOf bxN)), .rng 1 (Iv .u8 (keyOf byN))]) (v := (.int .u8 88)) (Or.inl ⟨by rfl, ?_⟩) hS ?_
  · intro w' hw'
    have c := key_cell (hw'.blkAt (B1) 23 (Iv .u8 (keyOf byN)) (.head _)) 0 (by decide) 88 (by decide +kernel)
    go_simp
  simp only [Act.put, List.setIfInBounds_toArray, List.set_cons_zero, List.set_cons_succ]
  refine wpSeq_yield (S := Facts [.blk (B1) 23 (Iv .u8 (keyOf byN)), .rng 0 (Iv .u8 (keyOf bxN)), .rng 1 (Iv .u8 (keyOf byN))]) (v := (.bool true)) (Or.inl ⟨by rfl, ?_⟩) hS ?_
  · intro w' _
    go_simp
  simp only [Act.put, List.setIfInBounds_toArray, List.set_cons_zero, List.set_cons_succ]
  refine wpSeq_yield (S := Facts [.blk (B1) 23 (Iv .u8 (keyOf byN)), .rng 0 (Iv .u8 (keyOf bxN)), .rng 1 (Iv .u8 (keyOf byN))]) (yieldsIf_pick rfl _ _ _ rfl true rfl _ rfl) hS ?_
  simp only [Act.put, List.setIfInBounds_toArray, List.set_cons_zero, List.set_cons_succ]
  refine wpSeq_yield (S := Facts [.blk (B1) 23 (Iv .u8 (keyOf byN)), .rng 0 (Iv .u8 (keyOf bxN)), .rng 1 (Iv .u8 (keyOf byN))]) (yieldsIf_move rfl _ rfl _ rfl) hS ?_
  simp only [Act.put, List.setIfInBounds_toArray, List.set_cons_zero, List.set_cons_succ]
  refine wpSeq_yield (S := Facts [.blk (B1) 23 (Iv .u8 (keyOf byN)), .rng 0 (Iv .u8 (keyOf bxN)), .rng 1 (Iv .u8 (keyOf byN))]) (v := (.pointer (some ⟨B1, 1, none⟩))) (Or.inl ⟨by rfl, ?_⟩) hS ?_
  · intro w' _
    go_simp
  simp only [Act.put, List.setIfInBounds_toArray, List.set_cons_zero, List.set_cons_succ]
  refine wpSeq_yield (S := Facts [.blk (B1) 23 (Iv .u8 (keyOf byN)), .rng 0 (Iv .u8 (keyOf bxN)), .rng 1 (Iv .u8 (keyOf byN))]) (v := (.int .u8 102)) (Or.inl ⟨by rfl, ?_⟩) hS ?_
  · intro w' hw'
    have c := key_cell (hw'.blkAt (B1) 23 (Iv .u8 (keyOf byN)) (.head _)) 1 (by decide) 102 (by decide +kernel)
    go_simp
  simp only [Act.put, List.setIfInBounds_toArray, List.set_cons_zero, List.set_cons_succ]
  refine wpSeq_yield (S := Facts [.blk (B1) 23 (Iv .u8 (keyOf byN)), .rng 0 (Iv .u8 (keyOf bxN)), .rng 1 (Iv .u8 (keyOf byN))]) (v := (.bool true)) (Or.inl ⟨by rfl, ?_⟩) hS ?_
  · intro w' _
    go_simp
  simp only [Act.put, List.setIfInBounds_toArray, List.set_cons_zero, List.set_cons_succ]
  refine wpSeq_yield (S := Facts [.blk (B1) 23 (Iv .u8 (keyOf byN)), .rng 0 (Iv .u8 (keyOf bxN)), .rng 1 (Iv .u8 (keyOf byN))]) (yieldsIf_pick rfl _ _ _ rfl true rfl _ rfl) hS ?_
  simp only [Act.put, List.setIfInBounds_toArray, List.set_cons_zero, List.set_cons_succ]
  refine wpSeq_yield (S := Facts [.blk (B1) 23 (Iv .u8 (keyOf byN)), .rng 0 (Iv .u8 (keyOf bxN)), .rng 1 (Iv .u8 (keyOf byN))]) (yieldsIf_move rfl _ rfl _ rfl) hS ?_
  simp only [Act.put, List.setIfInBounds_toArray, List.set_cons_zero, List.set_cons_succ]
  refine wpSeq_yield (S := Facts [.blk (B1) 23 (Iv .u8 (keyOf byN)), .rng 0 (Iv .u8 (keyOf bxN)), .rng 1 (Iv .u8 (keyOf byN))]) (v := (.pointer (some ⟨B1, 31, none⟩))) (Or.inl ⟨by rfl, ?_⟩) hS ?_
  · intro w' _
    go_simp
  simp only [Act.put, List.setIfInBounds_toArray, List.set_cons_zero, List.set_cons_succ]
  refine wpSeq_yield (S := Facts [.blk (B1) 23 (Iv .u8 (keyOf byN)), .rng 0 (Iv .u8 (keyOf bxN)), .rng 1 (Iv .u8 (keyOf byN))]) (v := (.int .u8 102)) (Or.inl ⟨by rfl, ?_⟩) hS ?_
  · intro w' hw'
    have c := key_cell (hw'.blkAt (B1) 23 (Iv .u8 (keyOf byN)) (.head _)) 31 (by decide) 102 (by decide +kernel)
    go_simp
  simp only [Act.put, List.setIfInBounds_toArray, List.set_cons_zero, List.set_cons_succ]
  refine wpSeq_yield (S := Facts [.blk (B1) 23 (Iv .u8 (keyOf byN)), .rng 0 (Iv .u8 (keyOf bxN)), .rng 1 (Iv .u8 (keyOf byN))]) (v := (.bool true)) (Or.inl ⟨by rfl, ?_⟩) hS ?_
  · intro w' _
    go_simp
  simp only [Act.put, List.setIfInBounds_toArray, List.set_cons_zero, List.set_cons_succ]
  refine wpSeq_yield (S := Facts [.blk (B1) 23 (Iv .u8 (keyOf byN)), .rng 0 (Iv .u8 (keyOf bxN)), .rng 1 (Iv .u8 (keyOf byN))]) (yieldsIf_pick rfl _ _ _ rfl true rfl _ rfl) hS ?_
  simp only [Act.put, List.setIfInBounds_toArray, List.set_cons_zero, List.set_cons_succ]
  refine wpSeq_yield (S := Facts [.blk (B1) 23 (Iv .u8 (keyOf byN)), .rng 0 (Iv .u8 (keyOf bxN)), .rng 1 (Iv .u8 (keyOf byN))]) (yieldsIf_assign rfl _ rfl _ rfl) hS ?_
  simp only [Act.put, List.setIfInBounds_toArray, List.set_cons_zero, List.set_cons_succ]
  refine wpSeq_nil ?_
  go_wp2
  exact bodyPost_ret (results_tmp rfl _ _ _) rfl ⟨rfl, hB⟩
end Go.Proofs.YtjaomgildhiddaaDoor
