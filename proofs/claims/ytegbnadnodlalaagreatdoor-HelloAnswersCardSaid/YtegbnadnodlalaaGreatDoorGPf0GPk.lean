/- Contracts of curve's sums, choices on points as letters; of Mul and Add (printed by gencurve.py). The contract of curve's Add (printed by gencurve.py). -/
import Derived.Test.YtegbnadnodlalaaGreatDoorGPc
import Derived.Test.YtegbnadnodlalaaGreatDoorGPd
import Derived.Test.YtegbnadnodlalaaGreatDoorGPe
import Derived.Test.YtegbnadnodlalaaGreatDoorGPg0GPl
import Derived.Test.YtegbnadnodlalaaGreatDoorGCi0GPb
namespace Go.Proofs.YtegbnadnodlalaaGreatDoor
open Go.RowKit
open Ed
def pch (s : Nat) (p q : P4) : P4 := if s % 2 = 1 then q else p
theorem pch_parts (s : Nat) (p q : P4) : (⟨swapped s p.x q.x, swapped s p.y q.y, swapped s p.z q.z, swapped s p.t q.t⟩ : P4) = pch s p q := by
 unfold swapped pch
 split <;> rfl
theorem cplus (p q : P4) (hp : p.Ok) (hq : q.Ok) (w : World) (GD : Rng w 3 (Iv .u8 (keyOf dN))) :
  Calls Tryz.prog 79 #[PV p, PV q] w fun e w' => e = .returned (PV (padd p q)) ∧ Below w.heap.size w w' :=
 cplus_v p.x p.y p.z p.t q.x q.y q.z q.t hp.x hp.y hp.z hq.x hq.y hq.z hp.t hq.t w GD
theorem cchoose (s : Nat) (hs : s < 18446744073709551616) (p q r : P4) (hp : p.Ok) (hq : q.Ok) (hr : pch s p q = r) (w : World) :
  Calls Tryz.prog 80 #[.int .u64 (s : Int), PV p, PV q] w fun e w' => e = .returned (PV r) ∧ Below w.heap.size w w' := by
 have h := cchoose_v s hs p.x p.y p.z p.t q.x q.y q.z q.t hp.x hp.y hp.z hq.x hq.y hq.z hp.t hq.t w
 rw [pch_parts, hr] at h
 exact h
theorem cneg (p : P4) (hp : p.Ok) (w : World) : Calls Tryz.prog 55 #[PV p] w fun e w' => e = .returned (PV (pneg p)) ∧ Below w.heap.size w w' :=
 cneg_v p.x p.y p.z p.t hp.x hp.y hp.z hp.t w
theorem pmul_ok (N : Nat) (p : P4) : ∀ k, (pmul N p k).Ok
 | 0 => pzero_is.ok
 | k + 1 => by
  unfold pmul
  split <;> exact padd_ok _ _
set_option maxHeartbeats 8000000 in
set_option maxRecDepth 100000 in
theorem cmul (N : Nat) (p : P4) (hN : N < p256) (hp : p.Ok) (w : World) (GD : Rng w 3 (Iv .u8 (keyOf dN))) :
  Calls Tryz.prog 53 #[Key (keyOf N), PV p] w fun e w' => e = .returned (PV (pmul N p 256)) ∧ Below w.heap.size w w' := by
 have bGD := GD.blk
 unfold Key PV
 go_enter Tryz.func53, Tryz.ntmps53
 go_upto_region 1 with fail
 generalize hW : World.alloc (World.alloc (World.alloc w _) _) _ = W
 have hB : Below w.heap.size w W := hW ▸ (((Below.refl w.heap.size w).alloc (Nat.le_refl _) _).alloc (by simp) _).alloc (by simp; omega) _
 have K0 : Blk W (w.heap.size) 23 (Iv .u8 (keyOf N)) := hW ▸ (((Blk.new' (by simp) _ _).alloc _).alloc _)
 have K1 : Blk W (w.heap.size + 1) 85 (Pc p) := hW ▸ ((Blk.new' (by simp) _ _).alloc _)
 have K2 : Blk W (w.heap.size + 1 + 1) 85 (Pc p40) := hW ▸ (Blk.new' (by simp) _ _)
 have hS : Facts [.blk (w.heap.size) 23 (Iv .u8 (keyOf N)), .blk (w.heap.size + 1) 85 (Pc p), .rng 3 (Iv .u8 (keyOf dN))] W := Facts.cons (f := .blk (w.heap.size) 23 (Iv .u8 (keyOf N))) K0 (Facts.cons (f := .blk (w.heap.size + 1) 85 (Pc p)) K1 (Facts.cons (f := .rng 3 (Iv .u8 (keyOf dN))) (GD.below hB) (Facts.nil)))
 clear hW K0 K1
 refine wp_region_seq ?_
 refine wpSeq_wp rfl ?_
 go_simp
 refine (czero_v _).mono ?_
 rintro e v1 ⟨rfl, b⟩
 replace hB := hB.trans (b.mono hB.size)
 replace hS := hS.below b
 replace K2 := K2.below' b
 clear b
 show wpSeq _ _ _ _ _ _
 refine wpSeq_allocQ 85 (Pc p40) rfl (fun W => by go_simp; rfl) ?_
 intro B1 C1 AB1 b mB1
 simp only [Act.put, List.setIfInBounds_toArray, List.set_cons_zero, List.set_cons_succ]
 have hb := b
 clear b
 refine wpSeq_store_row rfl 85 _ _ rfl (B1) (Pc pzero) rfl rfl _ _ AB1 (info_Pc _) (Pc_same _ _) (Pc_one _) ?_
 try simp only [Act.put, List.setIfInBounds_toArray, List.set_cons_zero, List.set_cons_succ]
 replace AB1 := AB1.row (Pc pzero)
 replace hb := below_setRow hb mB1 (Pc pzero)
 generalize hWn : World.setRow _ _ _ = Wn at *
 clear hWn
 have eB1_1 := Nat.lt_of_lt_of_le (hS.blkAt (w.heap.size + 1) 85 (Pc p) (.tail _ (.head _))).lt mB1
 have uB1_K2 := Nat.lt_of_lt_of_le K2.lt mB1
 replace mB1 := Nat.le_trans hB.size mB1
 replace hB := hB.trans (hb.mono hB.size)
 replace hS := hS.below hb
 replace K2 := K2.below' hb
 clear hb
 replace hS : Facts [.blk (B1) 85 (Pc pzero), .blk (w.heap.size) 23 (Iv .u8 (keyOf N)), .blk (w.heap.size + 1) 85 (Pc p), .rng 3 (Iv .u8 (keyOf dN))] _ := Facts.cons (f := .blk B1 85 (Pc pzero)) AB1 hS
 clear AB1
 refine wpSeq_nil ?_
 go_upto_region 2 with fail
 go_wp2_with fail
 go_loopw [9] (fun i wr => ∃ k : Nat, k ≤ 256 ∧ i = .int .i64 k ∧ Below w.heap.size w wr ∧ Blk wr (w.heap.size + 1 + 1) 85 (Pc p40) ∧ Facts [.blk (B1) 85 (Pc (pmul N p k)), .blk (w.heap.size) 23 (Iv .u8 (keyOf N)), .blk (w.heap.size + 1) 85 (Pc p), .rng 3 (Iv .u8 (keyOf dN))] wr) (fun i _ => 256 - (intOf i).toNat)
 case atStart => exact ⟨0, by omega, rfl, hB, K2, hS⟩
 case round =>
  obtain ⟨k, hk, rfl, hB, K2, hS⟩ := hrel
  by_cases hlt : k < 256
  ·
   have sok := pmul_ok N p k
   have hnext : pmul N p (k + 1) = if N / 2 ^ (255 - k) % 2 = 1 then padd (padd (pmul N p k) (pmul N p k)) p else padd (pmul N p k) (pmul N p k) := rfl
   generalize pmul N p k = s at *
   obtain ⟨j, hj⟩ : ∃ j, j = 255 - k := ⟨_, rfl⟩
   have i0 : (255 : Int) - (k : Int) = (j : Int) := by omega
   have i1 : IntKind.i64.wrap (j : Int) = (j : Int) := by rw [IntKind.wrap_i64]; omega
   have i2 : (k : Int) < 256 := by omega
   have hj256 : j < 256 := by omega
   rw [← hj] at hnext
   clear hj
   have qok := padd_ok s s
   have C6 := Lib.hid (fun W GD => cplus s s sok sok W GD)
   obtain ⟨q, hq⟩ : ∃ q, q = padd s s := ⟨_, rfl⟩
   rw [← hq] at hnext qok C6
   have C7 := Lib.hid (fun W GD => cplus q p qok hp W GD)
   have rok := padd_ok q p
   obtain ⟨r, hr⟩ : ∃ r, r = padd q p := ⟨_, rfl⟩
   rw [← hr] at hnext rok C7
   have hbt := leTo_bit (byteAt N) (keyOf_bytes N).lt 32 j (by omega)
   rw [leTo_byteAt32 hN] at hbt
   have hb0 := (keyOf_bytes N).lt (j / 8)
   have hle : byteAt N (j / 8) / 2 ^ (j % 8) < 256 := Nat.lt_of_le_of_lt (Nat.div_le_self _ _) (by omega)
   have hsc : ((byteAt N (j / 8) / 2 ^ (j % 8) : Nat) : Int) = ((byteAt N (j / 8) : Nat) : Int) / 2 ^ (j % 8) := by
    rw [Int.natCast_ediv, Int.natCast_pow]
    rfl
   obtain ⟨BT, hBT⟩ : ∃ BT, BT = byteAt N (j / 8) / 2 ^ (j % 8) := ⟨_, rfl⟩
   rw [← hBT] at hbt hle hsc
   obtain ⟨nx, hnx⟩ : ∃ nx, nx = pmul N p (k + 1) := ⟨_, rfl⟩
   have C8 := Lib.hid (fun W => cchoose BT (by omega) q r nx qok rok (by rw [hnx, hnext]; unfold pch; rw [hbt]) W)
   have HN := Lib.hid hnx
   clear hnx hnext hBT hq hr hbt rok qok sok
   have j0 : (0 : Int) ≤ (j : Int) := by omega
   have j1 : (j : Int) < 256 := by omega
   have j2 : (0 : Int) ≤ (j : Int) / 8 := by omega
   have j3 : (j : Int) / 8 < 32 := by omega
   have j4 : ((j : Int) / 8).toNat = j / 8 := by omega
   have j5 : IntKind.i64.wrap ((j : Int) / 8) = (j : Int) / 8 := by rw [IntKind.wrap_i64]; omega
   have j6 : IntKind.i64.wrap ((j : Int) % 8) = (j : Int) % 8 := by rw [IntKind.wrap_i64]; omega
   have j7 : (0 : Int) ≤ (j : Int) % 8 := by omega
   have j8 : ((j : Int)).tmod 8 = (j : Int) % 8 := Int.tmod_eq_emod_of_nonneg j0
   have j9 : ((j : Int) % 8).toNat = j % 8 := by omega
   have k0 : min (j % 8) 8 = j % 8 := by omega
   have k1 : IntKind.u8.wrap (BT : Int) = (BT : Int) := by rw [IntKind.wrap_u8]; omega
   have k2 : IntKind.u64.wrap (BT : Int) = (BT : Int) := by rw [IntKind.wrap_u64]; omega
   have k3 := hsc.symm
   clear hsc hb0
   generalize hvb : byteAt N (j / 8) = vb at *
   have HVB := Lib.hid hvb
   clear hvb
   go_upto_region 6 with fail
   refine wp_region_seq ?_
   refine wpSeq_yield (S := Facts [.blk (B1) 85 (Pc s), .blk (w.heap.size) 23 (Iv .u8 (keyOf N)), .blk (w.heap.size + 1) 85 (Pc p), .rng 3 (Iv .u8 (keyOf dN))]) (show YieldsIf _ _ _ _ (PV s) _ from yieldsIf_load rfl 85 _ rfl (B1) rfl 85 _ _ (.head _) Tryz.underlying85 rfl (info_Pc _)) hS ?_
   simp only [Act.put, List.setIfInBounds_toArray, List.set_cons_zero, List.set_cons_succ]
   refine wpSeq_yield (S := Facts [.blk (B1) 85 (Pc s), .blk (w.heap.size) 23 (Iv .u8 (keyOf N)), .blk (w.heap.size + 1) 85 (Pc p), .rng 3 (Iv .u8 (keyOf dN))]) (show YieldsIf _ _ _ _ (PV s) _ from yieldsIf_load rfl 85 _ rfl (B1) rfl 85 _ _ (.head _) Tryz.underlying85 rfl (info_Pc _)) hS ?_
   simp only [Act.put, List.setIfInBounds_toArray, List.set_cons_zero, List.set_cons_succ]
   refine wpSeq_wp rfl ?_
   go_simp
   refine (C6.out _ (hS.rngAt _ _ (.tail _ (.tail _ (.tail _ (.head _)))))).mono ?_
   rintro e v2 ⟨rfl, b⟩
   replace hB := hB.trans (b.mono hB.size)
   replace hS := hS.below b
   replace K2 := K2.below' b
   clear b
   show wpSeq _ _ _ _ _ _
   refine wpSeq_store_row rfl 85 _ _ rfl (B1) (Pc q) rfl rfl _ _ (hS.blkAt (B1) 85 (Pc s) (.head _)) (info_Pc _) rfl (Pc_one _) ?_
   try simp only [Act.put, List.setIfInBounds_toArray, List.set_cons_zero, List.set_cons_succ]
   replace K2 := K2.rowFar (k := B1) (by omega) (Pc q)
   replace hB := below_setRow hB (g := B1) (by omega) (Pc q)
   replace hS : Facts [.blk (B1) 85 (Pc q), .blk (w.heap.size) 23 (Iv .u8 (keyOf N)), .blk (w.heap.size + 1) 85 (Pc p), .rng 3 (Iv .u8 (keyOf dN))] _ := Facts.cons (f := .blk (B1) 85 (Pc q)) ((hS.blkAt (B1) 85 (Pc s) (.head _)).row _) (Facts.cons (f := .blk (w.heap.size) 23 (Iv .u8 (keyOf N))) ((hS.blkAt (w.heap.size) 23 (Iv .u8 (keyOf N)) (.tail _ (.head _))).rowFar (k := B1) (blk_ne (hS.blkAt _ _ _ (.tail _ (.head _))) (hS.blkAt _ _ _ (.head _)) (by decide)) _) (Facts.cons (f := .blk (w.heap.size + 1) 85 (Pc p)) ((hS.blkAt (w.heap.size + 1) 85 (Pc p) (.tail _ (.tail _ (.head _)))).rowFar (k := B1) (by first | omega | exact blk_ne (hS.blkAt _ _ _ (.tail _ (.tail _ (.head _)))) (hS.blkAt _ _ _ (.head _)) (by decide)) _) (Facts.cons (f := .rng 3 (Iv .u8 (keyOf dN))) ((hS.rngAt _ _ (.tail _ (.tail _ (.tail _ (.head _))))).rowFar (k := B1) (by omega) _) (Facts.nil))))
   generalize hWn : World.setRow _ _ _ = Wn at *
   clear hWn
   refine wpSeq_nil ?_
   go_upto_region 7 with fail
   replace hS := hS.drew
   replace hB := below_drew hB
   replace K2 := K2.drew
   refine wp_region_Z (S := Facts [.blk (B1) 85 (Pc q), .blk (w.heap.size) 23 (Iv .u8 (keyOf N)), .blk (w.heap.size + 1) 85 (Pc p), .rng 3 (Iv .u8 (keyOf dN))]) 13 (by kernel_rfl) ?_
   refine wpAnyZ_takeL 0 rfl (by kernel_rfl) (by kernel_rfl) (by kernel_rfl) (by kernel_rfl) (by kernel_rfl) (fun _ _ _ h => h) (yieldsIf_move rfl _ rfl _ rfl) hS ?_
   simp only [Act.put, List.setIfInBounds_toArray, List.set_cons_zero, List.set_cons_succ]
   refine wpAnyZ_takeL 1 (v := (.int .i64 ((j : Int) / 8))) rfl (by kernel_rfl) (by kernel_rfl) (by kernel_rfl) (by kernel_rfl) (by kernel_rfl) (fun _ _ _ h => h) (Or.inl ⟨by rfl, ?_⟩) hS ?_
   ·
    intro w' _
    go_simp
   simp only [Act.put, List.setIfInBounds_toArray, List.set_cons_zero, List.set_cons_succ]
   refine wpAnyZ_takeL 2 (v := (.pointer (some ⟨w.heap.size, j / 8, none⟩))) rfl (by kernel_rfl) (by kernel_rfl) (by kernel_rfl) (by kernel_rfl) (by kernel_rfl) (fun _ _ _ h => h) (Or.inl ⟨by rfl, ?_⟩) hS ?_
   ·
    intro w' _
    go_simp
   simp only [Act.put, List.setIfInBounds_toArray, List.set_cons_zero, List.set_cons_succ]
   refine wpAnyZ_takeL 3 (v := (.int .u8 (vb : Int))) rfl (by kernel_rfl) (by kernel_rfl) (by kernel_rfl) (by kernel_rfl) (by kernel_rfl) (fun _ _ _ h => h) (Or.inl ⟨by rfl, ?_⟩) hS ?_
   ·
    intro w' hw'
    have c := key_cellj (hw'.blkAt (w.heap.size) 23 (Iv .u8 (keyOf N)) (.tail _ (.head _))) (j / 8) (by omega)
    rw [HVB.out] at c
    go_simp
   simp only [Act.put, List.setIfInBounds_toArray, List.set_cons_zero, List.set_cons_succ]
   refine wpAnyZ_takeL 4 rfl (by kernel_rfl) (by kernel_rfl) (by kernel_rfl) (by kernel_rfl) (by kernel_rfl) (fun _ _ _ h => h) (yieldsIf_move rfl _ rfl _ rfl) hS ?_
   simp only [Act.put, List.setIfInBounds_toArray, List.set_cons_zero, List.set_cons_succ]
   refine wpAnyZ_takeL 5 (v := (.int .i64 ((j : Int) % 8))) rfl (by kernel_rfl) (by kernel_rfl) (by kernel_rfl) (by kernel_rfl) (by kernel_rfl) (fun _ _ _ h => h) (Or.inl ⟨by rfl, ?_⟩) hS ?_
   ·
    intro w' _
    go_simp
   simp only [Act.put, List.setIfInBounds_toArray, List.set_cons_zero, List.set_cons_succ]
   refine wpAnyZ_takeL 6 (v := (.int .u8 (BT : Int))) rfl (by kernel_rfl) (by kernel_rfl) (by kernel_rfl) (by kernel_rfl) (by kernel_rfl) (fun _ _ _ h => h) (Or.inl ⟨by rfl, ?_⟩) hS ?_
   ·
    intro w' _
    go_simp
   simp only [Act.put, List.setIfInBounds_toArray, List.set_cons_zero, List.set_cons_succ]
   refine wpAnyZ_takeL 7 (v := (.int .u64 (BT : Int))) rfl (by kernel_rfl) (by kernel_rfl) (by kernel_rfl) (by kernel_rfl) (by kernel_rfl) (fun _ _ _ h => h) (Or.inl ⟨by rfl, ?_⟩) hS ?_
   ·
    intro w' _
    go_simp
   simp only [Act.put, List.setIfInBounds_toArray, List.set_cons_zero, List.set_cons_succ]
   refine wpAnyZ_takeL 8 rfl (by kernel_rfl) (by kernel_rfl) (by kernel_rfl) (by kernel_rfl) (by kernel_rfl) (fun _ _ _ h => h) (show YieldsIf _ _ _ _ (PV q) _ from yieldsIf_load rfl 85 _ rfl (B1) rfl 85 _ _ (.head _) Tryz.underlying85 rfl (info_Pc _)) hS ?_
   simp only [Act.put, List.setIfInBounds_toArray, List.set_cons_zero, List.set_cons_succ]
   refine wpAnyZ_takeL 9 rfl (by kernel_rfl) (by kernel_rfl) (by kernel_rfl) (by kernel_rfl) (by kernel_rfl) (fun _ _ _ h => h) (show YieldsIf _ _ _ _ (PV q) _ from yieldsIf_load rfl 85 _ rfl (B1) rfl 85 _ _ (.head _) Tryz.underlying85 rfl (info_Pc _)) hS ?_
   simp only [Act.put, List.setIfInBounds_toArray, List.set_cons_zero, List.set_cons_succ]
   refine wpAnyZ_takeL 10 rfl (by kernel_rfl) (by kernel_rfl) (by kernel_rfl) (by kernel_rfl) (by kernel_rfl) (fun _ _ _ h => h) (show YieldsIf _ _ _ _ (PV p) _ from yieldsIf_load rfl 85 _ rfl (w.heap.size + 1) rfl 85 _ _ (.tail _ (.tail _ (.head _))) Tryz.underlying85 rfl (info_Pc _)) hS ?_
   simp only [Act.put, List.setIfInBounds_toArray, List.set_cons_zero, List.set_cons_succ]
   refine wpAnyZ_one (i := 11) (by kernel_rfl) ?_
   unfold wpOp
   go_simp
   left
   refine (C7.out _ (hS.rngAt _ _ (.tail _ (.tail _ (.tail _ (.head _)))))).mono ?_
   rintro e v3 ⟨rfl, b⟩
   replace hB := hB.trans (b.mono hB.size)
   replace hS := hS.below b
   replace K2 := K2.below' b
   clear b
   refine ⟨hS, ?_⟩
   refine wpAnyZ_one (i := 12) (by kernel_rfl) ?_
   unfold wpOp
   go_simp
   left
   refine (C8.out _).mono ?_
   rintro e v4 ⟨rfl, b⟩
   replace hB := hB.trans (b.mono hB.size)
   replace hS := hS.below b
   replace K2 := K2.below' b
   clear b
   refine ⟨hS, ?_⟩
   have hS9 : Facts [.blk (B1) 85 (Pc nx), .blk (w.heap.size) 23 (Iv .u8 (keyOf N)), .blk (w.heap.size + 1) 85 (Pc p), .rng 3 (Iv .u8 (keyOf dN))] (World.setRow _ (B1) (Pc nx)) := Facts.cons (f := .blk (B1) 85 (Pc nx)) ((hS.blkAt (B1) 85 (Pc q) (.head _)).row _) (Facts.cons (f := .blk (w.heap.size) 23 (Iv .u8 (keyOf N))) ((hS.blkAt (w.heap.size) 23 (Iv .u8 (keyOf N)) (.tail _ (.head _))).rowFar (k := B1) (blk_ne (hS.blkAt _ _ _ (.tail _ (.head _))) (hS.blkAt _ _ _ (.head _)) (by decide)) _) (Facts.cons (f := .blk (w.heap.size + 1) 85 (Pc p)) ((hS.blkAt (w.heap.size + 1) 85 (Pc p) (.tail _ (.tail _ (.head _)))).rowFar (k := B1) (by first | omega | exact blk_ne (hS.blkAt _ _ _ (.tail _ (.tail _ (.head _)))) (hS.blkAt _ _ _ (.head _)) (by decide)) _) (Facts.cons (f := .rng 3 (Iv .u8 (keyOf dN))) ((hS.rngAt _ _ (.tail _ (.tail _ (.tail _ (.head _))))).rowFar (k := B1) (by omega) _) (Facts.nil))))
   refine wpAnyZ_store_end 13 rfl (by kernel_rfl) rfl _ _ _ rfl (B1) (Pc nx) rfl rfl _ _ (hS.blkAt _ _ _ (.head _)) (info_Pc _) (Pc_same _ _) (Pc_one _) (by kernel_rfl) ?_
   try simp only [Act.put, List.setIfInBounds_toArray, List.set_cons_zero, List.set_cons_succ]
   replace hB := below_setRow hB (g := B1) (by omega) (Pc nx)
   replace hS := hS9
   clear hS9
   replace K2 := K2.rowFar (k := B1) (by omega) (Pc nx)
   generalize hWn : World.setRow _ _ _ = Wn at *
   clear hWn
   refine wpAnyZ_done (by kernel_rfl) ?_ _
   go_wp2
   exact ⟨⟨k + 1, by omega, by go_num, hB, K2, by rw [← HN.out]; exact hS⟩, by simp [intOf]; omega⟩
  ·
   obtain rfl : k = 256 := by omega
   go_upto_region 9 with fail
   refine wp_region_seq ?_
   refine wpSeq_yield (S := Facts [.blk (B1) 85 (Pc (pmul N p 256)), .blk (w.heap.size) 23 (Iv .u8 (keyOf N)), .blk (w.heap.size + 1) 85 (Pc p), .rng 3 (Iv .u8 (keyOf dN))]) (show YieldsIf _ _ _ _ (PV (pmul N p 256)) _ from yieldsIf_load rfl 85 _ rfl (B1) rfl 85 _ _ (.head _) Tryz.underlying85 rfl (info_Pc _)) hS ?_
   simp only [Act.put, List.setIfInBounds_toArray, List.set_cons_zero, List.set_cons_succ]
   refine wpSeq_store_row rfl 85 _ _ rfl (w.heap.size + 1 + 1) (Pc (pmul N p 256)) rfl rfl _ _ K2 (info_Pc _) (Pc_same _ _) (Pc_one _) ?_
   try simp only [Act.put, List.setIfInBounds_toArray, List.set_cons_zero, List.set_cons_succ]
   replace hB := below_setRow hB (g := w.heap.size + 1 + 1) (by omega) (Pc (pmul N p 256))
   replace hS : Facts [.blk (B1) 85 (Pc (pmul N p 256)), .blk (w.heap.size) 23 (Iv .u8 (keyOf N)), .blk (w.heap.size + 1) 85 (Pc p), .rng 3 (Iv .u8 (keyOf dN))] _ := Facts.cons (f := .blk (B1) 85 (Pc (pmul N p 256))) ((hS.blkAt (B1) 85 (Pc (pmul N p 256)) (.head _)).rowFar (k := w.heap.size + 1 + 1) (by omega) (Pc (pmul N p 256))) (Facts.cons (f := .blk (w.heap.size) 23 (Iv .u8 (keyOf N))) ((hS.blkAt (w.heap.size) 23 (Iv .u8 (keyOf N)) (.tail _ (.head _))).rowFar (k := w.heap.size + 1 + 1) (blk_ne (hS.blkAt (w.heap.size) 23 (Iv .u8 (keyOf N)) (.tail _ (.head _))) K2 (by decide)) (Pc (pmul N p 256))) (Facts.cons (f := .blk (w.heap.size + 1) 85 (Pc p)) ((hS.blkAt (w.heap.size + 1) 85 (Pc p) (.tail _ (.tail _ (.head _)))).rowFar (k := w.heap.size + 1 + 1) (by omega) (Pc (pmul N p 256))) (Facts.cons (f := .rng 3 (Iv .u8 (keyOf dN))) ((hS.rngAt _ _ (.tail _ (.tail _ (.tail _ (.head _))))).rowFar (k := w.heap.size + 1 + 1) (by omega) (Pc (pmul N p 256))) (Facts.nil))))
   replace K2 := K2.row (Pc (pmul N p 256))
   generalize hWn : World.setRow _ _ _ = Wn at *
   clear hWn
   refine wpSeq_nil ?_
   go_wp2
   exact bodyPost_ret (results_cell_row rfl _ _ _ 85 _ (0, 0) _ rfl K2 Tryz.underlying85 rfl (info_Pc _)) rfl ⟨rfl, hB⟩
end Go.Proofs.YtegbnadnodlalaaGreatDoor
namespace Go.Proofs.YtegbnadnodlalaaGreatDoor
open Go.RowKit
set_option maxHeartbeats 4000000 in
set_option maxRecDepth 100000 in
theorem cadd (ps : List P4) (hok : ∀ p ∈ ps, p.Ok) (n g : Nat) (hn : ps.length = n) (hbig : n ≤ 1000) (w : World) (hg : Blk w g 85 (Pl ps)) (GD : Rng w 3 (Iv .u8 (keyOf dN))) :
  Calls Tryz.prog 54 #[.slice (some ⟨g, 0, none⟩) n n] w fun e w' => e = .returned (PV (psum ps)) ∧ Below w.heap.size w w' := by
 have bGD := GD.blk
 have bG := hg.lt
 go_enter Tryz.func54, Tryz.ntmps54
 go_upto_region 1 with fail
 generalize hW : World.alloc w _ = W
 have hB : Below w.heap.size w W := hW ▸ (Below.refl w.heap.size w).alloc (Nat.le_refl _) _
 have K0 : Blk W (w.heap.size) 85 (Pc p40) := hW ▸ Blk.new' rfl _ _
 have hS : Facts [.blk (g) 85 (Pl ps), .rng 3 (Iv .u8 (keyOf dN))] W := Facts.cons (f := .blk g 85 (Pl ps)) (hg.below' hB) (Facts.cons (f := .rng 3 (Iv .u8 (keyOf dN))) (GD.below hB) Facts.nil)
 clear hW
 refine wp_region_seq ?_
 refine wpSeq_wp rfl ?_
 go_simp
 refine (czero_v _).mono ?_
 rintro e v1 ⟨rfl, b⟩
 replace hB := hB.trans (b.mono hB.size)
 replace hS := hS.below b
 replace K0 := K0.below' b
 clear b
 show wpSeq _ _ _ _ _ _
 refine wpSeq_allocQ 85 (Pc p40) rfl (fun W => by go_simp; rfl) ?_
 intro B1 C1 AB1 b mB1
 simp only [Act.put, List.setIfInBounds_toArray, List.set_cons_zero, List.set_cons_succ]
 have hb := b
 clear b
 refine wpSeq_store_row rfl 85 _ _ rfl (B1) (Pc pzero) rfl rfl _ _ AB1 (info_Pc _) (Pc_same _ _) (Pc_one _) ?_
 try simp only [Act.put, List.setIfInBounds_toArray, List.set_cons_zero, List.set_cons_succ]
 replace AB1 := AB1.row (Pc pzero)
 replace hb := below_setRow hb mB1 (Pc pzero)
 generalize hWn : World.setRow _ _ _ = Wn at *
 clear hWn
 have eB1_0 := Nat.lt_of_lt_of_le (hS.blkAt (g) 85 (Pl ps) (.head _)).lt mB1
 have uB1_K0 := Nat.lt_of_lt_of_le K0.lt mB1
 replace mB1 := Nat.le_trans hB.size mB1
 replace hB := hB.trans (hb.mono hB.size)
 replace hS := hS.below hb
 replace K0 := K0.below' hb
 clear hb
 replace hS : Facts [.blk (B1) 85 (Pc pzero), .blk (g) 85 (Pl ps), .rng 3 (Iv .u8 (keyOf dN))] _ := Facts.cons (f := .blk B1 85 (Pc pzero)) AB1 hS
 clear AB1
 refine wpSeq_nil ?_
 go_upto_region 2 with fail
 go_wp2_with fail
 go_loopw [9] (fun i wr => ∃ k : Nat, k ≤ n ∧ i = .int .i64 k ∧ Below w.heap.size w wr ∧ Blk wr (w.heap.size) 85 (Pc p40) ∧ Facts [.blk (B1) 85 (Pc (psum (ps.take k))), .blk (g) 85 (Pl ps), .rng 3 (Iv .u8 (keyOf dN))] wr) (fun i _ => n - (intOf i).toNat)
 case atStart => exact ⟨0, by omega, rfl, hB, K0, hS⟩
 case round =>
  obtain ⟨k, hk, rfl, hB, K0, hS⟩ := hrel
  by_cases hlt : k < n
  ·
   have i2 : (k : Int) < (n : Int) := by omega
   obtain ⟨p, hp⟩ : ∃ p, ps[k]? = some p := ⟨_, List.getElem?_eq_getElem (by omega)⟩
   have pok := hok p (List.mem_of_getElem? hp)
   have hnext := psum_next ps k p hp
   have sok := psum_ok (ps.take k) (fun p h => hok p (List.mem_of_mem_take h))
   generalize psum (ps.take k) = s at *
   have i1 : (0 : Int) ≤ (k : Int) := by omega
   have C5 := Lib.hid (fun W GD => cplus s p sok pok W GD)
   have HP := Lib.hid hp
   have HN := Lib.hid hnext
   have i3 : (k : Int).toNat = k := by omega
   clear hp hnext sok pok
   go_upto_region 4 with fail
   refine wp_region_seq ?_
   refine wpSeq_yield (S := Facts [.blk (B1) 85 (Pc s), .blk (g) 85 (Pl ps), .rng 3 (Iv .u8 (keyOf dN))]) (v := (.pointer (some ⟨g, k * 20, none⟩))) (Or.inl ⟨by rfl, ?_⟩) hS ?_
   ·
    intro w' _
    go_simp
   simp only [Act.put, List.setIfInBounds_toArray, List.set_cons_zero, List.set_cons_succ]
   refine wpSeq_yield (S := Facts [.blk (B1) 85 (Pc s), .blk (g) 85 (Pl ps), .rng 3 (Iv .u8 (keyOf dN))]) (show YieldsIf _ _ _ _ (PV p) _ from yieldsIf_load_mid rfl 85 _ rfl g (k * 20) rfl (Pc p).toList _ (fun _ h => rangePl (h.blkAt g 85 (Pl ps) (.tail _ (.head _))) k p HP.out) Tryz.underlying85 rfl (info_Pc p)) hS ?_
   simp only [Act.put, List.setIfInBounds_toArray, List.set_cons_zero, List.set_cons_succ]
   refine wpSeq_allocQ 85 (Pc p40) rfl (fun W => by go_simp; rfl) ?_
   intro B2 C2 AB2 b mB2
   simp only [Act.put, List.setIfInBounds_toArray, List.set_cons_zero, List.set_cons_succ]
   have hb := b
   clear b
   refine wpSeq_store_row rfl 85 _ _ rfl (B2) (Pc p) rfl rfl _ _ AB2 (info_Pc _) (Pc_same _ _) (Pc_one _) ?_
   try simp only [Act.put, List.setIfInBounds_toArray, List.set_cons_zero, List.set_cons_succ]
   replace AB2 := AB2.row (Pc p)
   replace hb := below_setRow hb mB2 (Pc p)
   generalize hWn : World.setRow _ _ _ = Wn at *
   clear hWn
   have eB2_0 := Nat.lt_of_lt_of_le (hS.blkAt (B1) 85 (Pc s) (.head _)).lt mB2
   have eB2_1 := Nat.lt_of_lt_of_le (hS.blkAt (g) 85 (Pl ps) (.tail _ (.head _))).lt mB2
   have uB2_K0 := Nat.lt_of_lt_of_le K0.lt mB2
   replace mB2 := Nat.le_trans hB.size mB2
   replace hB := hB.trans (hb.mono hB.size)
   replace hS := hS.below hb
   replace K0 := K0.below' hb
   clear hb
   replace hS : Facts [.blk (B2) 85 (Pc p), .blk (B1) 85 (Pc s), .blk (g) 85 (Pl ps), .rng 3 (Iv .u8 (keyOf dN))] _ := Facts.cons (f := .blk B2 85 (Pc p)) AB2 hS
   clear AB2
   refine wpSeq_nil ?_
   go_upto_region 5 with fail
   refine wp_region_seq ?_
   refine wpSeq_yield (S := Facts [.blk (B2) 85 (Pc p), .blk (B1) 85 (Pc s), .blk (g) 85 (Pl ps), .rng 3 (Iv .u8 (keyOf dN))]) (show YieldsIf _ _ _ _ (PV s) _ from yieldsIf_load rfl 85 _ rfl (B1) rfl 85 _ _ (.tail _ (.head _)) Tryz.underlying85 rfl (info_Pc _)) hS ?_
   simp only [Act.put, List.setIfInBounds_toArray, List.set_cons_zero, List.set_cons_succ]
   refine wpSeq_yield (S := Facts [.blk (B2) 85 (Pc p), .blk (B1) 85 (Pc s), .blk (g) 85 (Pl ps), .rng 3 (Iv .u8 (keyOf dN))]) (show YieldsIf _ _ _ _ (PV p) _ from yieldsIf_load rfl 85 _ rfl (B2) rfl 85 _ _ (.head _) Tryz.underlying85 rfl (info_Pc _)) hS ?_
   simp only [Act.put, List.setIfInBounds_toArray, List.set_cons_zero, List.set_cons_succ]
   refine wpSeq_wp rfl ?_
   go_simp
   refine (C5.out _ (hS.rngAt _ _ (.tail _ (.tail _ (.tail _ (.head _)))))).mono ?_
   rintro e v2 ⟨rfl, b⟩
   replace hB := hB.trans (b.mono hB.size)
   replace hS := hS.below b
   replace K0 := K0.below' b
   clear b
   show wpSeq _ _ _ _ _ _
   refine wpSeq_store_row rfl 85 _ _ rfl (B1) (Pc (padd s p)) rfl rfl _ _ (hS.blkAt (B1) 85 (Pc s) (.tail _ (.head _))) (info_Pc _) rfl (Pc_one _) ?_
   try simp only [Act.put, List.setIfInBounds_toArray, List.set_cons_zero, List.set_cons_succ]
   replace K0 := K0.rowFar (k := B1) (by omega) (Pc (padd s p))
   replace hB := below_setRow hB (g := B1) (by omega) (Pc (padd s p))
   replace hS : Facts [.blk (B2) 85 (Pc p), .blk (B1) 85 (Pc (padd s p)), .blk (g) 85 (Pl ps), .rng 3 (Iv .u8 (keyOf dN))] _ := Facts.cons (f := .blk (B2) 85 (Pc p)) ((hS.blkAt (B2) 85 (Pc p) (.head _)).rowFar (k := B1) (by first | omega | exact blk_ne (hS.blkAt _ _ _ (.head _)) (hS.blkAt _ _ _ (.tail _ (.head _))) (by decide)) _) (Facts.cons (f := .blk (B1) 85 (Pc (padd s p))) ((hS.blkAt (B1) 85 (Pc s) (.tail _ (.head _))).row _) (Facts.cons (f := .blk (g) 85 (Pl ps)) ((hS.blkAt (g) 85 (Pl ps) (.tail _ (.tail _ (.head _)))).rowFar (k := B1) (by first | omega | exact blk_ne (hS.blkAt _ _ _ (.tail _ (.tail _ (.head _)))) (hS.blkAt _ _ _ (.tail _ (.head _))) (by decide)) _) (Facts.cons (f := .rng 3 (Iv .u8 (keyOf dN))) ((hS.rngAt _ _ (.tail _ (.tail _ (.tail _ (.head _))))).rowFar (k := B1) (by omega) _) (Facts.nil))))
   generalize hWn : World.setRow _ _ _ = Wn at *
   clear hWn
   refine wpSeq_nil ?_
   have hF := hS.blkAt (B1) 85 (Pc (padd s p)) (.tail _ (.head _))
   go_wp2
   exact ⟨⟨k + 1, by omega, by go_num, hB, K0, Facts.cons (f := .blk (B1) 85 _) (by show Blk _ _ _ (Pc (psum (ps.take (k + 1)))); rw [HN.out]; exact hF) (Facts.cons (f := .blk (g) 85 (Pl ps)) (hS.blkAt (g) 85 (Pl ps) (.tail _ (.tail _ (.head _)))) (Facts.cons (f := .rng 3 (Iv .u8 (keyOf dN))) (hS.rngAt _ _ (.tail _ (.tail _ (.tail _ (.head _))))) Facts.nil))⟩, by simp [intOf]; omega⟩
  ·
   obtain rfl : k = n := by omega
   rw [show ps.take k = ps by rw [← hn]; exact List.take_length] at hS
   go_upto_region 7 with fail
   refine wp_region_seq ?_
   refine wpSeq_yield (S := Facts [.blk (B1) 85 (Pc (psum ps)), .blk (g) 85 (Pl ps), .rng 3 (Iv .u8 (keyOf dN))]) (show YieldsIf _ _ _ _ (PV (psum ps)) _ from yieldsIf_load rfl 85 _ rfl (B1) rfl 85 _ _ (.head _) Tryz.underlying85 rfl (info_Pc _)) hS ?_
   simp only [Act.put, List.setIfInBounds_toArray, List.set_cons_zero, List.set_cons_succ]
   refine wpSeq_store_row rfl 85 _ _ rfl (w.heap.size) (Pc (psum ps)) rfl rfl _ _ K0 (info_Pc _) (Pc_same _ _) (Pc_one _) ?_
   try simp only [Act.put, List.setIfInBounds_toArray, List.set_cons_zero, List.set_cons_succ]
   replace hB := below_setRow hB (g := w.heap.size) (by omega) (Pc (psum ps))
   replace hS : Facts [.blk (B1) 85 (Pc (psum ps)), .blk (g) 85 (Pl ps), .rng 3 (Iv .u8 (keyOf dN))] _ := Facts.cons (f := .blk (B1) 85 (Pc (psum ps))) ((hS.blkAt (B1) 85 (Pc (psum ps)) (.head _)).rowFar (k := w.heap.size) (by omega) (Pc (psum ps))) (Facts.cons (f := .blk (g) 85 (Pl ps)) ((hS.blkAt (g) 85 (Pl ps) (.tail _ (.head _))).rowFar (k := w.heap.size) (by omega) (Pc (psum ps))) (Facts.cons (f := .rng 3 (Iv .u8 (keyOf dN))) ((hS.rngAt _ _ (.tail _ (.tail _ (.head _)))).rowFar (k := w.heap.size) (by omega) (Pc (psum ps))) (Facts.nil)))
   replace K0 := K0.row (Pc (psum ps))
   generalize hWn : World.setRow _ _ _ = Wn at *
   clear hWn
   refine wpSeq_nil ?_
   go_wp2
   exact bodyPost_ret (results_cell_row rfl _ _ _ 85 _ (0, 0) _ rfl K0 Tryz.underlying85 rfl (info_Pc _)) rfl ⟨rfl, hB⟩
end Go.Proofs.YtegbnadnodlalaaGreatDoor
