/- The law AesKnown (printed by gencurve.py). -/
import Derived.Test.YtnkjelamadpllaaLawApart
namespace Go.Proofs.Ytnkjelamadpllaa
open Go.RowKit

def z16 : List Nat := List.replicate 16 0
theorem lz16 : z16.length = 16 := rfl
theorem bz16 : ∀ x ∈ z16, x < 256 := by decide
theorem yieldsIf_z16b {ops : Array Oper} {S : World → Prop} {o : Oper} {a : Act} (hgd : Region.wanted o (yielded ops a.tmps) = true) (ho : o.op = .build 24 #[]) : YieldsIf Try.prog ops S o (.agg (Iv .u8 (NI z16))) a := by
  refine Or.inl ⟨hgd, fun w _ => ?_⟩
  simp only [execOp, ho]
  go_simp
  rfl
theorem yieldsIf_z16n {ops : Array Oper} {S : World → Prop} {o : Oper} {a : Act} (hgd : Region.wanted o (yielded ops a.tmps) = true) (ho : o.op = .build 22 #[]) : YieldsIf Try.prog ops S o (.agg (Iv .u8 (NI z16))) a := by
  refine Or.inl ⟨hgd, fun w _ => ?_⟩
  simp only [execOp, ho]
  go_simp
  rfl
set_option maxHeartbeats 8000000 in
set_option maxRecDepth 100000 in
theorem known_c (CE : EncC) (n : Nat) (hn : n < 256) (w : World) :
    Calls Try.prog 4 #[.int .u8 (n : Int)] w fun e w' => e = .returned (.bool true) ∧ Below w.heap.size w w' := by
  obtain ⟨m, hm⟩ : ∃ m, m = n / 8 := ⟨_, rfl⟩
  obtain ⟨j, hj⟩ : ∃ j, j = m % 16 := ⟨_, rfl⟩
  obtain ⟨q, hq⟩ : ∃ q, q = n % 8 := ⟨_, rfl⟩
  obtain ⟨d, hd⟩ : ∃ d, d = 128 / 2 ^ q := ⟨_, rfl⟩
  have q8 : q < 8 := by omega
  have j16 : j < 16 := by omega
  have ld : d < 256 := by rw [hd]; exact Nat.lt_of_le_of_lt (Nat.div_le_self _ _) (by decide)
  have t1 : (n : Int).tdiv 8 = (m : Int) := by rw [Int.tdiv_eq_ediv_of_nonneg (by omega)]; omega
  have t2 : (m : Int).tmod 16 = (j : Int) := by rw [Int.tmod_eq_emod_of_nonneg (by omega)]; omega
  have t3 : (n : Int).tmod 8 = (q : Int) := by rw [Int.tmod_eq_emod_of_nonneg (by omega)]; omega
  have t4 : (128 : Int) / 2 ^ q = (d : Int) := by rw [hd]; push_cast; rfl
  have y1 : IntKind.u8.wrap (m : Int) = (m : Int) := by rw [IntKind.wrap_u8]; omega
  have y2 : IntKind.u8.wrap (j : Int) = (j : Int) := by rw [IntKind.wrap_u8]; omega
  have y3 : IntKind.u8.wrap (q : Int) = (q : Int) := by rw [IntKind.wrap_u8]; omega
  have j1 : (j : Int) < 16 := by omega
  have j0 : (0 : Int) ≤ (j : Int) := by omega
  have q0 : (0 : Int) ≤ (q : Int) := by omega
  have lz16 := lz16
  have bz16 := bz16
  obtain ⟨O, hO⟩ : ∃ l, l = z16.set j d := ⟨_, rfl⟩
  have lO : O.length = 16 := by rw [hO, List.length_set, lz16]
  have bO : ∀ x ∈ O, x < 256 := hO ▸ set_bytes bz16 j ld
  have HO := Lib.hid hO
  clear hm hj hq hd hO
  obtain ⟨E, hE⟩ : ∃ l, l = encL boxL z16 O := ⟨_, rfl⟩
  have lE : E.length = 16 := hE ▸ encL_length z16 O
  obtain ⟨F, hF⟩ : ∃ l, l = encL boxL O z16 := ⟨_, rfl⟩
  have lF : F.length = 16 := hF ▸ encL_length O z16
  have HE := Lib.hid hE
  have HF := Lib.hid hF
  clear hE hF
  go_enter Try.func4, Try.ntmps4
  go_upto_region 1 with fail
  have hB := Below.refl w.heap.size w
  have hS : Facts [.bel w] w := Facts.cons (f := .bel w) hB Facts.nil
  refine wp_region_seq ?_
  refine wpSeq_wp rfl ?_
  go_simp
  refine (awake_c CE _).mono ?_
  rintro e v1 ⟨rfl, b⟩
  replace hB := hB.trans (b.mono hB.size)
  replace hS := hS.below b
  clear b
  show wpSeq _ _ _ _ _ _
  refine wpSeq_yield (S := Facts [.bel w]) (yieldsIf_not rfl _ _ rfl true rfl) hS ?_
  simp only [Act.put, List.setIfInBounds_toArray, List.set_cons_zero, List.set_cons_succ]
  refine wpSeq_nil ?_
  go_upto_region 4 with fail
  change Code.wp _ _ _ _ (World.alloc v1 (.cells (Iv .u8 (NI z16)) 24))
  have mGZ := hB.size
  have hb := (Below.refl v1.heap.size v1).alloc (Nat.le_refl _) (.cells (Iv .u8 (NI z16)) 24)
  have A := Blk.new v1 24 (Iv .u8 (NI z16))
  replace hB := hB.trans (hb.mono hB.size)
  replace hS := hS.below hb
  clear hb
  generalize hX : World.alloc v1 _ = X1 at *
  clear hX
  generalize v1.heap.size = GZ at *
  replace hS : Facts [.blk (GZ) 24 (Iv .u8 (NI z16)), .bel w] _ := Facts.cons (f := .blk GZ 24 (Iv .u8 (NI z16))) A hS
  clear A
  refine wp_region_seq ?_
  refine wpSeq_yield (S := Facts [.blk (GZ) 24 (Iv .u8 (NI z16)), .bel w]) (yieldsIf_move rfl _ rfl _ rfl) hS ?_
  simp only [Act.put, List.setIfInBounds_toArray, List.set_cons_zero, List.set_cons_succ]
  refine wpSeq_yield (S := Facts [.blk (GZ) 24 (Iv .u8 (NI z16)), .bel w]) (v := (.int .u8 (m : Int))) (Or.inl ⟨by rfl, ?_⟩) hS ?_
  · intro w' hw'
    go_simp
  simp only [Act.put, List.setIfInBounds_toArray, List.set_cons_zero, List.set_cons_succ]
  refine wpSeq_yield (S := Facts [.blk (GZ) 24 (Iv .u8 (NI z16)), .bel w]) (v := (.int .u8 (j : Int))) (Or.inl ⟨by rfl, ?_⟩) hS ?_
  · intro w' hw'
    go_simp
  simp only [Act.put, List.setIfInBounds_toArray, List.set_cons_zero, List.set_cons_succ]
  refine wpSeq_yield (S := Facts [.blk (GZ) 24 (Iv .u8 (NI z16)), .bel w]) (yieldsIf_move rfl _ rfl _ rfl) hS ?_
  simp only [Act.put, List.setIfInBounds_toArray, List.set_cons_zero, List.set_cons_succ]
  refine wpSeq_yield (S := Facts [.blk (GZ) 24 (Iv .u8 (NI z16)), .bel w]) (v := (.int .u8 (q : Int))) (Or.inl ⟨by rfl, ?_⟩) hS ?_
  · intro w' hw'
    go_simp
  simp only [Act.put, List.setIfInBounds_toArray, List.set_cons_zero, List.set_cons_succ]
  refine wpSeq_yield (S := Facts [.blk (GZ) 24 (Iv .u8 (NI z16)), .bel w]) (v := (.int .u8 (d : Int))) (Or.inl ⟨by rfl, ?_⟩) hS ?_
  · intro w' hw'
    go_simp
  simp only [Act.put, List.setIfInBounds_toArray, List.set_cons_zero, List.set_cons_succ]
  refine wpSeq_yield (S := Facts [.blk (GZ) 24 (Iv .u8 (NI z16)), .bel w]) (v := (.pointer (some ⟨GZ, j, none⟩))) (Or.inl ⟨by rfl, ?_⟩) hS ?_
  · intro w' hw'
    go_simp
  simp only [Act.put, List.setIfInBounds_toArray, List.set_cons_zero, List.set_cons_succ]
  have c9 := list_cell (hS.blkAt (GZ) 24 (Iv .u8 (NI z16)) (.head _)) j (by omega)
  have f9 := Blk.frozen (hS.blkAt (GZ) 24 (Iv .u8 (NI z16)) (.head _)) j
  refine wpSeq_wp rfl (wp_store_int _ _ _ rfl rfl (by kernel_rfl) (GZ) j .u8 (d : Int) rfl rfl _ c9 f9 ?_)
  try simp only [Act.put, List.setIfInBounds_toArray, List.set_cons_zero, List.set_cons_succ]
  clear c9 f9
  replace hB := hB.setCell (p := ⟨GZ, j, none⟩) (by dsimp only; omega) (.int .u8 (d : Int))
  replace hS : Facts [.blk (GZ) 24 (Iv .u8 (NI O)), .bel w] _ := Facts.cons (f := .blk (GZ) 24 (Iv .u8 (NI O))) (list_set (hS.blkAt (GZ) 24 (Iv .u8 (NI z16)) (.head _)) j d HO.out) (Facts.cons (f := .bel w) hB (Facts.nil))
  generalize hWn : World.setCell _ _ _ = Wn at *
  clear hWn
  refine wpSeq_nil ?_
  go_upto_region 5 with fail
  refine wp_region_seq ?_
  refine wpSeq_wp rfl ?_
  go_simp
  refine (rbox_any _).mono ?_
  rintro e v2 ⟨x2, rfl, O2, b⟩
  have S2n := O2.sb
  clear O2
  replace hB := hB.trans (b.mono hB.size)
  replace hS := hS.below b
  clear b
  have S2 := S2n
  clear S2n
  show wpSeq _ _ _ _ _ _
  refine wpSeq_yield (S := Facts [.blk (GZ) 24 (Iv .u8 (NI O)), .bel w]) (yieldsIf_assign rfl _ rfl _ rfl) hS ?_
  simp only [Act.put, List.setIfInBounds_toArray, List.set_cons_zero, List.set_cons_succ]
  refine wpSeq_nil ?_
  go_upto_region 6 with fail
  replace hS := hS.drew
  replace hB := below_drew hB
  replace S2 := S2.drew
  refine wp_region_Z (S := Facts [.blk (GZ) 24 (Iv .u8 (NI O)), .bel w]) 18 (by kernel_rfl) ?_
  refine wpAnyZ_takeL 0 rfl (by kernel_rfl) (by kernel_rfl) (by kernel_rfl) (by kernel_rfl) (by kernel_rfl) (fun _ _ _ h => h) (yieldsIf_z16b rfl rfl) hS ?_
  simp only [Act.put, List.setIfInBounds_toArray, List.set_cons_zero, List.set_cons_succ]
  refine wpAnyZ_takeL 1 rfl (by kernel_rfl) (by kernel_rfl) (by kernel_rfl) (by kernel_rfl) (by kernel_rfl) (fun _ _ _ h => h) (show YieldsIf _ _ _ _ (.agg (Iv .u8 (NI O))) _ from yieldsIf_load rfl 24 _ rfl (GZ) rfl 24 _ _ (.head _) Try.underlying24 rfl (info_b _ lO)) hS ?_
  simp only [Act.put, List.setIfInBounds_toArray, List.set_cons_zero, List.set_cons_succ]
  refine wpAnyZ_takeL 3 rfl (by kernel_rfl) (by kernel_rfl) (by kernel_rfl) (by kernel_rfl) (by kernel_rfl) (fun _ _ _ h => h) (yieldsIf_move rfl _ rfl _ rfl) hS ?_
  simp only [Act.put, List.setIfInBounds_toArray, List.set_cons_zero, List.set_cons_succ]
  refine wpAnyZ_takeL 4 rfl (by kernel_rfl) (by kernel_rfl) (by kernel_rfl) (by kernel_rfl) (by kernel_rfl) (fun _ _ _ h => h) (yieldsIf_z16n rfl rfl) hS ?_
  simp only [Act.put, List.setIfInBounds_toArray, List.set_cons_zero, List.set_cons_succ]
  refine wpAnyZ_takeL 5 rfl (by kernel_rfl) (by kernel_rfl) (by kernel_rfl) (by kernel_rfl) (by kernel_rfl) (fun _ _ _ h => h) (show YieldsIf _ _ _ _ (.agg (Iv .u8 (NI O))) _ from yieldsIf_load rfl 24 _ rfl (GZ) rfl 24 _ _ (.head _) Try.underlying24 rfl (info_b _ lO)) hS ?_
  simp only [Act.put, List.setIfInBounds_toArray, List.set_cons_zero, List.set_cons_succ]
  refine wpAnyZ_one (i := 2) (by kernel_rfl) ?_
  unfold wpOp
  go_simp
  left
  refine (CE z16 O E lz16 lO bz16 bO HE.out _).mono ?_
  rintro e v3 ⟨rfl, b⟩
  replace hB := hB.trans (b.mono hB.size)
  replace hS := hS.below b
  replace S2 := S2.below b
  clear b
  refine ⟨hS, ?_⟩
  refine wpAnyZ_one (i := 6) (by kernel_rfl) ?_
  unfold wpOp
  go_simp
  left
  refine (rencrypt_v _ z16 O E lz16 lO bz16 bO HE.out _ S2).mono ?_
  rintro e v4 ⟨rfl, b⟩
  replace hB := hB.trans (b.mono hB.size)
  replace hS := hS.below b
  replace S2 := S2.below b
  clear b
  refine ⟨hS, ?_⟩
  refine wpAnyZ_takeL 7 rfl (by kernel_rfl) (by kernel_rfl) (by kernel_rfl) (by kernel_rfl) (by kernel_rfl) (fun _ _ _ h => h) (yieldsIf_eq16b rfl _ _ rfl E E rfl rfl lE lE true (decide_eq_true rfl)) hS ?_
  simp only [Act.put, List.setIfInBounds_toArray, List.set_cons_zero, List.set_cons_succ]
  refine wpAnyZ_takeL 8 rfl (by kernel_rfl) (by kernel_rfl) (by kernel_rfl) (by kernel_rfl) (by kernel_rfl) (fun _ _ _ h => h) (yieldsIf_move rfl _ rfl _ rfl) hS ?_
  simp only [Act.put, List.setIfInBounds_toArray, List.set_cons_zero, List.set_cons_succ]
  refine wpAnyZ_takeL 9 rfl (by kernel_rfl) (by kernel_rfl) (by kernel_rfl) (by kernel_rfl) (by kernel_rfl) (fun _ _ _ h => h) (show YieldsIf _ _ _ _ (.agg (Iv .u8 (NI O))) _ from yieldsIf_load rfl 24 _ rfl (GZ) rfl 24 _ _ (.head _) Try.underlying24 rfl (info_b _ lO)) hS ?_
  simp only [Act.put, List.setIfInBounds_toArray, List.set_cons_zero, List.set_cons_succ]
  refine wpAnyZ_takeL 10 rfl (by kernel_rfl) (by kernel_rfl) (by kernel_rfl) (by kernel_rfl) (by kernel_rfl) (fun _ _ _ h => h) (yieldsIf_z16b rfl rfl) hS ?_
  simp only [Act.put, List.setIfInBounds_toArray, List.set_cons_zero, List.set_cons_succ]
  refine wpAnyZ_takeL 12 rfl (by kernel_rfl) (by kernel_rfl) (by kernel_rfl) (by kernel_rfl) (by kernel_rfl) (fun _ _ _ h => h) (yieldsIf_move rfl _ rfl _ rfl) hS ?_
  simp only [Act.put, List.setIfInBounds_toArray, List.set_cons_zero, List.set_cons_succ]
  refine wpAnyZ_takeL 13 rfl (by kernel_rfl) (by kernel_rfl) (by kernel_rfl) (by kernel_rfl) (by kernel_rfl) (fun _ _ _ h => h) (show YieldsIf _ _ _ _ (.agg (Iv .u8 (NI O))) _ from yieldsIf_load rfl 24 _ rfl (GZ) rfl 24 _ _ (.head _) Try.underlying24 rfl (info_b _ lO)) hS ?_
  simp only [Act.put, List.setIfInBounds_toArray, List.set_cons_zero, List.set_cons_succ]
  refine wpAnyZ_takeL 14 rfl (by kernel_rfl) (by kernel_rfl) (by kernel_rfl) (by kernel_rfl) (by kernel_rfl) (fun _ _ _ h => h) (yieldsIf_z16n rfl rfl) hS ?_
  simp only [Act.put, List.setIfInBounds_toArray, List.set_cons_zero, List.set_cons_succ]
  refine wpAnyZ_one (i := 11) (by kernel_rfl) ?_
  unfold wpOp
  go_simp
  left
  refine (CE O z16 F lO lz16 bO bz16 HF.out _).mono ?_
  rintro e v5 ⟨rfl, b⟩
  replace hB := hB.trans (b.mono hB.size)
  replace hS := hS.below b
  replace S2 := S2.below b
  clear b
  refine ⟨hS, ?_⟩
  refine wpAnyZ_one (i := 15) (by kernel_rfl) ?_
  unfold wpOp
  go_simp
  left
  refine (rencrypt_v _ O z16 F lO lz16 bO bz16 HF.out _ S2).mono ?_
  rintro e v6 ⟨rfl, b⟩
  replace hB := hB.trans (b.mono hB.size)
  replace hS := hS.below b
  replace S2 := S2.below b
  clear b
  refine ⟨hS, ?_⟩
  refine wpAnyZ_takeL 16 rfl (by kernel_rfl) (by kernel_rfl) (by kernel_rfl) (by kernel_rfl) (by kernel_rfl) (fun _ _ _ h => h) (yieldsIf_eq16b rfl _ _ rfl F F rfl rfl lF lF true (decide_eq_true rfl)) hS ?_
  simp only [Act.put, List.setIfInBounds_toArray, List.set_cons_zero, List.set_cons_succ]
  refine wpAnyZ_takeL 17 rfl (by kernel_rfl) (by kernel_rfl) (by kernel_rfl) (by kernel_rfl) (by kernel_rfl) (fun _ _ _ h => h) (yieldsIf_pick rfl _ _ _ rfl true rfl _ rfl) hS ?_
  simp only [Act.put, List.setIfInBounds_toArray, List.set_cons_zero, List.set_cons_succ]
  refine wpAnyZ_one (i := 18) (by kernel_rfl) ?_
  unfold wpOp
  go_simp
  left
  refine wpAnyZ_done (by kernel_rfl) ?_ _
  go_wp2
  refine bodyPost_ret (results_tmp rfl _ _ _) ?_ ?_
  · rfl
  · exact ⟨rfl, hB⟩
end Go.Proofs.Ytnkjelamadpllaa
