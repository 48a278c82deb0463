/- Awake: fixed facts: nine times nine; the place 0 is shared by nobody (printed by lawladder.py). -/
import Derived.Test.YtgdhlafggdaipaaJh
import Derived.Test.YtgdhlafggdaipaaCf
namespace Go.Proofs.Ytgdhlafggdaipaa
open Go.RowKit

theorem key_cell {w : World} {g : Nat} {t : TypeId} {N : Nat} (h : Blk w g t (Iv .u8 (keyOf N))) (i : Nat) (hi : i < 32) (v : Nat) (hv : byteAt N i = v) : w.cell? ⟨g, i, none⟩ = some (.int .u8 ((v : Nat) : Int)) := by
  have hl := keyOf_bytes N
  rw [h.cell, Iv_get _ _ _ (by rw [hl.len]; exact hi), hl.get i hi, hv]
theorem cl9 : clN 9 = 28948022309329048855892746252171976963317496166410141009864396001978282409992 := by decide +kernel
theorem lad9a : (lad 28948022309329048855892746252171976963317496166410141009864396001978282409992 9 255).a = 51308241408682788594860346115987951272351162540477535997429117057761542978319 := by decide +kernel
theorem lad9b : (lad 28948022309329048855892746252171976963317496166410141009864396001978282409992 9 255).b = 47154794169143379669309714065436086811230587292877743942666655413522937240343 := by decide +kernel
def N9v : Nat := 54815864700279561125610391355931320566748822376190344121911385527384361806914
theorem N9_lt : N9v < pp := by rw [pp_eq]; decide +kernel
theorem n9_mul : F 51308241408682788594860346115987951272351162540477535997429117057761542978319 = F N9v * F 47154794169143379669309714065436086811230587292877743942666655413522937240343 := by decide +kernel
theorem B9_ne : F 47154794169143379669309714065436086811230587292877743942666655413522937240343 ≠ 0 := by decide +kernel
theorem B9_lt : 47154794169143379669309714065436086811230587292877743942666655413522937240343 < pp := by rw [pp_eq]; decide +kernel
theorem F_inj' {a b : Nat} (ha : a < pp) (hb : b < pp) (h : F a = F b) : a = b := by
  have := congrArg Fin.val h
  rw [F_val ha, F_val hb] at this
  exact this
theorem fm_inv (A B N : Nat) (hB : B < pp) (hN : N < pp) (h0 : F B ≠ 0) (h : F A = F N * F B) : fm A (pinv B) = N := by
  refine F_inj' (fm_lt _ _) hN ?_
  rw [F_fm, F_inv _ hB, h, Fin.mul_assoc, finv_mul _ h0, Fin.mul_one]
theorem ladN9 : ladN (clN 9) 9 = N9v := by
  rw [cl9, ladN_def, lad9a, lad9b]
  exact fm_inv _ _ _ B9_lt N9_lt B9_ne n9_mul
theorem plN9 : plN 9 = 9 := by decide +kernel
theorem plN0 : plN 0 = 0 := by decide +kernel

set_option maxHeartbeats 4000000 in
set_option maxRecDepth 100000 in
theorem awake_any (w : World) : Calls Try.prog 8 #[] w fun e w' => e = .returned (.bool true) ∧ Below w.heap.size w w' := by
  have CM := Lib.hid (fun W => mul_n 9 9 N9v (by decide) (by rw [plN9, ladN9]) W)
  have CS := Lib.hid (fun W => shared_n 7 0 0 (by decide) (by rw [plN0, small_zero]) false rfl W)
  have kN9v := Nat.lt_trans N9_lt pp_lt256
  go_enter Try.func8, Try.ntmps8
  go_upto_region 1 with fail
  have hB := Below.refl w.heap.size w
  have hS : Facts [] w := Facts.nil
  refine wp_region_seq ?_
  refine wpSeq_yield (S := Facts []) (yieldsIf_key1 9 (by decide) rfl rfl) hS ?_
  simp only [Act.put, List.setIfInBounds_toArray, List.set_cons_zero, List.set_cons_succ]
  refine wpSeq_yield (S := Facts []) (yieldsIf_key1 9 (by decide) rfl rfl) hS ?_
  simp only [Act.put, List.setIfInBounds_toArray, List.set_cons_zero, List.set_cons_succ]
  refine wpSeq_wp rfl ?_
  go_simp
  refine (CM.out _).mono ?_
  rintro e v1 ⟨rfl, b⟩
  replace hB := hB.trans (b.mono hB.size)
  replace hS := hS.below b
  clear b
  show wpSeq _ _ _ _ _ _
  refine wpSeq_alloc 23 (Iv .u8 (List.replicate 32 0)) rfl (fun W => by go_simp; rfl) ?_
  simp only [Act.put, List.setIfInBounds_toArray, List.set_cons_zero, List.set_cons_succ]
  refine wpSeq_store_row rfl 23 _ _ rfl (v1.heap.size) (Iv .u8 (keyOf N9v)) rfl rfl _ _ (Blk.new _ _ _) (info_key _ (keyOf_length _)) (by rw [Iv_size, Iv_size, keyOf_length]; rfl) (Iv_one _ _) ?_
  try simp only [Act.put, List.setIfInBounds_toArray, List.set_cons_zero, List.set_cons_succ]
  have hb := below_setRow ((Below.refl v1.heap.size v1).alloc (Nat.le_refl _) (.cells (Iv .u8 (List.replicate 32 0)) 23)) (Nat.le_refl v1.heap.size) (Iv .u8 (keyOf N9v))
  have A := (Blk.new v1 23 (Iv .u8 (List.replicate 32 0))).row (Iv .u8 (keyOf N9v))
  replace hB := hB.trans (hb.mono hB.size)
  replace hS := hS.below hb
  clear hb
  generalize hWn : World.setRow _ _ _ = Wn at *
  clear hWn
  generalize v1.heap.size = G1 at *
  replace hS : Facts [.blk (G1) 23 (Iv .u8 (keyOf N9v))] _ := Facts.cons (f := .blk G1 23 (Iv .u8 (keyOf N9v))) A hS
  clear A
  refine wpSeq_nil ?_
  go_upto_region 2 with fail
  refine wp_region_seq ?_
  refine wpSeq_yield (S := Facts [.blk (G1) 23 (Iv .u8 (keyOf N9v))]) (yieldsIf_key1 7 (by decide) rfl rfl) hS ?_
  simp only [Act.put, List.setIfInBounds_toArray, List.set_cons_zero, List.set_cons_succ]
  refine wpSeq_yield (S := Facts [.blk (G1) 23 (Iv .u8 (keyOf N9v))]) (yieldsIf_key0 rfl rfl) hS ?_
  simp only [Act.put, List.setIfInBounds_toArray, List.set_cons_zero, List.set_cons_succ]
  refine wpSeq_wp rfl ?_
  go_simp
  refine (CS.out _).mono ?_
  rintro e v2 ⟨rfl, b⟩
  replace hB := hB.trans (b.mono hB.size)
  replace hS := hS.below b
  clear b
  show wpSeq _ _ _ _ _ _
  refine wpSeq_yield (S := Facts [.blk (G1) 23 (Iv .u8 (keyOf N9v))]) (yieldsIf_move rfl _ rfl _ rfl) hS ?_
  simp only [Act.put, List.setIfInBounds_toArray, List.set_cons_zero, List.set_cons_succ]
  refine wpSeq_yield (S := Facts [.blk (G1) 23 (Iv .u8 (keyOf N9v))]) (show YieldsIf _ _ _ _ (Key (keyOf 0)) _ from yieldsIf_extract rfl _ _ rfl _ rfl _ rfl) hS ?_
  simp only [Act.put, List.setIfInBounds_toArray, List.set_cons_zero, List.set_cons_succ]
  refine wpSeq_yield (S := Facts [.blk (G1) 23 (Iv .u8 (keyOf N9v))]) (show YieldsIf _ _ _ _ (.bool false) _ from yieldsIf_extract rfl _ _ rfl _ rfl _ rfl) hS ?_
  simp only [Act.put, List.setIfInBounds_toArray, List.set_cons_zero, List.set_cons_succ]
  refine wpSeq_alloc 23 (Iv .u8 (List.replicate 32 0)) rfl (fun W => by go_simp; rfl) ?_
  simp only [Act.put, List.setIfInBounds_toArray, List.set_cons_zero, List.set_cons_succ]
  refine wpSeq_store_row rfl 23 _ _ rfl (v2.heap.size) (Iv .u8 (keyOf 0)) rfl rfl _ _ (Blk.new _ _ _) (info_key _ (keyOf_length _)) (by rw [Iv_size, Iv_size, keyOf_length]; rfl) (Iv_one _ _) ?_
  try simp only [Act.put, List.setIfInBounds_toArray, List.set_cons_zero, List.set_cons_succ]
  have hb := below_setRow ((Below.refl v2.heap.size v2).alloc (Nat.le_refl _) (.cells (Iv .u8 (List.replicate 32 0)) 23)) (Nat.le_refl v2.heap.size) (Iv .u8 (keyOf 0))
  have A := (Blk.new v2 23 (Iv .u8 (List.replicate 32 0))).row (Iv .u8 (keyOf 0))
  replace hB := hB.trans (hb.mono hB.size)
  replace hS := hS.below hb
  clear hb
  generalize hWn : World.setRow _ _ _ = Wn at *
  clear hWn
  generalize v2.heap.size = G2 at *
  replace hS : Facts [.blk (G2) 23 (Iv .u8 (keyOf 0)), .blk (G1) 23 (Iv .u8 (keyOf N9v))] _ := Facts.cons (f := .blk G2 23 (Iv .u8 (keyOf 0))) A hS
  clear A
  refine wpSeq_yield (S := Facts [.blk (G2) 23 (Iv .u8 (keyOf 0)), .blk (G1) 23 (Iv .u8 (keyOf N9v))]) (yieldsIf_assign rfl _ rfl _ rfl) hS ?_
  simp only [Act.put, List.setIfInBounds_toArray, List.set_cons_zero, List.set_cons_succ]
  refine wpSeq_nil ?_
  go_upto_region 3 with fail
  refine wp_region_seq ?_
  refine wpSeq_yield (S := Facts [.blk (G2) 23 (Iv .u8 (keyOf 0)), .blk (G1) 23 (Iv .u8 (keyOf N9v))]) (v := (.pointer (some ⟨G1, 0, none⟩))) (Or.inl ⟨by rfl, ?_⟩) hS ?_
  · intro w' _
    go_simp
  simp only [Act.put, List.setIfInBounds_toArray, List.set_cons_zero, List.set_cons_succ]
  refine wpSeq_yield (S := Facts [.blk (G2) 23 (Iv .u8 (keyOf 0)), .blk (G1) 23 (Iv .u8 (keyOf N9v))]) (v := (.int .u8 66)) (Or.inl ⟨by rfl, ?_⟩) hS ?_
  · intro w' hw'
    have c := key_cell (hw'.blkAt (G1) 23 (Iv .u8 (keyOf N9v)) (.tail _ (.head _))) 0 (by decide) 66 (by decide +kernel)
    go_simp
  simp only [Act.put, List.setIfInBounds_toArray, List.set_cons_zero, List.set_cons_succ]
  refine wpSeq_yield (S := Facts [.blk (G2) 23 (Iv .u8 (keyOf 0)), .blk (G1) 23 (Iv .u8 (keyOf N9v))]) (v := (.bool true)) (Or.inl ⟨by rfl, ?_⟩) hS ?_
  · intro w' _
    go_simp
  simp only [Act.put, List.setIfInBounds_toArray, List.set_cons_zero, List.set_cons_succ]
  refine wpSeq_yield (S := Facts [.blk (G2) 23 (Iv .u8 (keyOf 0)), .blk (G1) 23 (Iv .u8 (keyOf N9v))]) (yieldsIf_move rfl _ rfl _ rfl) hS ?_
  simp only [Act.put, List.setIfInBounds_toArray, List.set_cons_zero, List.set_cons_succ]
  refine wpSeq_yield (S := Facts [.blk (G2) 23 (Iv .u8 (keyOf 0)), .blk (G1) 23 (Iv .u8 (keyOf N9v))]) (v := (.pointer (some ⟨G1, 1, none⟩))) (Or.inl ⟨by rfl, ?_⟩) hS ?_
  · intro w' _
    go_simp
  simp only [Act.put, List.setIfInBounds_toArray, List.set_cons_zero, List.set_cons_succ]
  refine wpSeq_yield (S := Facts [.blk (G2) 23 (Iv .u8 (keyOf 0)), .blk (G1) 23 (Iv .u8 (keyOf N9v))]) (v := (.int .u8 44)) (Or.inl ⟨by rfl, ?_⟩) hS ?_
  · intro w' hw'
    have c := key_cell (hw'.blkAt (G1) 23 (Iv .u8 (keyOf N9v)) (.tail _ (.head _))) 1 (by decide) 44 (by decide +kernel)
    go_simp
  simp only [Act.put, List.setIfInBounds_toArray, List.set_cons_zero, List.set_cons_succ]
  refine wpSeq_yield (S := Facts [.blk (G2) 23 (Iv .u8 (keyOf 0)), .blk (G1) 23 (Iv .u8 (keyOf N9v))]) (v := (.bool true)) (Or.inl ⟨by rfl, ?_⟩) hS ?_
  · intro w' _
    go_simp
  simp only [Act.put, List.setIfInBounds_toArray, List.set_cons_zero, List.set_cons_succ]
  refine wpSeq_yield (S := Facts [.blk (G2) 23 (Iv .u8 (keyOf 0)), .blk (G1) 23 (Iv .u8 (keyOf N9v))]) (yieldsIf_pick rfl _ _ _ rfl true rfl _ rfl) hS ?_
  simp only [Act.put, List.setIfInBounds_toArray, List.set_cons_zero, List.set_cons_succ]
  refine wpSeq_yield (S := Facts [.blk (G2) 23 (Iv .u8 (keyOf 0)), .blk (G1) 23 (Iv .u8 (keyOf N9v))]) (yieldsIf_move rfl _ rfl _ rfl) hS ?_
  simp only [Act.put, List.setIfInBounds_toArray, List.set_cons_zero, List.set_cons_succ]
  refine wpSeq_yield (S := Facts [.blk (G2) 23 (Iv .u8 (keyOf 0)), .blk (G1) 23 (Iv .u8 (keyOf N9v))]) (v := (.pointer (some ⟨G1, 2, none⟩))) (Or.inl ⟨by rfl, ?_⟩) hS ?_
  · intro w' _
    go_simp
  simp only [Act.put, List.setIfInBounds_toArray, List.set_cons_zero, List.set_cons_succ]
  refine wpSeq_yield (S := Facts [.blk (G2) 23 (Iv .u8 (keyOf 0)), .blk (G1) 23 (Iv .u8 (keyOf N9v))]) (v := (.int .u8 142)) (Or.inl ⟨by rfl, ?_⟩) hS ?_
  · intro w' hw'
    have c := key_cell (hw'.blkAt (G1) 23 (Iv .u8 (keyOf N9v)) (.tail _ (.head _))) 2 (by decide) 142 (by decide +kernel)
    go_simp
  simp only [Act.put, List.setIfInBounds_toArray, List.set_cons_zero, List.set_cons_succ]
  refine wpSeq_yield (S := Facts [.blk (G2) 23 (Iv .u8 (keyOf 0)), .blk (G1) 23 (Iv .u8 (keyOf N9v))]) (v := (.bool true)) (Or.inl ⟨by rfl, ?_⟩) hS ?_
  · intro w' _
    go_simp
  simp only [Act.put, List.setIfInBounds_toArray, List.set_cons_zero, List.set_cons_succ]
  refine wpSeq_yield (S := Facts [.blk (G2) 23 (Iv .u8 (keyOf 0)), .blk (G1) 23 (Iv .u8 (keyOf N9v))]) (yieldsIf_pick rfl _ _ _ rfl true rfl _ rfl) hS ?_
  simp only [Act.put, List.setIfInBounds_toArray, List.set_cons_zero, List.set_cons_succ]
  refine wpSeq_yield (S := Facts [.blk (G2) 23 (Iv .u8 (keyOf 0)), .blk (G1) 23 (Iv .u8 (keyOf N9v))]) (yieldsIf_move rfl _ rfl _ rfl) hS ?_
  simp only [Act.put, List.setIfInBounds_toArray, List.set_cons_zero, List.set_cons_succ]
  refine wpSeq_yield (S := Facts [.blk (G2) 23 (Iv .u8 (keyOf 0)), .blk (G1) 23 (Iv .u8 (keyOf N9v))]) (v := (.pointer (some ⟨G1, 31, none⟩))) (Or.inl ⟨by rfl, ?_⟩) hS ?_
  · intro w' _
    go_simp
  simp only [Act.put, List.setIfInBounds_toArray, List.set_cons_zero, List.set_cons_succ]
  refine wpSeq_yield (S := Facts [.blk (G2) 23 (Iv .u8 (keyOf 0)), .blk (G1) 23 (Iv .u8 (keyOf N9v))]) (v := (.int .u8 121)) (Or.inl ⟨by rfl, ?_⟩) hS ?_
  · intro w' hw'
    have c := key_cell (hw'.blkAt (G1) 23 (Iv .u8 (keyOf N9v)) (.tail _ (.head _))) 31 (by decide) 121 (by decide +kernel)
    go_simp
  simp only [Act.put, List.setIfInBounds_toArray, List.set_cons_zero, List.set_cons_succ]
  refine wpSeq_yield (S := Facts [.blk (G2) 23 (Iv .u8 (keyOf 0)), .blk (G1) 23 (Iv .u8 (keyOf N9v))]) (v := (.bool true)) (Or.inl ⟨by rfl, ?_⟩) hS ?_
  · intro w' _
    go_simp
  simp only [Act.put, List.setIfInBounds_toArray, List.set_cons_zero, List.set_cons_succ]
  refine wpSeq_yield (S := Facts [.blk (G2) 23 (Iv .u8 (keyOf 0)), .blk (G1) 23 (Iv .u8 (keyOf N9v))]) (yieldsIf_pick rfl _ _ _ rfl true rfl _ rfl) hS ?_
  simp only [Act.put, List.setIfInBounds_toArray, List.set_cons_zero, List.set_cons_succ]
  refine wpSeq_yield (S := Facts [.blk (G2) 23 (Iv .u8 (keyOf 0)), .blk (G1) 23 (Iv .u8 (keyOf N9v))]) (yieldsIf_move rfl _ rfl _ rfl) hS ?_
  simp only [Act.put, List.setIfInBounds_toArray, List.set_cons_zero, List.set_cons_succ]
  refine wpSeq_yield (S := Facts [.blk (G2) 23 (Iv .u8 (keyOf 0)), .blk (G1) 23 (Iv .u8 (keyOf N9v))]) (yieldsIf_move rfl _ rfl _ rfl) hS ?_
  simp only [Act.put, List.setIfInBounds_toArray, List.set_cons_zero, List.set_cons_succ]
  refine wpSeq_yield (S := Facts [.blk (G2) 23 (Iv .u8 (keyOf 0)), .blk (G1) 23 (Iv .u8 (keyOf N9v))]) (yieldsIf_not rfl _ _ rfl false rfl) hS ?_
  simp only [Act.put, List.setIfInBounds_toArray, List.set_cons_zero, List.set_cons_succ]
  refine wpSeq_yield (S := Facts [.blk (G2) 23 (Iv .u8 (keyOf 0)), .blk (G1) 23 (Iv .u8 (keyOf N9v))]) (yieldsIf_pick rfl _ _ _ rfl true rfl _ rfl) hS ?_
  simp only [Act.put, List.setIfInBounds_toArray, List.set_cons_zero, List.set_cons_succ]
  refine wpSeq_yield (S := Facts [.blk (G2) 23 (Iv .u8 (keyOf 0)), .blk (G1) 23 (Iv .u8 (keyOf N9v))]) (yieldsIf_move rfl _ rfl _ rfl) hS ?_
  simp only [Act.put, List.setIfInBounds_toArray, List.set_cons_zero, List.set_cons_succ]
  refine wpSeq_yield (S := Facts [.blk (G2) 23 (Iv .u8 (keyOf 0)), .blk (G1) 23 (Iv .u8 (keyOf N9v))]) (show YieldsIf _ _ _ _ (Key (keyOf 0)) _ from yieldsIf_load rfl 23 _ rfl (G2) rfl 23 _ _ (.head _) Try.underlying23 rfl (info_key _ (keyOf_length _))) hS ?_
  simp only [Act.put, List.setIfInBounds_toArray, List.set_cons_zero, List.set_cons_succ]
  refine wpSeq_yield (S := Facts [.blk (G2) 23 (Iv .u8 (keyOf 0)), .blk (G1) 23 (Iv .u8 (keyOf N9v))]) (yieldsIf_key0 rfl rfl) hS ?_
  simp only [Act.put, List.setIfInBounds_toArray, List.set_cons_zero, List.set_cons_succ]
  refine wpSeq_yield (S := Facts [.blk (G2) 23 (Iv .u8 (keyOf 0)), .blk (G1) 23 (Iv .u8 (keyOf N9v))]) (yieldsIf_eqlk rfl _ _ rfl 0 0 rfl rfl true (by decide) (by decide) (decide_eq_true rfl)) hS ?_
  simp only [Act.put, List.setIfInBounds_toArray, List.set_cons_zero, List.set_cons_succ]
  refine wpSeq_yield (S := Facts [.blk (G2) 23 (Iv .u8 (keyOf 0)), .blk (G1) 23 (Iv .u8 (keyOf N9v))]) (yieldsIf_pick rfl _ _ _ rfl true rfl _ rfl) hS ?_
  simp only [Act.put, List.setIfInBounds_toArray, List.set_cons_zero, List.set_cons_succ]
  refine wpSeq_yield (S := Facts [.blk (G2) 23 (Iv .u8 (keyOf 0)), .blk (G1) 23 (Iv .u8 (keyOf N9v))]) (yieldsIf_assign rfl _ rfl _ rfl) hS ?_
  simp only [Act.put, List.setIfInBounds_toArray, List.set_cons_zero, List.set_cons_succ]
  refine wpSeq_nil ?_
  go_wp2
  exact bodyPost_ret (results_tmp rfl _ _ _) rfl ⟨rfl, hB⟩
end Go.Proofs.Ytgdhlafggdaipaa
