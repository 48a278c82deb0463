/- The contract of the reference's MulAdd. -/
import Derived.Test.YtnglancehmdlpaaRp
namespace Go.Proofs.Ytnglancehmdlpaa
open Go.RowKit

set_option maxHeartbeats 4000000 in
set_option maxRecDepth 100000 in
theorem rmuladd_n (N0 N1 N2 R : Nat) (lN0 : N0 < pw 4) (lN1 : N1 < pw 4) (lN2 : N2 < pw 4) (hR : R = (N0 * N1 + N2) % LL) (w : World) :
    Calls Try.prog 23 #[Key (keyOf N0), Key (keyOf N1), Key (keyOf N2)] w fun e w' => e = .returned (Key (keyOf R)) ∧ Below w.heap.size w w' := by
  obtain ⟨T, hT⟩ : ∃ x, x = N0 * N1 := ⟨_, rfl⟩
  obtain ⟨P, hP⟩ : ∃ x, x = T + N2 := ⟨_, rfl⟩
  rw [← hT, ← hP] at hR
  have HT := Lib.hid hT; have HP := Lib.hid hP; have HR := Lib.hid hR
  clear hT hP hR
  unfold Key
  go_enter Try.func23, Try.ntmps23
  go_upto_region 1 with fail
  generalize hW : World.alloc (World.alloc (World.alloc (World.alloc w _) _) _) _ = w1
  have hS : Facts [.blk (w.heap.size) 24 (Iv .u8 (keyOf N0)), .blk (w.heap.size + 1) 24 (Iv .u8 (keyOf N1)), .blk (w.heap.size + 1 + 1) 24 (Iv .u8 (keyOf N2)), .blk (w.heap.size + 1 + 1 + 1) 24 (Iv .u8 (List.replicate 32 0))] w1 := by
    subst hW
    exact Facts.cons ((((Blk.new _ _ _).alloc _).alloc _).alloc _) (Facts.cons (((Blk.new' (by simp) _ _).alloc _).alloc _) (Facts.cons ((Blk.new' (by simp) _ _).alloc _) (Facts.cons (Blk.new' (by simp) _ _) Facts.nil)))
  have hB : Below w.heap.size w w1 := by
    subst hW
    exact ((((Below.refl _ _).alloc (Nat.le_refl _) _).alloc (by simp) _).alloc (by simp; omega) _).alloc (by simp; omega) _
  clear hW
  replace hS := hS.drew
  replace hB := below_drew hB
  refine wp_region_Z (S := Facts [.blk (w.heap.size) 24 (Iv .u8 (keyOf N0)), .blk (w.heap.size + 1) 24 (Iv .u8 (keyOf N1)), .blk (w.heap.size + 1 + 1) 24 (Iv .u8 (keyOf N2)), .blk (w.heap.size + 1 + 1 + 1) 24 (Iv .u8 (List.replicate 32 0))]) 11 (by kernel_rfl) ?_
  refine wpAnyZ_takeL 0 (v := (.slice (some ⟨w.heap.size, 0, none⟩) 32 32)) rfl (by kernel_rfl) (by kernel_rfl) (by kernel_rfl) (by kernel_rfl) (by kernel_rfl) (fun _ _ _ h => h) (Or.inl ⟨by rfl, ?_⟩) hS ?_
  · intro w' _
    go_simp
  simp only [Act.put, List.setIfInBounds_toArray, List.set_cons_zero, List.set_cons_succ]
  refine wpAnyZ_takeL 2 (v := (.slice (some ⟨w.heap.size + 1, 0, none⟩) 32 32)) rfl (by kernel_rfl) (by kernel_rfl) (by kernel_rfl) (by kernel_rfl) (by kernel_rfl) (fun _ _ _ h => h) (Or.inl ⟨by rfl, ?_⟩) hS ?_
  · intro w' _
    go_simp
  simp only [Act.put, List.setIfInBounds_toArray, List.set_cons_zero, List.set_cons_succ]
  refine wpAnyZ_takeL 5 (v := (.slice (some ⟨w.heap.size + 1 + 1, 0, none⟩) 32 32)) rfl (by kernel_rfl) (by kernel_rfl) (by kernel_rfl) (by kernel_rfl) (by kernel_rfl) (fun _ _ _ h => h) (Or.inl ⟨by rfl, ?_⟩) hS ?_
  · intro w' _
    go_simp
  simp only [Act.put, List.setIfInBounds_toArray, List.set_cons_zero, List.set_cons_succ]
  refine wpAnyZ_one (i := 1) (by kernel_rfl) ?_
  unfold wpOp
  go_simp
  left
  refine (rof_v N0 _ _ _ (hS.blkAt _ _ _ (.head _)) lN0).mono ?_
  rintro e v1 ⟨r1, rfl, Hr1, b⟩
  replace hB := hB.trans (b.mono hB.size)
  replace hS := hS.below b
  clear b
  refine ⟨hS, ?_⟩
  refine wpAnyZ_one (i := 3) (by kernel_rfl) ?_
  unfold wpOp
  go_simp
  left
  refine (rof_v N1 _ _ _ (hS.blkAt _ _ _ (.tail _ (.head _))) lN1).mono ?_
  rintro e v2 ⟨r2, rfl, Hr2, b⟩
  replace hB := hB.trans (b.mono hB.size)
  replace hS := hS.below b
  replace Hr1 := Hr1.below b
  clear b
  refine ⟨hS, ?_⟩
  refine wpAnyZ_one (i := 4) (by kernel_rfl) ?_
  unfold wpOp
  go_simp
  left
  refine (times_v _ _ N0 N1 T 16 16 _ Hr1 Hr2 HT.out (by decide) (by decide)).mono ?_
  rintro e v3 ⟨r3, rfl, Hr3, b⟩
  replace hB := hB.trans (b.mono hB.size)
  replace hS := hS.below b
  replace Hr1 := Hr1.below b
  replace Hr2 := Hr2.below b
  clear b
  refine ⟨hS, ?_⟩
  refine wpAnyZ_one (i := 6) (by kernel_rfl) ?_
  unfold wpOp
  go_simp
  left
  refine (rof_v N2 _ _ _ (hS.blkAt _ _ _ (.tail _ (.tail _ (.head _)))) lN2).mono ?_
  rintro e v4 ⟨r4, rfl, Hr4, b⟩
  replace hB := hB.trans (b.mono hB.size)
  replace hS := hS.below b
  replace Hr1 := Hr1.below b
  replace Hr2 := Hr2.below b
  replace Hr3 := Hr3.below b
  clear b
  refine ⟨hS, ?_⟩
  refine wpAnyZ_one (i := 7) (by kernel_rfl) ?_
  unfold wpOp
  go_simp
  left
  refine (sum_v _ _ T N2 P 32 _ 32 16 Hr3 Hr4 HP.out (by decide) (by decide) (by decide)).mono ?_
  rintro e v5 ⟨r5, rfl, Hr5, b⟩
  replace hB := hB.trans (b.mono hB.size)
  replace hS := hS.below b
  replace Hr1 := Hr1.below b
  replace Hr2 := Hr2.below b
  replace Hr3 := Hr3.below b
  replace Hr4 := Hr4.below b
  clear b
  refine ⟨hS, ?_⟩
  refine wpAnyZ_one (i := 8) (by kernel_rfl) ?_
  unfold wpOp
  go_simp
  left
  refine (l_v _).mono ?_
  rintro e v6 ⟨r6, rfl, Hr6, b⟩
  replace hB := hB.trans (b.mono hB.size)
  replace hS := hS.below b
  replace Hr1 := Hr1.below b
  replace Hr2 := Hr2.below b
  replace Hr3 := Hr3.below b
  replace Hr4 := Hr4.below b
  replace Hr5 := Hr5.below b
  clear b
  refine ⟨hS, ?_⟩
  refine wpAnyZ_one (i := 9) (by kernel_rfl) ?_
  unfold wpOp
  go_simp
  left
  refine (rest_v _ _ P R 33 _ Hr5 Hr6 HR.out (by decide)).mono ?_
  rintro e v7 ⟨r7, rfl, Hr7, b⟩
  replace hB := hB.trans (b.mono hB.size)
  replace hS := hS.below b
  replace Hr1 := Hr1.below b
  replace Hr2 := Hr2.below b
  replace Hr3 := Hr3.below b
  replace Hr4 := Hr4.below b
  replace Hr5 := Hr5.below b
  replace Hr6 := Hr6.below b
  clear b
  refine ⟨hS, ?_⟩
  refine wpAnyZ_one (i := 10) (by kernel_rfl) ?_
  unfold wpOp
  go_simp
  left
  refine (rkey_v _ R 17 _ Hr7).mono ?_
  rintro e v8 ⟨rfl, b⟩
  replace hB := hB.trans (b.mono hB.size)
  replace hS := hS.below b
  replace Hr1 := Hr1.below b
  replace Hr2 := Hr2.below b
  replace Hr3 := Hr3.below b
  replace Hr4 := Hr4.below b
  replace Hr5 := Hr5.below b
  replace Hr6 := Hr6.below b
  replace Hr7 := Hr7.below b
  clear b
  refine ⟨hS, ?_⟩
  have Br := hS.blkAt _ _ _ (.tail _ (.tail _ (.tail _ (.head _))))
  refine wpAnyZ_store_last 11 rfl (by kernel_rfl) rfl _ _ _ rfl (w.heap.size + 1 + 1 + 1) (Iv .u8 (keyOf R)) rfl rfl _ _ Br (info_key_n _) (by rw [Iv_size, Iv_size, keyOf_length]; rfl) (Iv_one _ _) ?_
  refine wpAnyZ_done (by kernel_rfl) ?_ _
  go_wp2
  exact bodyPost_ret (results_cell_row rfl _ _ _ 24 _ (0, 0) _ rfl (Br.row _) Try.underlying24 rfl (info_key _ (keyOf_length _))) rfl ⟨rfl, below_setRow hB (by omega) _⟩
end Go.Proofs.Ytnglancehmdlpaa
