/- The law AesApart (printed by gencurve.py). -/
import Derived.Test.YtnkjelamadpllaaBo
namespace Go.Proofs.Ytnkjelamadpllaa
open Go.RowKit

theorem list_cell {w : World} {g : Nat} {t : TypeId} {l : List Nat} (h : Blk w g t (Iv .u8 (NI l))) (i : Nat) (hi : i < l.length) : w.cell? ⟨g, i, none⟩ = some (.int .u8 ((l.getD i 0 : Nat) : Int)) := by
  rw [h.cell, NI_get _ _ hi]
  simp [hi]
theorem list_set {w : World} {g : Nat} {t : TypeId} {l l' : List Nat} (h : Blk w g t (Iv .u8 (NI l))) (k x : Nat) (hl : l' = l.set k x) : Blk (w.setCell ⟨g, k, none⟩ (.int .u8 ((x : Nat) : Int))) g t (Iv .u8 (NI l')) := by
  have hs := Blk.set h k (.int .u8 ((x : Nat) : Int))
  rw [Iv_set, NI_set] at hs
  rw [hl]
  exact hs
theorem set_bytes {l : List Nat} (h : ∀ x ∈ l, x < 256) (k : Nat) {x : Nat} (hx : x < 256) : ∀ y ∈ l.set k x, y < 256 := fun y hy => by
  rcases List.mem_or_eq_of_mem_set hy with hy | rfl
  · exact h y hy
  · exact hx
set_option maxHeartbeats 8000000 in
set_option maxRecDepth 100000 in
theorem apart_f (CE : EncC) (K : List Nat) (lK : K.length = 16) (bK : ∀ x ∈ K, x < 256) (A : List Nat) (lA : A.length = 16) (bA : ∀ x ∈ A, x < 256) (B : List Nat) (lB : B.length = 16) (bB : ∀ x ∈ B, x < 256) (n : Nat) (hn : n < 256) (w : World) :
    Calls Try.prog 5 #[.agg (Iv .u8 (NI K)), .agg (Iv .u8 (NI A)), .agg (Iv .u8 (NI B)), .int .u8 (n : Int), .bool false] w fun e w' => e = .returned (.bool true) ∧ Below w.heap.size w w' := by
  obtain ⟨E, hE⟩ : ∃ l, l = encL boxL K A := ⟨_, rfl⟩
  have lE : E.length = 16 := hE ▸ encL_length K A
  obtain ⟨F, hF⟩ : ∃ l, l = encL boxL K B := ⟨_, rfl⟩
  have lF : F.length = 16 := hF ▸ encL_length K B
  obtain ⟨c, hc2⟩ : ∃ c, decide (A = B) = c := ⟨_, rfl⟩
  have hc1 := (enc_eq lK lA lB bK bA bB).trans hc2
  rw [← hE, ← hF] at hc1
  have HE := Lib.hid hE
  have HF := Lib.hid hF
  have HC1 := Lib.hid hc1
  have HC2 := Lib.hid hc2
  clear hE hF hc1 hc2
  go_enter Try.func5, Try.ntmps5
  go_upto_region 1 with fail
  generalize hW : World.alloc (World.alloc (World.alloc w _) _) _ = W
  have hB : Below w.heap.size w W := hW ▸ (((Below.refl w.heap.size w).alloc (Nat.le_refl _) _).alloc (by simp) _).alloc (by simp; omega) _
  have K0 : Blk W (w.heap.size) 22 (Iv .u8 (NI K)) := hW ▸ (((Blk.new' (by simp) _ _).alloc _).alloc _)
  have K1 : Blk W (w.heap.size + 1) 22 (Iv .u8 (NI A)) := hW ▸ ((Blk.new' (by simp) _ _).alloc _)
  have K2 : Blk W (w.heap.size + 1 + 1) 22 (Iv .u8 (NI B)) := hW ▸ (Blk.new' (by simp) _ _)
  have hS : Facts [.blk (w.heap.size) 22 (Iv .u8 (NI K)), .blk (w.heap.size + 1) 22 (Iv .u8 (NI A)), .blk (w.heap.size + 1 + 1) 22 (Iv .u8 (NI B)), .bel w] W := Facts.cons (f := .blk (w.heap.size) 22 (Iv .u8 (NI K))) K0 (Facts.cons (f := .blk (w.heap.size + 1) 22 (Iv .u8 (NI A))) K1 (Facts.cons (f := .blk (w.heap.size + 1 + 1) 22 (Iv .u8 (NI B))) K2 (Facts.cons (f := .bel w) hB Facts.nil)))
  clear hW K0 K1 K2
  refine wp_region_seq ?_
  refine wpSeq_wp rfl ?_
  go_simp
  refine (awake_c CE _).mono ?_
  rintro e v1 ⟨rfl, b⟩
  replace hB := hB.trans (b.mono hB.size)
  replace hS := hS.below b
  clear b
  show wpSeq _ _ _ _ _ _
  refine wpSeq_yield (S := Facts [.blk (w.heap.size) 22 (Iv .u8 (NI K)), .blk (w.heap.size + 1) 22 (Iv .u8 (NI A)), .blk (w.heap.size + 1 + 1) 22 (Iv .u8 (NI B)), .bel w]) (yieldsIf_not rfl _ _ rfl true rfl) hS ?_
  simp only [Act.put, List.setIfInBounds_toArray, List.set_cons_zero, List.set_cons_succ]
  refine wpSeq_nil ?_
  go_upto_region 3 with fail
  refine wp_region_seq ?_
  refine wpSeq_yield (S := Facts [.blk (w.heap.size) 22 (Iv .u8 (NI K)), .blk (w.heap.size + 1) 22 (Iv .u8 (NI A)), .blk (w.heap.size + 1 + 1) 22 (Iv .u8 (NI B)), .bel w]) (yieldsIf_move rfl _ rfl _ rfl) hS ?_
  simp only [Act.put, List.setIfInBounds_toArray, List.set_cons_zero, List.set_cons_succ]
  refine wpSeq_nil ?_
  go_upto_region 6 with fail
  replace hS := hS.drew
  replace hB := below_drew hB
  refine wp_region_Z (S := Facts [.blk (w.heap.size) 22 (Iv .u8 (NI K)), .blk (w.heap.size + 1) 22 (Iv .u8 (NI A)), .blk (w.heap.size + 1 + 1) 22 (Iv .u8 (NI B)), .bel w]) 11 (by kernel_rfl) ?_
  refine wpAnyZ_takeL 0 rfl (by kernel_rfl) (by kernel_rfl) (by kernel_rfl) (by kernel_rfl) (by kernel_rfl) (fun _ _ _ h => h) (show YieldsIf _ _ _ _ (.agg (Iv .u8 (NI K))) _ from yieldsIf_load rfl 22 _ rfl (w.heap.size) rfl 22 _ _ (.head _) Try.underlying22 rfl (info_n _ lK)) hS ?_
  simp only [Act.put, List.setIfInBounds_toArray, List.set_cons_zero, List.set_cons_succ]
  refine wpAnyZ_takeL 1 rfl (by kernel_rfl) (by kernel_rfl) (by kernel_rfl) (by kernel_rfl) (by kernel_rfl) (fun _ _ _ h => h) (show YieldsIf _ _ _ _ (.agg (Iv .u8 (NI A))) _ from yieldsIf_load rfl 22 _ rfl (w.heap.size + 1) rfl 22 _ _ (.tail _ (.head _)) Try.underlying22 rfl (info_n _ lA)) hS ?_
  simp only [Act.put, List.setIfInBounds_toArray, List.set_cons_zero, List.set_cons_succ]
  refine wpAnyZ_takeL 3 rfl (by kernel_rfl) (by kernel_rfl) (by kernel_rfl) (by kernel_rfl) (by kernel_rfl) (fun _ _ _ h => h) (show YieldsIf _ _ _ _ (.agg (Iv .u8 (NI K))) _ from yieldsIf_load rfl 22 _ rfl (w.heap.size) rfl 22 _ _ (.head _) Try.underlying22 rfl (info_n _ lK)) hS ?_
  simp only [Act.put, List.setIfInBounds_toArray, List.set_cons_zero, List.set_cons_succ]
  refine wpAnyZ_takeL 4 rfl (by kernel_rfl) (by kernel_rfl) (by kernel_rfl) (by kernel_rfl) (by kernel_rfl) (fun _ _ _ h => h) (show YieldsIf _ _ _ _ (.agg (Iv .u8 (NI B))) _ from yieldsIf_load rfl 22 _ rfl (w.heap.size + 1 + 1) rfl 22 _ _ (.tail _ (.tail _ (.head _))) Try.underlying22 rfl (info_n _ lB)) hS ?_
  simp only [Act.put, List.setIfInBounds_toArray, List.set_cons_zero, List.set_cons_succ]
  refine wpAnyZ_takeL 7 rfl (by kernel_rfl) (by kernel_rfl) (by kernel_rfl) (by kernel_rfl) (by kernel_rfl) (fun _ _ _ h => h) (show YieldsIf _ _ _ _ (.agg (Iv .u8 (NI A))) _ from yieldsIf_load rfl 22 _ rfl (w.heap.size + 1) rfl 22 _ _ (.tail _ (.head _)) Try.underlying22 rfl (info_n _ lA)) hS ?_
  simp only [Act.put, List.setIfInBounds_toArray, List.set_cons_zero, List.set_cons_succ]
  refine wpAnyZ_takeL 8 rfl (by kernel_rfl) (by kernel_rfl) (by kernel_rfl) (by kernel_rfl) (by kernel_rfl) (fun _ _ _ h => h) (show YieldsIf _ _ _ _ (.agg (Iv .u8 (NI B))) _ from yieldsIf_load rfl 22 _ rfl (w.heap.size + 1 + 1) rfl 22 _ _ (.tail _ (.tail _ (.head _))) Try.underlying22 rfl (info_n _ lB)) hS ?_
  simp only [Act.put, List.setIfInBounds_toArray, List.set_cons_zero, List.set_cons_succ]
  refine wpAnyZ_takeL 9 rfl (by kernel_rfl) (by kernel_rfl) (by kernel_rfl) (by kernel_rfl) (by kernel_rfl) (fun _ _ _ h => h) (yieldsIf_eq16n rfl _ _ rfl A B rfl rfl lA lB c HC2.out) hS ?_
  simp only [Act.put, List.setIfInBounds_toArray, List.set_cons_zero, List.set_cons_succ]
  refine wpAnyZ_one (i := 2) (by kernel_rfl) ?_
  unfold wpOp
  go_simp
  left
  refine (CE K A E lK lA bK bA HE.out _).mono ?_
  rintro e v2 ⟨rfl, b⟩
  replace hB := hB.trans (b.mono hB.size)
  replace hS := hS.below b
  clear b
  refine ⟨hS, ?_⟩
  refine wpAnyZ_one (i := 5) (by kernel_rfl) ?_
  unfold wpOp
  go_simp
  left
  refine (CE K B F lK lB bK bB HF.out _).mono ?_
  rintro e v3 ⟨rfl, b⟩
  replace hB := hB.trans (b.mono hB.size)
  replace hS := hS.below b
  clear b
  refine ⟨hS, ?_⟩
  refine wpAnyZ_takeL 6 rfl (by kernel_rfl) (by kernel_rfl) (by kernel_rfl) (by kernel_rfl) (by kernel_rfl) (fun _ _ _ h => h) (yieldsIf_eq16b rfl _ _ rfl E F rfl rfl lE lF c HC1.out) hS ?_
  simp only [Act.put, List.setIfInBounds_toArray, List.set_cons_zero, List.set_cons_succ]
  refine wpAnyZ_takeL 10 rfl (by kernel_rfl) (by kernel_rfl) (by kernel_rfl) (by kernel_rfl) (by kernel_rfl) (fun _ _ _ h => h) (yieldsIf_eqlb rfl _ _ rfl c c rfl rfl true (beq_self_eq_true c)) hS ?_
  simp only [Act.put, List.setIfInBounds_toArray, List.set_cons_zero, List.set_cons_succ]
  refine wpAnyZ_one (i := 11) (by kernel_rfl) ?_
  unfold wpOp
  go_simp
  left
  refine wpAnyZ_done (by kernel_rfl) ?_ _
  go_wp2
  refine bodyPost_ret (results_tmp rfl _ _ _) ?_ ?_
  · rfl
  · exact ⟨rfl, hB⟩
set_option maxHeartbeats 8000000 in
set_option maxRecDepth 100000 in
theorem apart_t (CE : EncC) (K : List Nat) (lK : K.length = 16) (bK : ∀ x ∈ K, x < 256) (A : List Nat) (lA : A.length = 16) (bA : ∀ x ∈ A, x < 256) (B : List Nat) (lB : B.length = 16) (bB : ∀ x ∈ B, x < 256) (n : Nat) (hn : n < 256) (w : World) :
    Calls Try.prog 5 #[.agg (Iv .u8 (NI K)), .agg (Iv .u8 (NI A)), .agg (Iv .u8 (NI B)), .int .u8 (n : Int), .bool true] w fun e w' => e = .returned (.bool true) ∧ Below w.heap.size w w' := by
  obtain ⟨m, hm⟩ : ∃ m, m = n / 8 := ⟨_, rfl⟩
  obtain ⟨j, hj⟩ : ∃ j, j = m % 16 := ⟨_, rfl⟩
  obtain ⟨q, hq⟩ : ∃ q, q = n % 8 := ⟨_, rfl⟩
  obtain ⟨d, hd⟩ : ∃ d, d = 2 ^ q := ⟨_, rfl⟩
  have q8 : q < 8 := by omega
  have j16 : j < 16 := by omega
  have ld : d < 256 := by rw [hd]; exact Nat.lt_of_lt_of_le (Nat.pow_lt_pow_right (by decide) q8) (by decide)
  have t1 : (n : Int).tdiv 8 = (m : Int) := by rw [Int.tdiv_eq_ediv_of_nonneg (by omega)]; omega
  have t2 : (m : Int).tmod 16 = (j : Int) := by rw [Int.tmod_eq_emod_of_nonneg (by omega)]; omega
  have t3 : (n : Int).tmod 8 = (q : Int) := by rw [Int.tmod_eq_emod_of_nonneg (by omega)]; omega
  have t4 : (2 : Int) ^ q = (d : Int) := by rw [hd]; push_cast; rfl
  have t5 : IntKind.u8.wrap (d : Int) = (d : Int) := by rw [IntKind.wrap_u8]; omega
  have t6 : (d : Int) % 256 = (d : Int) := by omega
  have y1 : IntKind.u8.wrap (m : Int) = (m : Int) := by rw [IntKind.wrap_u8]; omega
  have y2 : IntKind.u8.wrap (j : Int) = (j : Int) := by rw [IntKind.wrap_u8]; omega
  have y3 : IntKind.u8.wrap (q : Int) = (q : Int) := by rw [IntKind.wrap_u8]; omega
  have j1 : (j : Int) < 16 := by omega
  have j0 : (0 : Int) ≤ (j : Int) := by omega
  have q0 : (0 : Int) ≤ (q : Int) := by omega
  obtain ⟨X0, hX0⟩ : ∃ x, x = A.getD j 0 := ⟨_, rfl⟩
  have lX0 : X0 < 256 := hX0 ▸ getD_lt bA j
  have ex := u8_xor_nat X0 d lX0 ld
  obtain ⟨X, hX⟩ : ∃ x, x = X0 ^^^ d := ⟨_, rfl⟩
  have lX : X < 256 := hX ▸ xor_256 lX0 ld
  rw [← hX] at ex
  obtain ⟨B2, hB2⟩ : ∃ l, l = A.set j X := ⟨_, rfl⟩
  have lB2 : B2.length = 16 := by rw [hB2, List.length_set, lA]
  have bB2 : ∀ x ∈ B2, x < 256 := hB2 ▸ set_bytes bA j lX
  have HB2 := Lib.hid hB2
  have HX0 := Lib.hid hX0
  clear hm hj hq hd hX0 hX hB2
  obtain ⟨E, hE⟩ : ∃ l, l = encL boxL K A := ⟨_, rfl⟩
  have lE : E.length = 16 := hE ▸ encL_length K A
  obtain ⟨F, hF⟩ : ∃ l, l = encL boxL K B2 := ⟨_, rfl⟩
  have lF : F.length = 16 := hF ▸ encL_length K B2
  obtain ⟨c, hc2⟩ : ∃ c, decide (A = B2) = c := ⟨_, rfl⟩
  have hc1 := (enc_eq lK lA lB2 bK bA bB2).trans hc2
  rw [← hE, ← hF] at hc1
  have HE := Lib.hid hE
  have HF := Lib.hid hF
  have HC1 := Lib.hid hc1
  have HC2 := Lib.hid hc2
  clear hE hF hc1 hc2
  go_enter Try.func5, Try.ntmps5
  go_upto_region 1 with fail
  generalize hW : World.alloc (World.alloc (World.alloc w _) _) _ = W
  have hB : Below w.heap.size w W := hW ▸ (((Below.refl w.heap.size w).alloc (Nat.le_refl _) _).alloc (by simp) _).alloc (by simp; omega) _
  have K0 : Blk W (w.heap.size) 22 (Iv .u8 (NI K)) := hW ▸ (((Blk.new' (by simp) _ _).alloc _).alloc _)
  have K1 : Blk W (w.heap.size + 1) 22 (Iv .u8 (NI A)) := hW ▸ ((Blk.new' (by simp) _ _).alloc _)
  have K2 : Blk W (w.heap.size + 1 + 1) 22 (Iv .u8 (NI B)) := hW ▸ (Blk.new' (by simp) _ _)
  have hS : Facts [.blk (w.heap.size) 22 (Iv .u8 (NI K)), .blk (w.heap.size + 1) 22 (Iv .u8 (NI A)), .blk (w.heap.size + 1 + 1) 22 (Iv .u8 (NI B)), .bel w] W := Facts.cons (f := .blk (w.heap.size) 22 (Iv .u8 (NI K))) K0 (Facts.cons (f := .blk (w.heap.size + 1) 22 (Iv .u8 (NI A))) K1 (Facts.cons (f := .blk (w.heap.size + 1 + 1) 22 (Iv .u8 (NI B))) K2 (Facts.cons (f := .bel w) hB Facts.nil)))
  clear hW K0 K1 K2
  refine wp_region_seq ?_
  refine wpSeq_wp rfl ?_
  go_simp
  refine (awake_c CE _).mono ?_
  rintro e v1 ⟨rfl, b⟩
  replace hB := hB.trans (b.mono hB.size)
  replace hS := hS.below b
  clear b
  show wpSeq _ _ _ _ _ _
  refine wpSeq_yield (S := Facts [.blk (w.heap.size) 22 (Iv .u8 (NI K)), .blk (w.heap.size + 1) 22 (Iv .u8 (NI A)), .blk (w.heap.size + 1 + 1) 22 (Iv .u8 (NI B)), .bel w]) (yieldsIf_not rfl _ _ rfl true rfl) hS ?_
  simp only [Act.put, List.setIfInBounds_toArray, List.set_cons_zero, List.set_cons_succ]
  refine wpSeq_nil ?_
  go_upto_region 4 with fail
  refine wp_region_seq ?_
  refine wpSeq_yield (S := Facts [.blk (w.heap.size) 22 (Iv .u8 (NI K)), .blk (w.heap.size + 1) 22 (Iv .u8 (NI A)), .blk (w.heap.size + 1 + 1) 22 (Iv .u8 (NI B)), .bel w]) (show YieldsIf _ _ _ _ (.agg (Iv .u8 (NI A))) _ from yieldsIf_load rfl 22 _ rfl (w.heap.size + 1) rfl 22 _ _ (.tail _ (.head _)) Try.underlying22 rfl (info_n _ lA)) hS ?_
  simp only [Act.put, List.setIfInBounds_toArray, List.set_cons_zero, List.set_cons_succ]
  refine wpSeq_store_row rfl 22 _ _ rfl (w.heap.size + 1 + 1) (Iv .u8 (NI A)) rfl rfl _ _ (hS.blkAt (w.heap.size + 1 + 1) 22 (Iv .u8 (NI B)) (.tail _ (.tail _ (.head _)))) (info_n _ lA) (by simp only [Iv_size, NI_length, lB, lA]) (Iv_one _ _) ?_
  try simp only [Act.put, List.setIfInBounds_toArray, List.set_cons_zero, List.set_cons_succ]
  replace hB := below_setRow hB (g := w.heap.size + 1 + 1) (by omega) (Iv .u8 (NI A))
  replace hS : Facts [.blk (w.heap.size) 22 (Iv .u8 (NI K)), .blk (w.heap.size + 1) 22 (Iv .u8 (NI A)), .blk (w.heap.size + 1 + 1) 22 (Iv .u8 (NI A)), .bel w] _ := Facts.cons (f := .blk (w.heap.size) 22 (Iv .u8 (NI K))) ((hS.blkAt (w.heap.size) 22 (Iv .u8 (NI K)) (.head _)).rowFar (k := w.heap.size + 1 + 1) (by first | omega | exact blk_ne (hS.blkAt _ _ _ (.head _)) (hS.blkAt _ _ _ (.tail _ (.tail _ (.head _)))) (by decide)) _) (Facts.cons (f := .blk (w.heap.size + 1) 22 (Iv .u8 (NI A))) ((hS.blkAt (w.heap.size + 1) 22 (Iv .u8 (NI A)) (.tail _ (.head _))).rowFar (k := w.heap.size + 1 + 1) (by first | omega | exact blk_ne (hS.blkAt _ _ _ (.tail _ (.head _))) (hS.blkAt _ _ _ (.tail _ (.tail _ (.head _)))) (by decide)) _) (Facts.cons (f := .blk (w.heap.size + 1 + 1) 22 (Iv .u8 (NI A))) ((hS.blkAt (w.heap.size + 1 + 1) 22 (Iv .u8 (NI B)) (.tail _ (.tail _ (.head _)))).row _) (Facts.cons (f := .bel w) (by first | exact hB | exact below_setRow hB (by omega) _) (Facts.nil))))
  generalize hWn : World.setRow _ _ _ = Wn at *
  clear hWn
  refine wpSeq_nil ?_
  go_upto_region 5 with fail
  refine wp_region_seq ?_
  refine wpSeq_yield (S := Facts [.blk (w.heap.size) 22 (Iv .u8 (NI K)), .blk (w.heap.size + 1) 22 (Iv .u8 (NI A)), .blk (w.heap.size + 1 + 1) 22 (Iv .u8 (NI A)), .bel w]) (yieldsIf_move rfl _ rfl _ rfl) hS ?_
  simp only [Act.put, List.setIfInBounds_toArray, List.set_cons_zero, List.set_cons_succ]
  refine wpSeq_yield (S := Facts [.blk (w.heap.size) 22 (Iv .u8 (NI K)), .blk (w.heap.size + 1) 22 (Iv .u8 (NI A)), .blk (w.heap.size + 1 + 1) 22 (Iv .u8 (NI A)), .bel w]) (v := (.int .u8 (m : Int))) (Or.inl ⟨by rfl, ?_⟩) hS ?_
  · intro w' hw'
    go_simp
  simp only [Act.put, List.setIfInBounds_toArray, List.set_cons_zero, List.set_cons_succ]
  refine wpSeq_yield (S := Facts [.blk (w.heap.size) 22 (Iv .u8 (NI K)), .blk (w.heap.size + 1) 22 (Iv .u8 (NI A)), .blk (w.heap.size + 1 + 1) 22 (Iv .u8 (NI A)), .bel w]) (v := (.int .u8 (j : Int))) (Or.inl ⟨by rfl, ?_⟩) hS ?_
  · intro w' hw'
    go_simp
  simp only [Act.put, List.setIfInBounds_toArray, List.set_cons_zero, List.set_cons_succ]
  refine wpSeq_yield (S := Facts [.blk (w.heap.size) 22 (Iv .u8 (NI K)), .blk (w.heap.size + 1) 22 (Iv .u8 (NI A)), .blk (w.heap.size + 1 + 1) 22 (Iv .u8 (NI A)), .bel w]) (v := (.pointer (some ⟨w.heap.size + 1 + 1, j, none⟩))) (Or.inl ⟨by rfl, ?_⟩) hS ?_
  · intro w' hw'
    go_simp
  simp only [Act.put, List.setIfInBounds_toArray, List.set_cons_zero, List.set_cons_succ]
  refine wpSeq_yield (S := Facts [.blk (w.heap.size) 22 (Iv .u8 (NI K)), .blk (w.heap.size + 1) 22 (Iv .u8 (NI A)), .blk (w.heap.size + 1 + 1) 22 (Iv .u8 (NI A)), .bel w]) (v := (.int .u8 (X0 : Int))) (Or.inl ⟨by rfl, ?_⟩) hS ?_
  · intro w' hw'
    have c := list_cell (hw'.blkAt (w.heap.size + 1 + 1) 22 (Iv .u8 (NI A)) (.tail _ (.tail _ (.head _)))) j (by omega)
    rw [← HX0.out] at c
    go_simp
  simp only [Act.put, List.setIfInBounds_toArray, List.set_cons_zero, List.set_cons_succ]
  refine wpSeq_yield (S := Facts [.blk (w.heap.size) 22 (Iv .u8 (NI K)), .blk (w.heap.size + 1) 22 (Iv .u8 (NI A)), .blk (w.heap.size + 1 + 1) 22 (Iv .u8 (NI A)), .bel w]) (yieldsIf_move rfl _ rfl _ rfl) hS ?_
  simp only [Act.put, List.setIfInBounds_toArray, List.set_cons_zero, List.set_cons_succ]
  refine wpSeq_yield (S := Facts [.blk (w.heap.size) 22 (Iv .u8 (NI K)), .blk (w.heap.size + 1) 22 (Iv .u8 (NI A)), .blk (w.heap.size + 1 + 1) 22 (Iv .u8 (NI A)), .bel w]) (v := (.int .u8 (q : Int))) (Or.inl ⟨by rfl, ?_⟩) hS ?_
  · intro w' hw'
    go_simp
  simp only [Act.put, List.setIfInBounds_toArray, List.set_cons_zero, List.set_cons_succ]
  refine wpSeq_yield (S := Facts [.blk (w.heap.size) 22 (Iv .u8 (NI K)), .blk (w.heap.size + 1) 22 (Iv .u8 (NI A)), .blk (w.heap.size + 1 + 1) 22 (Iv .u8 (NI A)), .bel w]) (v := (.int .u8 (d : Int))) (Or.inl ⟨by rfl, ?_⟩) hS ?_
  · intro w' hw'
    go_simp
  simp only [Act.put, List.setIfInBounds_toArray, List.set_cons_zero, List.set_cons_succ]
  refine wpSeq_yield (S := Facts [.blk (w.heap.size) 22 (Iv .u8 (NI K)), .blk (w.heap.size + 1) 22 (Iv .u8 (NI A)), .blk (w.heap.size + 1 + 1) 22 (Iv .u8 (NI A)), .bel w]) (v := (.int .u8 (X : Int))) (Or.inl ⟨by rfl, ?_⟩) hS ?_
  · intro w' hw'
    go_simp
  simp only [Act.put, List.setIfInBounds_toArray, List.set_cons_zero, List.set_cons_succ]
  refine wpSeq_yield (S := Facts [.blk (w.heap.size) 22 (Iv .u8 (NI K)), .blk (w.heap.size + 1) 22 (Iv .u8 (NI A)), .blk (w.heap.size + 1 + 1) 22 (Iv .u8 (NI A)), .bel w]) (v := (.pointer (some ⟨w.heap.size + 1 + 1, j, none⟩))) (Or.inl ⟨by rfl, ?_⟩) hS ?_
  · intro w' hw'
    go_simp
  simp only [Act.put, List.setIfInBounds_toArray, List.set_cons_zero, List.set_cons_succ]
  have c9 := list_cell (hS.blkAt (w.heap.size + 1 + 1) 22 (Iv .u8 (NI A)) (.tail _ (.tail _ (.head _)))) j (by omega)
  have f9 := Blk.frozen (hS.blkAt (w.heap.size + 1 + 1) 22 (Iv .u8 (NI A)) (.tail _ (.tail _ (.head _)))) j
  refine wpSeq_wp rfl (wp_store_int _ _ _ rfl rfl (by kernel_rfl) (w.heap.size + 1 + 1) j .u8 (X : Int) rfl rfl _ c9 f9 ?_)
  try simp only [Act.put, List.setIfInBounds_toArray, List.set_cons_zero, List.set_cons_succ]
  clear c9 f9
  replace hB := hB.setCell (p := ⟨w.heap.size + 1 + 1, j, none⟩) (by dsimp only; omega) (.int .u8 (X : Int))
  replace hS : Facts [.blk (w.heap.size) 22 (Iv .u8 (NI K)), .blk (w.heap.size + 1) 22 (Iv .u8 (NI A)), .blk (w.heap.size + 1 + 1) 22 (Iv .u8 (NI B2)), .bel w] _ := Facts.cons (f := .blk (w.heap.size) 22 (Iv .u8 (NI K))) (Blk.far (p := ⟨w.heap.size + 1 + 1, j, none⟩) (hS.blkAt (w.heap.size) 22 (Iv .u8 (NI K)) (.head _)) (by dsimp only; omega) _) (Facts.cons (f := .blk (w.heap.size + 1) 22 (Iv .u8 (NI A))) (Blk.far (p := ⟨w.heap.size + 1 + 1, j, none⟩) (hS.blkAt (w.heap.size + 1) 22 (Iv .u8 (NI A)) (.tail _ (.head _))) (by dsimp only; omega) _) (Facts.cons (f := .blk (w.heap.size + 1 + 1) 22 (Iv .u8 (NI B2))) (list_set (hS.blkAt (w.heap.size + 1 + 1) 22 (Iv .u8 (NI A)) (.tail _ (.tail _ (.head _)))) j X HB2.out) (Facts.cons (f := .bel w) hB (Facts.nil))))
  generalize hWn : World.setCell _ _ _ = Wn at *
  clear hWn
  refine wpSeq_nil ?_
  go_upto_region 6 with fail
  replace hS := hS.drew
  replace hB := below_drew hB
  refine wp_region_Z (S := Facts [.blk (w.heap.size) 22 (Iv .u8 (NI K)), .blk (w.heap.size + 1) 22 (Iv .u8 (NI A)), .blk (w.heap.size + 1 + 1) 22 (Iv .u8 (NI B2)), .bel w]) 11 (by kernel_rfl) ?_
  refine wpAnyZ_takeL 0 rfl (by kernel_rfl) (by kernel_rfl) (by kernel_rfl) (by kernel_rfl) (by kernel_rfl) (fun _ _ _ h => h) (show YieldsIf _ _ _ _ (.agg (Iv .u8 (NI K))) _ from yieldsIf_load rfl 22 _ rfl (w.heap.size) rfl 22 _ _ (.head _) Try.underlying22 rfl (info_n _ lK)) hS ?_
  simp only [Act.put, List.setIfInBounds_toArray, List.set_cons_zero, List.set_cons_succ]
  refine wpAnyZ_takeL 1 rfl (by kernel_rfl) (by kernel_rfl) (by kernel_rfl) (by kernel_rfl) (by kernel_rfl) (fun _ _ _ h => h) (show YieldsIf _ _ _ _ (.agg (Iv .u8 (NI A))) _ from yieldsIf_load rfl 22 _ rfl (w.heap.size + 1) rfl 22 _ _ (.tail _ (.head _)) Try.underlying22 rfl (info_n _ lA)) hS ?_
  simp only [Act.put, List.setIfInBounds_toArray, List.set_cons_zero, List.set_cons_succ]
  refine wpAnyZ_takeL 3 rfl (by kernel_rfl) (by kernel_rfl) (by kernel_rfl) (by kernel_rfl) (by kernel_rfl) (fun _ _ _ h => h) (show YieldsIf _ _ _ _ (.agg (Iv .u8 (NI K))) _ from yieldsIf_load rfl 22 _ rfl (w.heap.size) rfl 22 _ _ (.head _) Try.underlying22 rfl (info_n _ lK)) hS ?_
  simp only [Act.put, List.setIfInBounds_toArray, List.set_cons_zero, List.set_cons_succ]
  refine wpAnyZ_takeL 4 rfl (by kernel_rfl) (by kernel_rfl) (by kernel_rfl) (by kernel_rfl) (by kernel_rfl) (fun _ _ _ h => h) (show YieldsIf _ _ _ _ (.agg (Iv .u8 (NI B2))) _ from yieldsIf_load rfl 22 _ rfl (w.heap.size + 1 + 1) rfl 22 _ _ (.tail _ (.tail _ (.head _))) Try.underlying22 rfl (info_n _ lB2)) hS ?_
  simp only [Act.put, List.setIfInBounds_toArray, List.set_cons_zero, List.set_cons_succ]
  refine wpAnyZ_takeL 7 rfl (by kernel_rfl) (by kernel_rfl) (by kernel_rfl) (by kernel_rfl) (by kernel_rfl) (fun _ _ _ h => h) (show YieldsIf _ _ _ _ (.agg (Iv .u8 (NI A))) _ from yieldsIf_load rfl 22 _ rfl (w.heap.size + 1) rfl 22 _ _ (.tail _ (.head _)) Try.underlying22 rfl (info_n _ lA)) hS ?_
  simp only [Act.put, List.setIfInBounds_toArray, List.set_cons_zero, List.set_cons_succ]
  refine wpAnyZ_takeL 8 rfl (by kernel_rfl) (by kernel_rfl) (by kernel_rfl) (by kernel_rfl) (by kernel_rfl) (fun _ _ _ h => h) (show YieldsIf _ _ _ _ (.agg (Iv .u8 (NI B2))) _ from yieldsIf_load rfl 22 _ rfl (w.heap.size + 1 + 1) rfl 22 _ _ (.tail _ (.tail _ (.head _))) Try.underlying22 rfl (info_n _ lB2)) hS ?_
  simp only [Act.put, List.setIfInBounds_toArray, List.set_cons_zero, List.set_cons_succ]
  refine wpAnyZ_takeL 9 rfl (by kernel_rfl) (by kernel_rfl) (by kernel_rfl) (by kernel_rfl) (by kernel_rfl) (fun _ _ _ h => h) (yieldsIf_eq16n rfl _ _ rfl A B2 rfl rfl lA lB2 c HC2.out) hS ?_
  simp only [Act.put, List.setIfInBounds_toArray, List.set_cons_zero, List.set_cons_succ]
  refine wpAnyZ_one (i := 2) (by kernel_rfl) ?_
  unfold wpOp
  go_simp
  left
  refine (CE K A E lK lA bK bA HE.out _).mono ?_
  rintro e v2 ⟨rfl, b⟩
  replace hB := hB.trans (b.mono hB.size)
  replace hS := hS.below b
  clear b
  refine ⟨hS, ?_⟩
  refine wpAnyZ_one (i := 5) (by kernel_rfl) ?_
  unfold wpOp
  go_simp
  left
  refine (CE K B2 F lK lB2 bK bB2 HF.out _).mono ?_
  rintro e v3 ⟨rfl, b⟩
  replace hB := hB.trans (b.mono hB.size)
  replace hS := hS.below b
  clear b
  refine ⟨hS, ?_⟩
  refine wpAnyZ_takeL 6 rfl (by kernel_rfl) (by kernel_rfl) (by kernel_rfl) (by kernel_rfl) (by kernel_rfl) (fun _ _ _ h => h) (yieldsIf_eq16b rfl _ _ rfl E F rfl rfl lE lF c HC1.out) hS ?_
  simp only [Act.put, List.setIfInBounds_toArray, List.set_cons_zero, List.set_cons_succ]
  refine wpAnyZ_takeL 10 rfl (by kernel_rfl) (by kernel_rfl) (by kernel_rfl) (by kernel_rfl) (by kernel_rfl) (fun _ _ _ h => h) (yieldsIf_eqlb rfl _ _ rfl c c rfl rfl true (beq_self_eq_true c)) hS ?_
  simp only [Act.put, List.setIfInBounds_toArray, List.set_cons_zero, List.set_cons_succ]
  refine wpAnyZ_one (i := 11) (by kernel_rfl) ?_
  unfold wpOp
  go_simp
  left
  refine wpAnyZ_done (by kernel_rfl) ?_ _
  go_wp2
  refine bodyPost_ret (results_tmp rfl _ _ _) ?_ ?_
  · rfl
  · exact ⟨rfl, hB⟩
theorem apart_c (CE : EncC) (K : List Nat) (lK : K.length = 16) (bK : ∀ x ∈ K, x < 256) (A : List Nat) (lA : A.length = 16) (bA : ∀ x ∈ A, x < 256) (B : List Nat) (lB : B.length = 16) (bB : ∀ x ∈ B, x < 256) (n : Nat) (hn : n < 256) (near : Bool) (w : World) :
    Calls Try.prog 5 #[.agg (Iv .u8 (NI K)), .agg (Iv .u8 (NI A)), .agg (Iv .u8 (NI B)), .int .u8 (n : Int), .bool near] w fun e w' => e = .returned (.bool true) ∧ Below w.heap.size w w' := by
  cases near
  · exact apart_f CE K lK bK A lA bA B lB bB n hn w
  · exact apart_t CE K lK bK A lA bA B lB bB n hn w
end Go.Proofs.Ytnkjelamadpllaa
