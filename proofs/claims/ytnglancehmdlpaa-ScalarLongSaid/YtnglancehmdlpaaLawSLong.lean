/- The law ScalarLong: noughts behind say nothing; twice as many bytes are the low ones and the high ones times 2^256. -/
import Derived.Test.YtnglancehmdlpaaSj
namespace Go.Proofs.Ytnglancehmdlpaa
open Go.RowKit

section
variable {P : Program} {md : Region.Mode} {ops : Array Oper} {Q : Exit → Act → World → Prop} {S : World → Prop}
/-- Any operation, as the one that may come up. -/
theorem wpAnyZ_wp {z fuel : Nat} {listed : Array Bool} {a : Act} {w : World} (i : Nat) {oi : Oper} (hi : ops.toList[i]? = some oi) (hr : Region.ready md ops listed = [i]) (hgd : oi.guard = none)
    (h : oi.wp P a w (fun a' w' => ((listed.setIfInBounds i true).getD z true = false → S w') ∧ wpAnyZ P md ops Q S z fuel (listed.setIfInBounds i true) a' w') Q) : wpAnyZ P md ops Q S z (fuel + 1) listed a w := by
  refine wpAnyZ_one hr ?_
  unfold wpOp
  rw [← Array.getElem?_toList, hi]
  have hw : Region.wanted oi (yielded ops a.tmps) = true := by simp [Region.wanted, hgd]
  simp only [hw, if_true]
  left
  exact h
end

def upF (i : Nat) : Nat := if i = 32 then 1 else 0
theorem upF_lt (i : Nat) : upF i < 256 := by unfold upF; split <;> decide
def upC : Array Value := #[Value.int .u8 0, Value.int .u8 0, Value.int .u8 0, Value.int .u8 0, Value.int .u8 0, Value.int .u8 0, Value.int .u8 0, Value.int .u8 0, Value.int .u8 0, Value.int .u8 0, Value.int .u8 0, Value.int .u8 0, Value.int .u8 0, Value.int .u8 0, Value.int .u8 0, Value.int .u8 0, Value.int .u8 0, Value.int .u8 0, Value.int .u8 0, Value.int .u8 0, Value.int .u8 0, Value.int .u8 0, Value.int .u8 0, Value.int .u8 0, Value.int .u8 0, Value.int .u8 0, Value.int .u8 0, Value.int .u8 0, Value.int .u8 0, Value.int .u8 0, Value.int .u8 0, Value.int .u8 0, Value.int .u8 1]
theorem upC_get (i : Nat) (h : i < 33) : upC[i]? = some (.int .u8 ((upF i : Nat) : Int)) :=
  match i, h with
  | 0, _ => rfl
  | 1, _ => rfl
  | 2, _ => rfl
  | 3, _ => rfl
  | 4, _ => rfl
  | 5, _ => rfl
  | 6, _ => rfl
  | 7, _ => rfl
  | 8, _ => rfl
  | 9, _ => rfl
  | 10, _ => rfl
  | 11, _ => rfl
  | 12, _ => rfl
  | 13, _ => rfl
  | 14, _ => rfl
  | 15, _ => rfl
  | 16, _ => rfl
  | 17, _ => rfl
  | 18, _ => rfl
  | 19, _ => rfl
  | 20, _ => rfl
  | 21, _ => rfl
  | 22, _ => rfl
  | 23, _ => rfl
  | 24, _ => rfl
  | 25, _ => rfl
  | 26, _ => rfl
  | 27, _ => rfl
  | 28, _ => rfl
  | 29, _ => rfl
  | 30, _ => rfl
  | 31, _ => rfl
  | 32, _ => rfl
  | n + 33, h => absurd h (by omega)
theorem joinF_zero (z f : Nat → Nat) : joinF 0 z f = f := by
  funext i
  unfold joinF
  rw [if_neg (Nat.not_lt_zero i), Nat.sub_zero]
theorem two_rows (n m t : Nat) (f h : Nat → Nat) (e : n + m = t) : leTo (joinF n f h) t = leTo f n + 256 ^ n * leTo h m := e ▸ leTo_join n m f h
theorem up_mod (a b m l : Nat) : (a + m * b) % l = (b * (m % l) + a) % l := by
  rw [Nat.add_mod (b * (m % l)), Nat.mul_mod_mod, ← Nat.add_mod, Nat.add_comm, Nat.mul_comm]
set_option maxHeartbeats 4000000 in
set_option maxRecDepth 100000 in
theorem slong_n (N0 N1 n0 : Nat) (lN0 : N0 < pw 4) (lN1 : N1 < pw 4) (hn0 : n0 < 256) (w : World) :
    Calls Try.prog 7 #[Key (keyOf N0), Key (keyOf N1), .int .u8 n0] w fun e w' => e = .returned (.bool true) ∧ Below w.heap.size w w' := by
  obtain ⟨F, hF⟩ : ∃ F, F = joinF (0 + 32) (joinF 0 (fun _ => 0) (byteAt N0)) (byteAt N1) := ⟨_, rfl⟩
  obtain ⟨M, hM⟩ : ∃ M, M = 256 ^ 32 := ⟨_, rfl⟩
  obtain ⟨k, hk⟩ : ∃ k, k = n0 % 20 := ⟨_, rfl⟩
  obtain ⟨G, hG⟩ : ∃ G, G = joinF (0 + 64) (joinF 0 (fun _ => 0) F) (fun _ => 0) := ⟨_, rfl⟩
  have lk : k < 20 := by omega
  have b0 : ∀ (n : Nat) i, byteAt n i < 256 := fun n i => Nat.mod_lt _ (by decide)
  have lF : ∀ i, F i < 256 := fun i => by rw [hF]; exact joinF_lt _ _ _ (joinF_lt _ _ _ (fun _ => by decide) (b0 _)) (b0 _) i
  have lG : ∀ i, G i < 256 := fun i => by rw [hG]; exact joinF_lt _ _ _ (joinF_lt _ _ _ (fun _ => by decide) lF) (fun _ => by decide) i
  obtain ⟨E0, hE0⟩ : ∃ r, r = M % LL := ⟨_, rfl⟩
  have lE0 : E0 < pw 4 := hE0 ▸ mod_lt4 _
  have HE0 := Lib.hid hE0
  clear hE0
  obtain ⟨E1, hE1⟩ : ∃ r, r = leTo F 64 % LL := ⟨_, rfl⟩
  have lE1 : E1 < pw 4 := hE1 ▸ mod_lt4 _
  have HE1 := Lib.hid hE1
  clear hE1
  obtain ⟨E2, hE2⟩ : ∃ r, r = (N1 * E0 + N0) % LL := ⟨_, rfl⟩
  have lE2 : E2 < pw 4 := hE2 ▸ mod_lt4 _
  have HE2 := Lib.hid hE2
  clear hE2
  obtain ⟨E3, hE3⟩ : ∃ r, r = leTo G (64 + k) % LL := ⟨_, rfl⟩
  have lE3 : E3 < pw 4 := hE3 ▸ mod_lt4 _
  have HE3 := Lib.hid hE3
  clear hE3
  have vF : Hid (leTo F 64 = N0 + M * N1) := Lib.hid (by
    rw [hF, hM, joinF_zero]
    exact (two_rows (0 + 32) 32 64 (byteAt N0) (byteAt N1) rfl).trans (by rw [show 0 + 32 = 32 from rfl, keyOf_num N0 lN0, keyOf_num N1 lN1]))
  have vG : Hid (leTo G (64 + k) = leTo F 64) := Lib.hid (by
    rw [hG, joinF_zero]
    exact (two_rows (0 + 64) k (64 + k) F (fun _ => 0) rfl).trans (by rw [leTo_noughts, Nat.mul_zero, Nat.add_zero]))
  have vU : Hid (leTo upF 33 = M) := Lib.hid (by rw [hM]; decide +kernel)
  clear hM
  have HF := Lib.hid hF; have HK := Lib.hid hk; have HG := Lib.hid hG
  clear hF hk hG
  unfold Key
  go_enter Try.func7, Try.ntmps7
  go_wp2_with fail
  refine (awake_any _).mono ?_
  rintro e w1 ⟨rfl, b⟩
  have hS : Facts [.blk (w.heap.size) 24 (Iv .u8 (keyOf N0)), .blk (w.heap.size + 1) 24 (Iv .u8 (keyOf N1))] w1 := Facts.below (Facts.cons ((Blk.new w _ _).alloc _) (Facts.cons (Blk.new' (by simp) _ _) Facts.nil)) b
  have hB : Below w.heap.size w w1 := (((Below.refl w.heap.size w).alloc (Nat.le_refl _) _).alloc (by simp) _).trans (b.mono (by simp; omega))
  clear b
  go_upto_region 3 with fail
  replace hS := hS.drew
  replace hB := below_drew hB
  refine wp_region_Z (S := Facts [.blk (w.heap.size) 24 (Iv .u8 (keyOf N0)), .blk (w.heap.size + 1) 24 (Iv .u8 (keyOf N1))]) 5 (by kernel_rfl) ?_
  generalize World.drew w1 = V at *
  refine wpAnyZ_takeL 1 (v := (.slice (some ⟨w.heap.size, 0, none⟩) 32 32)) rfl (by kernel_rfl) (by kernel_rfl) (by kernel_rfl) (by kernel_rfl) (by kernel_rfl) (fun _ _ _ h => h) (Or.inl ⟨by rfl, ?_⟩) hS ?_
  · intro w' _
    go_simp
  simp only [Act.put, List.setIfInBounds_toArray, List.set_cons_zero, List.set_cons_succ]
  refine wpAnyZ_takeL 3 (v := (.slice (some ⟨w.heap.size + 1, 0, none⟩) 32 32)) rfl (by kernel_rfl) (by kernel_rfl) (by kernel_rfl) (by kernel_rfl) (by kernel_rfl) (fun _ _ _ h => h) (Or.inl ⟨by rfl, ?_⟩) hS ?_
  · intro w' _
    go_simp
  simp only [Act.put, List.setIfInBounds_toArray, List.set_cons_zero, List.set_cons_succ]
  have O0 := ow_new V.heap.size V (fun _ => 0) (Nat.le_refl _)
  have B0 : Below V.heap.size V _ := (Below.refl _ _).alloc (Nat.le_refl _) (.cells #[] 5)
  refine wpAnyZ_wp 0 rfl (by kernel_rfl) rfl ?_
  refine wp_build_run _ rfl _ _ (run_buildSlice_none _) ⟨fun _ => hS.below B0, ?_⟩
  simp only [Act.put, List.setIfInBounds_toArray, List.set_cons_zero, List.set_cons_succ]
  obtain ⟨v2, V2, r2, O2, B2⟩ := append_bytes V.heap.size V _ 22 _ 0 _ O0 _ 0 32 32 (byteAt N0) (By.of_key ((hS.below B0).blkAt _ _ _ (.head _))) (by decide) (by decide) B0.size B0
  refine wpAnyZ_wp 2 rfl (by kernel_rfl) rfl ?_
  refine wp_append_run _ _ _ _ rfl _ _ rfl rfl _ _ r2 ⟨fun _ => hS.below B2, ?_⟩
  simp only [Act.put, List.setIfInBounds_toArray, List.set_cons_zero, List.set_cons_succ]
  obtain ⟨vl, V3, r3, O3, B3⟩ := append_bytes V.heap.size V _ 22 _ (0 + 32) _ O2 _ 0 32 32 (byteAt N1) (By.of_key ((hS.below B2).blkAt _ _ _ (.tail _ (.head _)))) (by decide) (by decide) B2.size B2
  refine wpAnyZ_wp 4 rfl (by kernel_rfl) rfl ?_
  refine wp_append_run _ _ _ _ rfl _ _ rfl rfl _ _ r3 ⟨fun _ => hS.below B3, ?_⟩
  simp only [Act.put, List.setIfInBounds_toArray, List.set_cons_zero, List.set_cons_succ]
  refine wpAnyZ_one (i := 5) (by kernel_rfl) ?_
  unfold wpOp
  go_simp
  left
  refine wpAnyZ_done (by kernel_rfl) ?_ _
  replace hS := hS.below B3
  replace hB := hB.trans (B3.mono hB.size)
  obtain ⟨gl, cl, rfl, _, gl3, hcl3, hcell⟩ := O3.row
  have HL : By V3 gl 0 64 F := by
    refine ⟨fun i hi => ?_, lF, gl3⟩
    rw [Nat.zero_add, HF.out]
    exact hcell i hi
  have hcl : 64 ≤ cl := hcl3
  clear O0 O2 O3 r2 r3 B0 B2 B3 hcell gl3 hcl3
  go_upto_region 6 with fail
  have HU : By (V3.alloc (.cells upC 42)) V3.heap.size 0 33 upF := by
    refine ⟨fun i hi => ?_, upF_lt, by simp⟩
    rw [Nat.zero_add, (Blk.new V3 42 upC).cell]
    exact upC_get i hi
  have b := (Below.refl V3.heap.size V3).alloc (Nat.le_refl _) (.cells upC 42)
  replace hS := hS.below b
  replace HL := HL.below b
  replace hB := hB.trans (b.mono hB.size)
  clear b
  change Code.wp _ _ _ _ (V3.alloc (.cells upC 42))
  generalize World.alloc V3 (.cells upC 42) = V4 at *
  refine wp_region_seq ?_
  refine wpSeq_yield (S := Facts [.blk (w.heap.size) 24 (Iv .u8 (keyOf N0)), .blk (w.heap.size + 1) 24 (Iv .u8 (keyOf N1))]) (v := (.slice (some ⟨V3.heap.size, 0, none⟩) 33 33)) (Or.inl ⟨by rfl, ?_⟩) hS ?_
  · intro w' _
    go_simp
  simp only [Act.put, List.setIfInBounds_toArray, List.set_cons_zero, List.set_cons_succ]
  refine wpSeq_wp rfl ?_
  go_simp
  refine (reduce_b _ 33 upF E0 _ (Bs.of_by HU (by decide)) (by decide) (by rw [vU.out]; exact HE0.out)).mono ?_
  rintro e v1 ⟨rfl, b⟩
  replace hB := hB.trans (b.mono hB.size)
  replace hS := hS.below b
  replace HL := HL.below b
  replace HU := HU.below b
  clear b
  show wpSeq _ _ _ _ _ _
  refine wpSeq_alloc 24 (Iv .u8 (List.replicate 32 0)) rfl (fun W => by go_simp; rfl) ?_
  simp only [Act.put, List.setIfInBounds_toArray, List.set_cons_zero, List.set_cons_succ]
  refine wpSeq_store_row rfl 24 _ _ rfl (v1.heap.size) (Iv .u8 (keyOf E0)) rfl rfl _ _ (Blk.new _ _ _) (info_key _ (keyOf_length _)) (by rw [Iv_size, Iv_size, keyOf_length]; rfl) (Iv_one _ _) ?_
  try simp only [Act.put, List.setIfInBounds_toArray, List.set_cons_zero, List.set_cons_succ]
  have hb := below_setRow ((Below.refl v1.heap.size v1).alloc (Nat.le_refl _) (.cells (Iv .u8 (List.replicate 32 0)) 24)) (Nat.le_refl v1.heap.size) (Iv .u8 (keyOf E0))
  have A := (Blk.new v1 24 (Iv .u8 (List.replicate 32 0))).row (Iv .u8 (keyOf E0))
  replace hB := hB.trans (hb.mono hB.size)
  replace hS := hS.below hb
  replace HL := HL.below hb
  replace HU := HU.below hb
  clear hb
  generalize hWn : World.setRow _ _ _ = Wn at *
  clear hWn
  generalize v1.heap.size = G1 at *
  replace hS : Facts [.blk (G1) 24 (Iv .u8 (keyOf E0)), .blk (w.heap.size) 24 (Iv .u8 (keyOf N0)), .blk (w.heap.size + 1) 24 (Iv .u8 (keyOf N1))] _ := Facts.cons (f := .blk G1 24 (Iv .u8 (keyOf E0))) A hS
  clear A
  refine wpSeq_nil ?_
  go_upto_region 7 with fail
  refine wp_region_seq ?_
  have O0 := ow_new Wn.heap.size Wn (fun _ => 0) (Nat.le_refl _)
  have B0 : Below Wn.heap.size Wn _ := (Below.refl _ _).alloc (Nat.le_refl _) (.cells #[] 5)
  refine wpSeq_wp rfl ?_
  refine wp_build_run _ rfl _ _ (run_buildSlice_none _) ?_
  simp only [Act.put, List.setIfInBounds_toArray, List.set_cons_zero, List.set_cons_succ]
  refine wpSeq_yield (S := fun _ => True) (yieldsIf_move rfl _ rfl _ rfl) trivial ?_
  simp only [Act.put, List.setIfInBounds_toArray, List.set_cons_zero, List.set_cons_succ]
  obtain ⟨v2, V5, r2, O2, B2⟩ := append_bytes Wn.heap.size Wn _ 22 _ 0 _ O0 gl 0 64 cl F (HL.below B0) (by decide) (by decide) B0.size B0
  refine wpSeq_wp rfl ?_
  refine wp_append_run _ _ _ _ rfl _ _ rfl rfl _ _ r2 ?_
  simp only [Act.put, List.setIfInBounds_toArray, List.set_cons_zero, List.set_cons_succ]
  refine wpSeq_yield (S := fun _ => True) (yieldsIf_move rfl _ rfl _ rfl) trivial ?_
  simp only [Act.put, List.setIfInBounds_toArray, List.set_cons_zero, List.set_cons_succ]
  refine wpSeq_yield (S := fun _ => True) (v := .int .u8 (k : Int)) (Or.inl ⟨by rfl, ?_⟩) trivial ?_
  · intro w' _
    go_simp
    rw [Int.tmod_eq_emod_of_nonneg (by omega), HK.out]
    rfl
  simp only [Act.put, List.setIfInBounds_toArray, List.set_cons_zero, List.set_cons_succ]
  obtain ⟨vm, V6, r3, O3, B3⟩ := append_noughts Wn.heap.size Wn _ 22 _ (0 + 64) _ O2 k (by omega) (by omega) B2.size B2
  refine wpSeq_wp rfl ?_
  refine wp_append_run _ _ _ _ rfl _ _ rfl rfl _ _ r3 ?_
  simp only [Act.put, List.setIfInBounds_toArray, List.set_cons_zero, List.set_cons_succ]
  refine wpSeq_yield (S := fun _ => True) (yieldsIf_assign rfl _ rfl _ rfl) trivial ?_
  simp only [Act.put, List.setIfInBounds_toArray, List.set_cons_zero, List.set_cons_succ]
  refine wpSeq_nil ?_
  rw [← HG.out] at O3
  have HM : Bs V6 vm (64 + k) G := by
    have := O3.bs lG
    rwa [Nat.zero_add] at this
  replace hS := hS.below B3
  replace HL := HL.below B3
  replace hB := hB.trans (B3.mono hB.size)
  clear O0 O2 O3 r2 r3 B0 B2 B3
  go_upto_region 8 with fail
  replace hS := hS.drew
  replace hB := below_drew hB
  replace HL := HL.drew
  replace HM := HM.drew
  refine wp_region_Z (S := Facts [.blk (G1) 24 (Iv .u8 (keyOf E0)), .blk (w.heap.size) 24 (Iv .u8 (keyOf N0)), .blk (w.heap.size + 1) 24 (Iv .u8 (keyOf N1))]) 14 (by kernel_rfl) ?_
  refine wpAnyZ_takeL 0 rfl (by kernel_rfl) (by kernel_rfl) (by kernel_rfl) (by kernel_rfl) (by kernel_rfl) (fun _ _ _ h => h) (yieldsIf_move rfl _ rfl _ rfl) hS ?_
  simp only [Act.put, List.setIfInBounds_toArray, List.set_cons_zero, List.set_cons_succ]
  refine wpAnyZ_takeL 2 rfl (by kernel_rfl) (by kernel_rfl) (by kernel_rfl) (by kernel_rfl) (by kernel_rfl) (fun _ _ _ h => h) (show YieldsIf _ _ _ _ (Key (keyOf N1)) _ from yieldsIf_load rfl 24 _ rfl (w.heap.size + 1) rfl 24 _ _ (.tail _ (.tail _ (.head _))) Try.underlying24 rfl (info_key _ (keyOf_length _))) hS ?_
  simp only [Act.put, List.setIfInBounds_toArray, List.set_cons_zero, List.set_cons_succ]
  refine wpAnyZ_takeL 3 rfl (by kernel_rfl) (by kernel_rfl) (by kernel_rfl) (by kernel_rfl) (by kernel_rfl) (fun _ _ _ h => h) (show YieldsIf _ _ _ _ (Key (keyOf E0)) _ from yieldsIf_load rfl 24 _ rfl (G1) rfl 24 _ _ (.head _) Try.underlying24 rfl (info_key _ (keyOf_length _))) hS ?_
  simp only [Act.put, List.setIfInBounds_toArray, List.set_cons_zero, List.set_cons_succ]
  refine wpAnyZ_takeL 4 rfl (by kernel_rfl) (by kernel_rfl) (by kernel_rfl) (by kernel_rfl) (by kernel_rfl) (fun _ _ _ h => h) (show YieldsIf _ _ _ _ (Key (keyOf N0)) _ from yieldsIf_load rfl 24 _ rfl (w.heap.size) rfl 24 _ _ (.tail _ (.head _)) Try.underlying24 rfl (info_key _ (keyOf_length _))) hS ?_
  simp only [Act.put, List.setIfInBounds_toArray, List.set_cons_zero, List.set_cons_succ]
  refine wpAnyZ_one (i := 1) (by kernel_rfl) ?_
  unfold wpOp
  go_simp
  left
  refine (reduce_b _ 64 F E1 _ (Bs.of_by HL hcl) (by decide) HE1.out).mono ?_
  rintro e v2 ⟨rfl, b⟩
  replace hB := hB.trans (b.mono hB.size)
  replace hS := hS.below b
  replace HL := HL.below b
  replace HM := HM.below b
  clear b
  refine ⟨hS, ?_⟩
  refine wpAnyZ_one (i := 5) (by kernel_rfl) ?_
  unfold wpOp
  go_simp
  left
  refine (muladd_n N1 E0 N0 E2 lN1 lE0 lN0 HE2.out _).mono ?_
  rintro e v3 ⟨rfl, b⟩
  replace hB := hB.trans (b.mono hB.size)
  replace hS := hS.below b
  replace HL := HL.below b
  replace HM := HM.below b
  clear b
  refine ⟨hS, ?_⟩
  refine wpAnyZ_takeL 6 rfl (by kernel_rfl) (by kernel_rfl) (by kernel_rfl) (by kernel_rfl) (by kernel_rfl) (fun _ _ _ h => h) (yieldsIf_eql rfl 24 _ _ _ rfl _ _ rfl rfl eqg_api_Key true (key_dec E1 E2 true lE1 lE2 (decide_eq_true (by rw [HE1.out, HE2.out, HE0.out, vF.out]; exact up_mod N0 N1 M LL)))) hS ?_
  simp only [Act.put, List.setIfInBounds_toArray, List.set_cons_zero, List.set_cons_succ]
  refine wpAnyZ_takeL 7 rfl (by kernel_rfl) (by kernel_rfl) (by kernel_rfl) (by kernel_rfl) (by kernel_rfl) (fun _ _ _ h => h) (yieldsIf_move rfl _ rfl _ rfl) hS ?_
  simp only [Act.put, List.setIfInBounds_toArray, List.set_cons_zero, List.set_cons_succ]
  refine wpAnyZ_takeL 8 rfl (by kernel_rfl) (by kernel_rfl) (by kernel_rfl) (by kernel_rfl) (by kernel_rfl) (fun _ _ _ h => h) (yieldsIf_move rfl _ rfl _ rfl) hS ?_
  simp only [Act.put, List.setIfInBounds_toArray, List.set_cons_zero, List.set_cons_succ]
  refine wpAnyZ_takeL 10 rfl (by kernel_rfl) (by kernel_rfl) (by kernel_rfl) (by kernel_rfl) (by kernel_rfl) (fun _ _ _ h => h) (yieldsIf_move rfl _ rfl _ rfl) hS ?_
  simp only [Act.put, List.setIfInBounds_toArray, List.set_cons_zero, List.set_cons_succ]
  refine wpAnyZ_one (i := 9) (by kernel_rfl) ?_
  unfold wpOp
  go_simp
  left
  refine (reduce_b _ (64 + k) G E3 _ HM (by omega) HE3.out).mono ?_
  rintro e v4 ⟨rfl, b⟩
  replace hB := hB.trans (b.mono hB.size)
  replace hS := hS.below b
  replace HL := HL.below b
  replace HM := HM.below b
  clear b
  refine ⟨hS, ?_⟩
  refine wpAnyZ_one (i := 11) (by kernel_rfl) ?_
  unfold wpOp
  go_simp
  left
  refine (reduce_b _ 64 F E1 _ (Bs.of_by HL hcl) (by decide) HE1.out).mono ?_
  rintro e v5 ⟨rfl, b⟩
  replace hB := hB.trans (b.mono hB.size)
  replace hS := hS.below b
  replace HL := HL.below b
  replace HM := HM.below b
  clear b
  refine ⟨hS, ?_⟩
  refine wpAnyZ_takeL 12 rfl (by kernel_rfl) (by kernel_rfl) (by kernel_rfl) (by kernel_rfl) (by kernel_rfl) (fun _ _ _ h => h) (yieldsIf_eql rfl 24 _ _ _ rfl _ _ rfl rfl eqg_api_Key true (key_dec E3 E1 true lE3 lE1 (decide_eq_true (by rw [HE3.out, HE1.out, vG.out])))) hS ?_
  simp only [Act.put, List.setIfInBounds_toArray, List.set_cons_zero, List.set_cons_succ]
  refine wpAnyZ_takeL 13 rfl (by kernel_rfl) (by kernel_rfl) (by kernel_rfl) (by kernel_rfl) (by kernel_rfl) (fun _ _ _ h => h) (yieldsIf_pick rfl _ _ _ rfl true rfl _ rfl) hS ?_
  simp only [Act.put, List.setIfInBounds_toArray, List.set_cons_zero, List.set_cons_succ]
  refine wpAnyZ_one (i := 14) (by kernel_rfl) ?_
  unfold wpOp
  go_simp
  left
  refine wpAnyZ_done (by kernel_rfl) ?_ _
  go_wp2
  go_ret
  exact ⟨rfl, hB⟩
theorem slong_any (l0 l1 : List Int) (f0 f1 : Nat → Nat) (n : Nat) (hl0 : Bytes32 l0 f0) (hl1 : Bytes32 l1 f1) (hn : n < 256) (w : World) :
    Calls Try.prog 7 #[Key l0, Key l1, .int .u8 n] w fun e w' => e = .returned (.bool true) ∧ Below w.heap.size w w' := by
  rw [key_of_bytes hl0, key_of_bytes hl1]
  exact slong_n _ _ n (bytes32_lt hl0) (bytes32_lt hl1) hn w
end Go.Proofs.Ytnglancehmdlpaa
