/- The law FieldAsks: whether numbers are 0, the same, odd. -/
import Derived.Test.YtknmmjnkafmoaaaLl
namespace Go.Proofs.Ytknmmjnkafmoaaa
open Go.RowKit

theorem leTo_byteAt (n : Nat) : ∀ k, leTo (byteAt n) k = n % 256 ^ k
  | 0 => by simp [leTo, Nat.mod_one]
  | k + 1 => by
    unfold leTo
    rw [leTo_byteAt n k, Nat.pow_succ, Nat.mod_mul]
    unfold byteAt
    rw [Nat.mul_comm (256 ^ k)]
theorem keyOf_inj (a b : Nat) (ha : a < pp) (hb : b < pp) (h : keyOf a = keyOf b) : a = b := by
  have hb2 : ∀ i, i < 32 → byteAt a i = byteAt b i := fun i hi => by
    have h1 := congrArg (fun l : List Int => l.getD i 0) h
    simp only [keyOf, List.getD, List.getElem?_map, List.getElem?_range hi, Option.map_some, Option.getD_some] at h1
    omega
  have hsame : ∀ k, k ≤ 32 → leTo (byteAt a) k = leTo (byteAt b) k := by
    intro k
    induction k with
    | zero => intro _; rfl
    | succ k ih => intro hk; unfold leTo; rw [ih (by omega), hb2 k (by omega)]
  have h2 := hsame 32 (Nat.le_refl _)
  rw [leTo_byteAt, leTo_byteAt, Nat.mod_eq_of_lt (Nat.lt_trans ha (by rw [pp_eq]; decide)), Nat.mod_eq_of_lt (Nat.lt_trans hb (by rw [pp_eq]; decide))] at h2
  exact h2
theorem keyOf_dec (a b : Nat) (ha : a < pp) (hb : b < pp) : decide (keyOf a = keyOf b) = decide (a = b) :=
  decide_eq_decide.2 ⟨keyOf_inj a b ha hb, fun h => by rw [h]⟩
theorem key_dec (a b : Nat) (ha : a < pp) (hb : b < pp) (W : World) : (binOp .eql 23 (.agg (Iv .u8 (keyOf a))) (.agg (Iv .u8 (keyOf b)))).run Try.prog W = .ok (.bool (decide (a = b))) W := by
  rw [eql_keys _ _ (keyOf_length a) (keyOf_length b), keyOf_dec a b ha hb]
theorem keyOf_zero : keyOf 0 = List.replicate 32 0 := by
  simp [keyOf, byteAt, List.range, List.range.loop]
theorem key_zero_dec (a : Nat) (ha : a < pp) (W : World) : (binOp .eql 23 (.agg (Iv .u8 (keyOf a))) (.agg (Iv .u8 (List.replicate 32 0)))).run Try.prog W = .ok (.bool (decide (a = 0))) W :=
  keyOf_zero ▸ key_dec a 0 ha pp_pos W
theorem key_at0 (n : Nat) : (Iv .u8 (keyOf n))[0]? = some (.int .u8 ((byteAt n 0 : Nat) : Int)) := by
  rw [Iv_get _ _ _ (by rw [keyOf_length]; decide)]
  rfl
theorem byte_and1 (n : Nat) : bits .and .u8 ((byteAt n 0 : Nat) : Int) 1 = ((n % 2 : Nat) : Int) := by
  have h0 : byteAt n 0 < 256 := Nat.mod_lt _ (by decide)
  have h := u8_and_nat (byteAt n 0) 1 (by omega) (by omega)
  have e : byteAt n 0 &&& 1 = byteAt n 0 % 2 := Nat.and_two_pow_sub_one_eq_mod _ 1
  rw [e] at h
  have e2 : byteAt n 0 % 2 = n % 2 := by unfold byteAt; omega
  rw [e2] at h
  exact h
theorem beq_odd (n : Nat) : ((n : Int) % 2 == 1) = decide (n % 2 = 1) := by
  rw [Bool.eq_iff_iff]
  simp
  omega
def flip31 (f : Nat → Nat) (i : Nat) : Nat := if i = 31 then (f 31 + 128) % 256 else f i
theorem flip31_bytes {l : List Int} {f : Nat → Nat} (hl : Bytes32 l f) : Bytes32 (l.set 31 ((((f 31 : Nat) : Int) + 128) % 256)) (flip31 f) := by
  refine ⟨by simp [hl.len], fun i h => ?_, fun i => ?_⟩
  · unfold flip31
    by_cases e : i = 31
    · subst e
      rw [if_pos rfl]
      have : 31 < l.length := by rw [hl.len]; decide
      simp [List.getD, this]
    · rw [if_neg e, ← hl.get i h]
      simp [List.getD, show ¬ 31 = i from fun x => e x.symm]
  · unfold flip31
    have := hl.lt i
    split <;> omega
theorem flip31_num (f : Nat → Nat) (hf : ∀ i, f i < 256) : leTo (flip31 f) 32 % 57896044618658097711785492504343953926634992332820282019728792003956564819968 = leTo f 32 % 57896044618658097711785492504343953926634992332820282019728792003956564819968 := by
  have hff : ∀ i, flip31 f i < 256 := fun i => by unfold flip31; have := hf i; split <;> omega
  rw [← cut31_num f hf, ← cut31_num _ hff]
  congr 1
  funext i
  unfold cut31 flip31
  by_cases e : i = 31
  · simp only [e, if_true]; omega
  · simp [e]
theorem xor128 (x : Nat) (h : x < 256) : bits .xor .u8 ((x : Nat) : Int) 128 = (((x + 128) % 256 : Nat) : Int) := by
  have H : ∀ y : Fin 256, bits .xor .u8 ((y.val : Nat) : Int) 128 = (((y.val + 128) % 256 : Nat) : Int) := by decide +kernel
  exact H ⟨x, h⟩

set_option maxHeartbeats 4000000 in
set_option maxRecDepth 100000 in
theorem asks_same (l0 l1 : List Int) (f0 f1 : Nat → Nat) (hl0 : Bytes32 l0 f0) (hl1 : Bytes32 l1 f1) (w : World) :
    Calls Try.prog 8 #[Key l0, Key l1, .bool true] w fun e w' => e = .returned (.bool true) ∧ Below w.heap.size w w' := by
  obtain ⟨E0, hE0⟩ : ∃ r, r = leTo f0 32 % 57896044618658097711785492504343953926634992332820282019728792003956564819968 % pp := ⟨_, rfl⟩
  have lE0 : E0 < pp := hE0 ▸ Nat.mod_lt _ pp_pos
  have HE0 := Lib.hid hE0
  clear hE0
  obtain ⟨E1, hE1⟩ : ∃ r, r = leTo f1 32 % 57896044618658097711785492504343953926634992332820282019728792003956564819968 % pp := ⟨_, rfl⟩
  have lE1 : E1 < pp := hE1 ▸ Nat.mod_lt _ pp_pos
  have HE1 := Lib.hid hE1
  clear hE1
  unfold Key
  go_enter Try.func8, Try.ntmps8
  go_wp2_with fail
  refine (awake_any _).mono ?_
  rintro e w1 ⟨rfl, b⟩
  have hS : Facts [.blk (w.heap.size) 23 (Iv .u8 l0), .blk (w.heap.size + 1) 23 (Iv .u8 l1)] w1 := Facts.below (Facts.cons ((Blk.new w _ _).alloc _) (Facts.cons (Blk.new' (by simp) _ _) Facts.nil)) b
  have hB : Below w.heap.size w w1 := (((Below.refl w.heap.size w).alloc (Nat.le_refl _) _).alloc (by simp) _).trans (b.mono (by simp; omega))
  clear b
  go_upto_region 4 with fail
  refine wp_region_seq ?_
  refine wpSeq_yield (S := Facts [.blk (w.heap.size) 23 (Iv .u8 l0), .blk (w.heap.size + 1) 23 (Iv .u8 l1)]) (show YieldsIf _ _ _ _ (Key l0) _ from yieldsIf_load rfl 23 _ rfl (w.heap.size) rfl 23 _ _ (.head _) Try.underlying23 rfl (info_key _ hl0.len)) hS ?_
  simp only [Act.put, List.setIfInBounds_toArray, List.set_cons_zero, List.set_cons_succ]
  refine wpSeq_store_row rfl 23 _ _ rfl (w.heap.size + 1) (Iv .u8 l0) rfl rfl _ _ (hS.blkAt (w.heap.size + 1) 23 (Iv .u8 l1) (.tail _ (.head _))) (info_key _ hl0.len) (by rw [Iv_size, Iv_size, hl1.len, hl0.len]) (Iv_one _ _) ?_
  simp only [Act.put, List.setIfInBounds_toArray, List.set_cons_zero, List.set_cons_succ]
  replace hB := below_setRow hB (g := w.heap.size + 1) (by omega) (Iv .u8 l0)
  replace hS : Facts [.blk (w.heap.size) 23 (Iv .u8 l0), .blk (w.heap.size + 1) 23 (Iv .u8 l0)] _ := Facts.cons (f := .blk (w.heap.size) 23 (Iv .u8 l0)) ((hS.blkAt (w.heap.size) 23 (Iv .u8 l0) (.head _)).rowFar (by omega) _) (Facts.cons (f := .blk (w.heap.size + 1) 23 (Iv .u8 l0)) ((hS.blkAt (w.heap.size + 1) 23 (Iv .u8 l1) (.tail _ (.head _))).row _) (Facts.nil))
  generalize hWn : World.setRow _ _ _ = Wn at *
  clear hWn
  refine wpSeq_nil ?_
  have hK := hS.blkAt (w.heap.size + 1) 23 (Iv .u8 l0) (.tail _ (.head _))
  have hb0 := hl0.lt 31
  have c31 : Wn.cell? ⟨w.heap.size + 1, 31, none⟩ = some (.int .u8 ((f0 31 : Nat) : Int)) := by rw [hK.cell, Iv_get _ _ _ (by rw [hl0.len]; decide), hl0.get 31 (by decide)]
  have z31 := hK.frozen 31
  have x31 := xor128 (f0 31) hb0
  go_upto_region 6 with fail
  have hK9 : Blk (World.setCell Wn ⟨w.heap.size + 1, 31, none⟩ (.int .u8 ((((f0 31 : Nat) : Int) + 128) % 256))) (w.heap.size + 1) 23 (Iv .u8 (l0.set 31 ((((f0 31 : Nat) : Int) + 128) % 256))) := Iv_set .u8 l0 31 _ ▸ hK.set 31 _
  have hK0 := (hS.blkAt (w.heap.size) 23 (Iv .u8 l0) (.head _)).far (p := ⟨w.heap.size + 1, 31, none⟩) (by simp) (.int .u8 ((((f0 31 : Nat) : Int) + 128) % 256))
  replace hB := hB.setCell (p := ⟨w.heap.size + 1, 31, none⟩) (by simp) (.int .u8 ((((f0 31 : Nat) : Int) + 128) % 256))
  clear c31 z31 x31 hb0 hK hS
  obtain ⟨l9, h9⟩ : ∃ l, l = l0.set 31 ((((f0 31 : Nat) : Int) + 128) % 256) := ⟨_, rfl⟩
  obtain ⟨f9, hf9⟩ : ∃ f, f = flip31 f0 := ⟨_, rfl⟩
  have hl9 : Bytes32 l9 f9 := h9 ▸ hf9 ▸ flip31_bytes hl0
  have Q9 : E0 = leTo f9 32 % 57896044618658097711785492504343953926634992332820282019728792003956564819968 % pp := by rw [hf9, flip31_num f0 hl0.lt]; exact HE0.out
  replace Q9 := Lib.hid Q9
  rw [← h9] at hK9
  clear h9 hf9
  generalize World.setCell Wn _ _ = W9 at *
  have hS : Facts [.blk (w.heap.size) 23 (Iv .u8 l0), .blk (w.heap.size + 1) 23 (Iv .u8 l9)] W9 := Facts.cons hK0 (Facts.cons hK9 Facts.nil)
  clear hK0 hK9
  replace hS := hS.drew
  replace hB := below_drew hB
  refine wp_region_Z (S := Facts [.blk (w.heap.size) 23 (Iv .u8 l0), .blk (w.heap.size + 1) 23 (Iv .u8 l9)]) 7 (by kernel_rfl) ?_
  refine wpAnyZ_takeL 0 rfl (by kernel_rfl) (by kernel_rfl) (by kernel_rfl) (by kernel_rfl) (by kernel_rfl) (fun _ _ _ h => h) (show YieldsIf _ _ _ _ (Key l0) _ from yieldsIf_load rfl 23 _ rfl (w.heap.size) rfl 23 _ _ (.head _) Try.underlying23 rfl (info_key _ hl0.len)) hS ?_
  simp only [Act.put, List.setIfInBounds_toArray, List.set_cons_zero, List.set_cons_succ]
  refine wpAnyZ_takeL 2 rfl (by kernel_rfl) (by kernel_rfl) (by kernel_rfl) (by kernel_rfl) (by kernel_rfl) (fun _ _ _ h => h) (show YieldsIf _ _ _ _ (Key l9) _ from yieldsIf_load rfl 23 _ rfl (w.heap.size + 1) rfl 23 _ _ (.tail _ (.head _)) Try.underlying23 rfl (info_key _ hl9.len)) hS ?_
  simp only [Act.put, List.setIfInBounds_toArray, List.set_cons_zero, List.set_cons_succ]
  refine wpAnyZ_jobsL [(⟨1, 19⟩, .is (El E0)), (⟨3, 21⟩, .is (El E0)), (⟨4, 7⟩, .rel (fun v w' => ∃ g, v = .pointer (some ⟨g, 0, none⟩) ∧ Blk w' g 29 (El_cells 0))), (⟨5, 8⟩, .rel (fun v w' => ∃ g, v = .pointer (some ⟨g, 0, none⟩) ∧ Blk w' g 29 (El_cells 0)))] [] 2 _ _ _ (by kernel_rfl) (fun _ _ _ _ _ h => h) ?_ (fun _ _ _ _ _ h => h) (fun _ _ h hb => h.below hb) hS ?_ ?_ ?_
  · exact fun _ _ h => by cases h
  · intro j hj
    simp only [List.map_cons, List.map_nil, List.mem_cons, List.not_mem_nil, or_false] at hj
    rcases hj with rfl | rfl | rfl | rfl
    · exact fun _ _ _ h _ => h
    · exact fun _ _ _ h _ => h
    · intro v w1 w2 h hb
      obtain ⟨g, e, H⟩ : ∃ g, v = .pointer (some ⟨g, 0, none⟩) ∧ Blk w1 g 29 (El_cells 0) := h
      exact ⟨g, e, H.below' hb⟩
    · intro v w1 w2 h hb
      obtain ⟨g, e, H⟩ : ∃ g, v = .pointer (some ⟨g, 0, none⟩) ∧ Blk w1 g 29 (El_cells 0) := h
      exact ⟨g, e, H.below' hb⟩
  · intro j hj
    simp only [List.map_cons, List.map_nil, List.mem_cons, List.not_mem_nil, or_false] at hj
    rcases hj with rfl | rfl | rfl | rfl
    · refine job_frame [] (by kernel_rfl) ?_
      show JobAt _ _ _ _ _ _ _
      intro W K hS' hK
      unfold wpOp
      go_simp
      left
      refine (of_v l0 f0 hl0 E0 HE0.out _).mono ?_
      rintro e v ⟨rfl, b⟩
      exact hK _ _ rfl b (fun g hg => ((block_agg _) g hg).elim)
    · refine job_frame [] (by kernel_rfl) ?_
      show JobAt _ _ _ _ _ _ _
      intro W K hS' hK
      unfold wpOp
      go_simp
      left
      refine (of_v l9 f9 hl9 E0 Q9.out _).mono ?_
      rintro e v ⟨rfl, b⟩
      exact hK _ _ rfl b (fun g hg => ((block_agg _) g hg).elim)
    · refine job_frame [] (by kernel_rfl) ?_
      show JobAt _ _ _ _ _ _ _
      exact job_alloc 29 (El_cells 0) _ _ rfl rfl rfl (fun W => by go_simp; rfl)
    · refine job_frame [] (by kernel_rfl) ?_
      show JobAt _ _ _ _ _ _ _
      exact job_alloc 29 (El_cells 0) _ _ rfl rfl rfl (fun W => by go_simp; rfl)
  · intro f W hS2 hB1 hR hF hA
    have e1 : f 1 = (El E0) := hR ⟨1, 19⟩ (by simp)
    have e3 : f 3 = (El E0) := hR ⟨3, 21⟩ (by simp)
    obtain ⟨g4, e4, A4⟩ : ∃ g, f 4 = .pointer (some ⟨g, 0, none⟩) ∧ Blk W g 29 (El_cells 0) := hR ⟨4, 7⟩ (by simp)
    have n4 : _ ≤ g4 := (hF ⟨4, 7⟩ (by simp) g4 (by show blockOf (f 4) = _; rw [e4]; rfl)).1
    obtain ⟨g5, e5, A5⟩ : ∃ g, f 5 = .pointer (some ⟨g, 0, none⟩) ∧ Blk W g 29 (El_cells 0) := hR ⟨5, 8⟩ (by simp)
    have n5 : _ ≤ g5 := (hF ⟨5, 8⟩ (by simp) g5 (by show blockOf (f 5) = _; rw [e5]; rfl)).1
    have d4_5 : g4 ≠ g5 := fun h => hA ⟨4, 7⟩ (by simp) ⟨5, 8⟩ (by simp) (by decide) g4 (by show blockOf (f 4) = _; rw [e4]; rfl) (by show blockOf (f 5) = _; rw [e5, h]; rfl)
    clear hA hF hR
    simp only [setAll, putAll, List.map_cons, List.map_nil, List.foldr_cons, List.foldr_nil, Act.put, List.setIfInBounds_toArray, List.set_cons_zero, List.set_cons_succ, e1, e3, e4, e5]
    clear e1 e3 e4 e5
    have hBs := hB1
    replace hB1 := below_setRow hB1 n4 (El_cells E0)
    refine wpAnyZ_store_row 6 rfl (by kernel_rfl) rfl _ _ _ rfl g4 (El_cells E0) rfl rfl _ _ A4 (info_El _) rfl (El_one _) (hS.below hB1) ?_
    try simp only [Act.put, List.setIfInBounds_toArray, List.set_cons_zero, List.set_cons_succ]
    replace A5 := A5.rowFar (Ne.symm d4_5) (El_cells E0)
    replace A4 := A4.row (El_cells E0)
    replace hB1 := below_setRow hB1 n5 (El_cells E0)
    refine wpAnyZ_store_row 7 rfl (by kernel_rfl) rfl _ _ _ rfl g5 (El_cells E0) rfl rfl _ _ A5 (info_El _) rfl (El_one _) (hS.below hB1) ?_
    try simp only [Act.put, List.setIfInBounds_toArray, List.set_cons_zero, List.set_cons_succ]
    replace A4 := A4.rowFar d4_5 (El_cells E0)
    replace A5 := A5.row (El_cells E0)
    refine wpAnyZ_done (by kernel_rfl) ?_ _
    have hS3 := hS.below hB1
    replace hB := hB.trans (hB1.mono hB.size)
    clear hS hS2 hB1 hBs
    have hS : Facts [.blk (g4) 29 (El_cells E0), .blk (g5) 29 (El_cells E0), .blk (w.heap.size) 23 (Iv .u8 l0), .blk (w.heap.size + 1) 23 (Iv .u8 l9)] _ := Facts.cons (f := .blk g4 29 (El_cells E0)) A4 (Facts.cons (f := .blk g5 29 (El_cells E0)) A5 (hS3))
    clear hS3
    try clear n4 n5
    clear A4 A5
    generalize hWn : World.setRow _ _ _ = Wn at *
    clear hWn
    go_upto_region 7 with fail
    refine wp_region_seq ?_
    refine wpSeq_yield (S := Facts [.blk (g4) 29 (El_cells E0), .blk (g5) 29 (El_cells E0), .blk (w.heap.size) 23 (Iv .u8 l0), .blk (w.heap.size + 1) 23 (Iv .u8 l9)]) (show YieldsIf _ _ _ _ (Key l0) _ from yieldsIf_load rfl 23 _ rfl (w.heap.size) rfl 23 _ _ (.tail _ (.tail _ (.head _))) Try.underlying23 rfl (info_key _ hl0.len)) hS ?_
    simp only [Act.put, List.setIfInBounds_toArray, List.set_cons_zero, List.set_cons_succ]
    refine wpSeq_wp rfl ?_
    go_simp
    refine (place_v l0 f0 hl0 E0 HE0.out _).mono ?_
    rintro e v1 ⟨r1, rfl, Hr1, b⟩
    replace hB := hB.trans (b.mono hB.size)
    replace hS := hS.below b
    clear b
    show wpSeq _ _ _ _ _ _
    refine wpSeq_wp rfl ?_
    go_simp
    refine (rkey_v _ E0 _ Hr1).mono ?_
    rintro e v2 ⟨rfl, b⟩
    replace hB := hB.trans (b.mono hB.size)
    replace hS := hS.below b
    replace Hr1 := Hr1.below b
    clear b
    show wpSeq _ _ _ _ _ _
    refine wpSeq_alloc 23 (Iv .u8 (List.replicate 32 0)) rfl (fun W => by go_simp; rfl) ?_
    simp only [Act.put, List.setIfInBounds_toArray, List.set_cons_zero, List.set_cons_succ]
    refine wpSeq_store_row rfl 23 _ _ rfl (v2.heap.size) (Iv .u8 (keyOf E0)) rfl rfl _ _ (Blk.new _ _ _) (info_key _ (keyOf_length _)) (by rw [Iv_size, Iv_size, keyOf_length]; rfl) (Iv_one _ _) ?_
    try simp only [Act.put, List.setIfInBounds_toArray, List.set_cons_zero, List.set_cons_succ]
    have hb := below_setRow ((Below.refl v2.heap.size v2).alloc (Nat.le_refl _) (.cells (Iv .u8 (List.replicate 32 0)) 23)) (Nat.le_refl v2.heap.size) (Iv .u8 (keyOf E0))
    have A := (Blk.new v2 23 (Iv .u8 (List.replicate 32 0))).row (Iv .u8 (keyOf E0))
    replace hB := hB.trans (hb.mono hB.size)
    replace hS := hS.below hb
    replace Hr1 := Hr1.below hb
    clear hb
    generalize hWn : World.setRow _ _ _ = Wn at *
    clear hWn
    generalize v2.heap.size = G2 at *
    replace hS : Facts [.blk (G2) 23 (Iv .u8 (keyOf E0)), .blk (g4) 29 (El_cells E0), .blk (g5) 29 (El_cells E0), .blk (w.heap.size) 23 (Iv .u8 l0), .blk (w.heap.size + 1) 23 (Iv .u8 l9)] _ := Facts.cons (f := .blk G2 23 (Iv .u8 (keyOf E0))) A hS
    clear A
    refine wpSeq_nil ?_
    go_upto_region 8 with fail
    replace hS := hS.drew
    replace hB := below_drew hB
    replace Hr1 := Hr1.drew
    refine wp_region_Z (S := Facts [.blk (G2) 23 (Iv .u8 (keyOf E0)), .blk (g4) 29 (El_cells E0), .blk (g5) 29 (El_cells E0), .blk (w.heap.size) 23 (Iv .u8 l0), .blk (w.heap.size + 1) 23 (Iv .u8 l9)]) 26 (by kernel_rfl) ?_
    refine wpAnyZ_takeL 0 rfl (by kernel_rfl) (by kernel_rfl) (by kernel_rfl) (by kernel_rfl) (by kernel_rfl) (fun _ _ _ h => h) (show YieldsIf _ _ _ _ (El E0) _ from yieldsIf_load rfl 29 _ rfl (g4) rfl 29 _ _ (.tail _ (.head _)) Try.underlying29 rfl (info_El _)) hS ?_
    simp only [Act.put, List.setIfInBounds_toArray, List.set_cons_zero, List.set_cons_succ]
    refine wpAnyZ_takeL 2 rfl (by kernel_rfl) (by kernel_rfl) (by kernel_rfl) (by kernel_rfl) (by kernel_rfl) (fun _ _ _ h => h) (show YieldsIf _ _ _ _ (Key (keyOf E0)) _ from yieldsIf_load rfl 23 _ rfl (G2) rfl 23 _ _ (.head _) Try.underlying23 rfl (info_key _ (keyOf_length _))) hS ?_
    simp only [Act.put, List.setIfInBounds_toArray, List.set_cons_zero, List.set_cons_succ]
    refine wpAnyZ_takeL 3 (v := (Key (List.replicate 32 0))) rfl (by kernel_rfl) (by kernel_rfl) (by kernel_rfl) (by kernel_rfl) (by kernel_rfl) (fun _ _ _ h => h) (Or.inl ⟨by rfl, ?_⟩) hS ?_
    · intro w' _
      go_simp
      rfl
    simp only [Act.put, List.setIfInBounds_toArray, List.set_cons_zero, List.set_cons_succ]
    refine wpAnyZ_takeL 4 rfl (by kernel_rfl) (by kernel_rfl) (by kernel_rfl) (by kernel_rfl) (by kernel_rfl) (fun _ _ _ h => h) (yieldsIf_eql rfl 23 _ _ _ rfl _ _ rfl rfl eqg_api_Key (decide (E0 = 0)) (key_zero_dec _ lE0)) hS ?_
    simp only [Act.put, List.setIfInBounds_toArray, List.set_cons_zero, List.set_cons_succ]
    refine wpAnyZ_one (i := 1) (by kernel_rfl) ?_
    unfold wpOp
    go_simp
    left
    refine (zero_v E0 (decide (E0 = 0)) _ (rfl)).mono ?_
    rintro e v3 ⟨rfl, b⟩
    replace hB := hB.trans (b.mono hB.size)
    replace hS := hS.below b
    replace Hr1 := Hr1.below b
    clear b
    refine ⟨hS, ?_⟩
    refine wpAnyZ_takeL 5 (v := (.bool true)) rfl (by kernel_rfl) (by kernel_rfl) (by kernel_rfl) (by kernel_rfl) (by kernel_rfl) (fun _ _ _ h => h) (Or.inl ⟨by rfl, ?_⟩) hS ?_
    · intro w' _
      go_simp
    simp only [Act.put, List.setIfInBounds_toArray, List.set_cons_zero, List.set_cons_succ]
    refine wpAnyZ_takeL 6 rfl (by kernel_rfl) (by kernel_rfl) (by kernel_rfl) (by kernel_rfl) (by kernel_rfl) (fun _ _ _ h => h) (yieldsIf_move rfl _ rfl _ rfl) hS ?_
    simp only [Act.put, List.setIfInBounds_toArray, List.set_cons_zero, List.set_cons_succ]
    refine wpAnyZ_takeL 7 rfl (by kernel_rfl) (by kernel_rfl) (by kernel_rfl) (by kernel_rfl) (by kernel_rfl) (fun _ _ _ h => h) (show YieldsIf _ _ _ _ (El E0) _ from yieldsIf_load rfl 29 _ rfl (g4) rfl 29 _ _ (.tail _ (.head _)) Try.underlying29 rfl (info_El _)) hS ?_
    simp only [Act.put, List.setIfInBounds_toArray, List.set_cons_zero, List.set_cons_succ]
    refine wpAnyZ_takeL 8 rfl (by kernel_rfl) (by kernel_rfl) (by kernel_rfl) (by kernel_rfl) (by kernel_rfl) (fun _ _ _ h => h) (show YieldsIf _ _ _ _ (El E0) _ from yieldsIf_load rfl 29 _ rfl (g5) rfl 29 _ _ (.tail _ (.tail _ (.head _))) Try.underlying29 rfl (info_El _)) hS ?_
    simp only [Act.put, List.setIfInBounds_toArray, List.set_cons_zero, List.set_cons_succ]
    refine wpAnyZ_takeL 10 rfl (by kernel_rfl) (by kernel_rfl) (by kernel_rfl) (by kernel_rfl) (by kernel_rfl) (fun _ _ _ h => h) (show YieldsIf _ _ _ _ (Key (keyOf E0)) _ from yieldsIf_load rfl 23 _ rfl (G2) rfl 23 _ _ (.head _) Try.underlying23 rfl (info_key _ (keyOf_length _))) hS ?_
    simp only [Act.put, List.setIfInBounds_toArray, List.set_cons_zero, List.set_cons_succ]
    refine wpAnyZ_takeL 11 rfl (by kernel_rfl) (by kernel_rfl) (by kernel_rfl) (by kernel_rfl) (by kernel_rfl) (fun _ _ _ h => h) (show YieldsIf _ _ _ _ (Key l9) _ from yieldsIf_load rfl 23 _ rfl (w.heap.size + 1) rfl 23 _ _ (.tail _ (.tail _ (.tail _ (.tail _ (.head _))))) Try.underlying23 rfl (info_key _ hl9.len)) hS ?_
    simp only [Act.put, List.setIfInBounds_toArray, List.set_cons_zero, List.set_cons_succ]
    refine wpAnyZ_one (i := 9) (by kernel_rfl) ?_
    unfold wpOp
    go_simp
    left
    refine (same_v E0 E0 (decide (E0 = E0)) _ (rfl)).mono ?_
    rintro e v4 ⟨rfl, b⟩
    replace hB := hB.trans (b.mono hB.size)
    replace hS := hS.below b
    replace Hr1 := Hr1.below b
    clear b
    refine ⟨hS, ?_⟩
    refine wpAnyZ_one (i := 12) (by kernel_rfl) ?_
    unfold wpOp
    go_simp
    left
    refine (place_v l9 f9 hl9 E0 Q9.out _).mono ?_
    rintro e v5 ⟨r5, rfl, Hr5, b⟩
    replace hB := hB.trans (b.mono hB.size)
    replace hS := hS.below b
    replace Hr1 := Hr1.below b
    clear b
    refine ⟨hS, ?_⟩
    refine wpAnyZ_one (i := 13) (by kernel_rfl) ?_
    unfold wpOp
    go_simp
    left
    refine (rkey_v _ E0 _ Hr5).mono ?_
    rintro e v6 ⟨rfl, b⟩
    replace hB := hB.trans (b.mono hB.size)
    replace hS := hS.below b
    replace Hr1 := Hr1.below b
    replace Hr5 := Hr5.below b
    clear b
    refine ⟨hS, ?_⟩
    refine wpAnyZ_takeL 14 rfl (by kernel_rfl) (by kernel_rfl) (by kernel_rfl) (by kernel_rfl) (by kernel_rfl) (fun _ _ _ h => h) (yieldsIf_eql rfl 23 _ _ _ rfl _ _ rfl rfl eqg_api_Key (decide (E0 = E0)) (key_dec _ _ lE0 lE0)) hS ?_
    simp only [Act.put, List.setIfInBounds_toArray, List.set_cons_zero, List.set_cons_succ]
    refine wpAnyZ_takeL 15 (v := (.bool true)) rfl (by kernel_rfl) (by kernel_rfl) (by kernel_rfl) (by kernel_rfl) (by kernel_rfl) (fun _ _ _ h => h) (Or.inl ⟨by rfl, ?_⟩) hS ?_
    · intro w' _
      go_simp
    simp only [Act.put, List.setIfInBounds_toArray, List.set_cons_zero, List.set_cons_succ]
    refine wpAnyZ_takeL 16 rfl (by kernel_rfl) (by kernel_rfl) (by kernel_rfl) (by kernel_rfl) (by kernel_rfl) (fun _ _ _ h => h) (yieldsIf_pick rfl _ _ _ rfl true rfl _ rfl) hS ?_
    simp only [Act.put, List.setIfInBounds_toArray, List.set_cons_zero, List.set_cons_succ]
    refine wpAnyZ_takeL 17 rfl (by kernel_rfl) (by kernel_rfl) (by kernel_rfl) (by kernel_rfl) (by kernel_rfl) (fun _ _ _ h => h) (yieldsIf_move rfl _ rfl _ rfl) hS ?_
    simp only [Act.put, List.setIfInBounds_toArray, List.set_cons_zero, List.set_cons_succ]
    refine wpAnyZ_takeL 18 rfl (by kernel_rfl) (by kernel_rfl) (by kernel_rfl) (by kernel_rfl) (by kernel_rfl) (fun _ _ _ h => h) (show YieldsIf _ _ _ _ (El E0) _ from yieldsIf_load rfl 29 _ rfl (g4) rfl 29 _ _ (.tail _ (.head _)) Try.underlying29 rfl (info_El _)) hS ?_
    simp only [Act.put, List.setIfInBounds_toArray, List.set_cons_zero, List.set_cons_succ]
    refine wpAnyZ_takeL 20 (v := (.pointer (some ⟨G2, 0, none⟩))) rfl (by kernel_rfl) (by kernel_rfl) (by kernel_rfl) (by kernel_rfl) (by kernel_rfl) (fun _ _ _ h => h) (Or.inl ⟨by rfl, ?_⟩) hS ?_
    · intro w' _
      go_simp
    simp only [Act.put, List.setIfInBounds_toArray, List.set_cons_zero, List.set_cons_succ]
    refine wpAnyZ_takeL 21 (v := (.int .u8 ((byteAt E0 0 : Nat) : Int))) rfl (by kernel_rfl) (by kernel_rfl) (by kernel_rfl) (by kernel_rfl) (by kernel_rfl) (fun _ _ _ h => h) (Or.inl ⟨by rfl, ?_⟩) hS ?_
    · intro w' hw'
      have c0 := (hw'.blkAt G2 23 (Iv .u8 (keyOf E0)) (.head _)).cell 0
      rw [key_at0] at c0
      go_simp
    simp only [Act.put, List.setIfInBounds_toArray, List.set_cons_zero, List.set_cons_succ]
    refine wpAnyZ_takeL 22 (v := (.int .u8 ((E0 % 2 : Nat) : Int))) rfl (by kernel_rfl) (by kernel_rfl) (by kernel_rfl) (by kernel_rfl) (by kernel_rfl) (fun _ _ _ h => h) (Or.inl ⟨by rfl, ?_⟩) hS ?_
    · intro w' _
      have q := byte_and1 E0
      go_simp
    simp only [Act.put, List.setIfInBounds_toArray, List.set_cons_zero, List.set_cons_succ]
    refine wpAnyZ_takeL 23 (v := (.bool (decide (E0 % 2 = 1)))) rfl (by kernel_rfl) (by kernel_rfl) (by kernel_rfl) (by kernel_rfl) (by kernel_rfl) (fun _ _ _ h => h) (Or.inl ⟨by rfl, ?_⟩) hS ?_
    · intro w' _
      go_simp
      exact beq_odd E0
    simp only [Act.put, List.setIfInBounds_toArray, List.set_cons_zero, List.set_cons_succ]
    refine wpAnyZ_one (i := 19) (by kernel_rfl) ?_
    unfold wpOp
    go_simp
    left
    refine (odd_v E0 (decide (E0 % 2 = 1)) _ (rfl)).mono ?_
    rintro e v7 ⟨rfl, b⟩
    replace hB := hB.trans (b.mono hB.size)
    replace hS := hS.below b
    replace Hr1 := Hr1.below b
    replace Hr5 := Hr5.below b
    clear b
    refine ⟨hS, ?_⟩
    refine wpAnyZ_takeL 24 (v := (.bool true)) rfl (by kernel_rfl) (by kernel_rfl) (by kernel_rfl) (by kernel_rfl) (by kernel_rfl) (fun _ _ _ h => h) (Or.inl ⟨by rfl, ?_⟩) hS ?_
    · intro w' _
      go_simp
    simp only [Act.put, List.setIfInBounds_toArray, List.set_cons_zero, List.set_cons_succ]
    refine wpAnyZ_takeL 25 rfl (by kernel_rfl) (by kernel_rfl) (by kernel_rfl) (by kernel_rfl) (by kernel_rfl) (fun _ _ _ h => h) (yieldsIf_pick rfl _ _ _ rfl true rfl _ rfl) hS ?_
    simp only [Act.put, List.setIfInBounds_toArray, List.set_cons_zero, List.set_cons_succ]
    refine wpAnyZ_one (i := 26) (by kernel_rfl) ?_
    unfold wpOp
    go_simp
    left
    refine wpAnyZ_done (by kernel_rfl) ?_ _
    go_wp2
    go_ret
    exact ⟨rfl, hB⟩

set_option maxHeartbeats 4000000 in
set_option maxRecDepth 100000 in
theorem asks_other (l0 l1 : List Int) (f0 f1 : Nat → Nat) (hl0 : Bytes32 l0 f0) (hl1 : Bytes32 l1 f1) (w : World) :
    Calls Try.prog 8 #[Key l0, Key l1, .bool false] w fun e w' => e = .returned (.bool true) ∧ Below w.heap.size w w' := by
  obtain ⟨E0, hE0⟩ : ∃ r, r = leTo f0 32 % 57896044618658097711785492504343953926634992332820282019728792003956564819968 % pp := ⟨_, rfl⟩
  have lE0 : E0 < pp := hE0 ▸ Nat.mod_lt _ pp_pos
  have HE0 := Lib.hid hE0
  clear hE0
  obtain ⟨E1, hE1⟩ : ∃ r, r = leTo f1 32 % 57896044618658097711785492504343953926634992332820282019728792003956564819968 % pp := ⟨_, rfl⟩
  have lE1 : E1 < pp := hE1 ▸ Nat.mod_lt _ pp_pos
  have HE1 := Lib.hid hE1
  clear hE1
  unfold Key
  go_enter Try.func8, Try.ntmps8
  go_wp2_with fail
  refine (awake_any _).mono ?_
  rintro e w1 ⟨rfl, b⟩
  have hS : Facts [.blk (w.heap.size) 23 (Iv .u8 l0), .blk (w.heap.size + 1) 23 (Iv .u8 l1)] w1 := Facts.below (Facts.cons ((Blk.new w _ _).alloc _) (Facts.cons (Blk.new' (by simp) _ _) Facts.nil)) b
  have hB : Below w.heap.size w w1 := (((Below.refl w.heap.size w).alloc (Nat.le_refl _) _).alloc (by simp) _).trans (b.mono (by simp; omega))
  clear b
  go_upto_region 6 with fail
  replace hS := hS.drew
  replace hB := below_drew hB
  refine wp_region_Z (S := Facts [.blk (w.heap.size) 23 (Iv .u8 l0), .blk (w.heap.size + 1) 23 (Iv .u8 l1)]) 7 (by kernel_rfl) ?_
  refine wpAnyZ_takeL 0 rfl (by kernel_rfl) (by kernel_rfl) (by kernel_rfl) (by kernel_rfl) (by kernel_rfl) (fun _ _ _ h => h) (show YieldsIf _ _ _ _ (Key l0) _ from yieldsIf_load rfl 23 _ rfl (w.heap.size) rfl 23 _ _ (.head _) Try.underlying23 rfl (info_key _ hl0.len)) hS ?_
  simp only [Act.put, List.setIfInBounds_toArray, List.set_cons_zero, List.set_cons_succ]
  refine wpAnyZ_takeL 2 rfl (by kernel_rfl) (by kernel_rfl) (by kernel_rfl) (by kernel_rfl) (by kernel_rfl) (fun _ _ _ h => h) (show YieldsIf _ _ _ _ (Key l1) _ from yieldsIf_load rfl 23 _ rfl (w.heap.size + 1) rfl 23 _ _ (.tail _ (.head _)) Try.underlying23 rfl (info_key _ hl1.len)) hS ?_
  simp only [Act.put, List.setIfInBounds_toArray, List.set_cons_zero, List.set_cons_succ]
  refine wpAnyZ_jobsL [(⟨1, 19⟩, .is (El E0)), (⟨3, 21⟩, .is (El E1)), (⟨4, 7⟩, .rel (fun v w' => ∃ g, v = .pointer (some ⟨g, 0, none⟩) ∧ Blk w' g 29 (El_cells 0))), (⟨5, 8⟩, .rel (fun v w' => ∃ g, v = .pointer (some ⟨g, 0, none⟩) ∧ Blk w' g 29 (El_cells 0)))] [] 2 _ _ _ (by kernel_rfl) (fun _ _ _ _ _ h => h) ?_ (fun _ _ _ _ _ h => h) (fun _ _ h hb => h.below hb) hS ?_ ?_ ?_
  · exact fun _ _ h => by cases h
  · intro j hj
    simp only [List.map_cons, List.map_nil, List.mem_cons, List.not_mem_nil, or_false] at hj
    rcases hj with rfl | rfl | rfl | rfl
    · exact fun _ _ _ h _ => h
    · exact fun _ _ _ h _ => h
    · intro v w1 w2 h hb
      obtain ⟨g, e, H⟩ : ∃ g, v = .pointer (some ⟨g, 0, none⟩) ∧ Blk w1 g 29 (El_cells 0) := h
      exact ⟨g, e, H.below' hb⟩
    · intro v w1 w2 h hb
      obtain ⟨g, e, H⟩ : ∃ g, v = .pointer (some ⟨g, 0, none⟩) ∧ Blk w1 g 29 (El_cells 0) := h
      exact ⟨g, e, H.below' hb⟩
  · intro j hj
    simp only [List.map_cons, List.map_nil, List.mem_cons, List.not_mem_nil, or_false] at hj
    rcases hj with rfl | rfl | rfl | rfl
    · refine job_frame [] (by kernel_rfl) ?_
      show JobAt _ _ _ _ _ _ _
      intro W K hS' hK
      unfold wpOp
      go_simp
      left
      refine (of_v l0 f0 hl0 E0 HE0.out _).mono ?_
      rintro e v ⟨rfl, b⟩
      exact hK _ _ rfl b (fun g hg => ((block_agg _) g hg).elim)
    · refine job_frame [] (by kernel_rfl) ?_
      show JobAt _ _ _ _ _ _ _
      intro W K hS' hK
      unfold wpOp
      go_simp
      left
      refine (of_v l1 f1 hl1 E1 HE1.out _).mono ?_
      rintro e v ⟨rfl, b⟩
      exact hK _ _ rfl b (fun g hg => ((block_agg _) g hg).elim)
    · refine job_frame [] (by kernel_rfl) ?_
      show JobAt _ _ _ _ _ _ _
      exact job_alloc 29 (El_cells 0) _ _ rfl rfl rfl (fun W => by go_simp; rfl)
    · refine job_frame [] (by kernel_rfl) ?_
      show JobAt _ _ _ _ _ _ _
      exact job_alloc 29 (El_cells 0) _ _ rfl rfl rfl (fun W => by go_simp; rfl)
  · intro f W hS2 hB1 hR hF hA
    have e1 : f 1 = (El E0) := hR ⟨1, 19⟩ (by simp)
    have e3 : f 3 = (El E1) := hR ⟨3, 21⟩ (by simp)
    obtain ⟨g4, e4, A4⟩ : ∃ g, f 4 = .pointer (some ⟨g, 0, none⟩) ∧ Blk W g 29 (El_cells 0) := hR ⟨4, 7⟩ (by simp)
    have n4 : _ ≤ g4 := (hF ⟨4, 7⟩ (by simp) g4 (by show blockOf (f 4) = _; rw [e4]; rfl)).1
    obtain ⟨g5, e5, A5⟩ : ∃ g, f 5 = .pointer (some ⟨g, 0, none⟩) ∧ Blk W g 29 (El_cells 0) := hR ⟨5, 8⟩ (by simp)
    have n5 : _ ≤ g5 := (hF ⟨5, 8⟩ (by simp) g5 (by show blockOf (f 5) = _; rw [e5]; rfl)).1
    have d4_5 : g4 ≠ g5 := fun h => hA ⟨4, 7⟩ (by simp) ⟨5, 8⟩ (by simp) (by decide) g4 (by show blockOf (f 4) = _; rw [e4]; rfl) (by show blockOf (f 5) = _; rw [e5, h]; rfl)
    clear hA hF hR
    simp only [setAll, putAll, List.map_cons, List.map_nil, List.foldr_cons, List.foldr_nil, Act.put, List.setIfInBounds_toArray, List.set_cons_zero, List.set_cons_succ, e1, e3, e4, e5]
    clear e1 e3 e4 e5
    have hBs := hB1
    replace hB1 := below_setRow hB1 n4 (El_cells E0)
    refine wpAnyZ_store_row 6 rfl (by kernel_rfl) rfl _ _ _ rfl g4 (El_cells E0) rfl rfl _ _ A4 (info_El _) rfl (El_one _) (hS.below hB1) ?_
    try simp only [Act.put, List.setIfInBounds_toArray, List.set_cons_zero, List.set_cons_succ]
    replace A5 := A5.rowFar (Ne.symm d4_5) (El_cells E0)
    replace A4 := A4.row (El_cells E0)
    replace hB1 := below_setRow hB1 n5 (El_cells E1)
    refine wpAnyZ_store_row 7 rfl (by kernel_rfl) rfl _ _ _ rfl g5 (El_cells E1) rfl rfl _ _ A5 (info_El _) rfl (El_one _) (hS.below hB1) ?_
    try simp only [Act.put, List.setIfInBounds_toArray, List.set_cons_zero, List.set_cons_succ]
    replace A4 := A4.rowFar d4_5 (El_cells E1)
    replace A5 := A5.row (El_cells E1)
    refine wpAnyZ_done (by kernel_rfl) ?_ _
    have hS3 := hS.below hB1
    replace hB := hB.trans (hB1.mono hB.size)
    clear hS hS2 hB1 hBs
    have hS : Facts [.blk (g4) 29 (El_cells E0), .blk (g5) 29 (El_cells E1), .blk (w.heap.size) 23 (Iv .u8 l0), .blk (w.heap.size + 1) 23 (Iv .u8 l1)] _ := Facts.cons (f := .blk g4 29 (El_cells E0)) A4 (Facts.cons (f := .blk g5 29 (El_cells E1)) A5 (hS3))
    clear hS3
    try clear n4 n5
    clear A4 A5
    generalize hWn : World.setRow _ _ _ = Wn at *
    clear hWn
    go_upto_region 7 with fail
    refine wp_region_seq ?_
    refine wpSeq_yield (S := Facts [.blk (g4) 29 (El_cells E0), .blk (g5) 29 (El_cells E1), .blk (w.heap.size) 23 (Iv .u8 l0), .blk (w.heap.size + 1) 23 (Iv .u8 l1)]) (show YieldsIf _ _ _ _ (Key l0) _ from yieldsIf_load rfl 23 _ rfl (w.heap.size) rfl 23 _ _ (.tail _ (.tail _ (.head _))) Try.underlying23 rfl (info_key _ hl0.len)) hS ?_
    simp only [Act.put, List.setIfInBounds_toArray, List.set_cons_zero, List.set_cons_succ]
    refine wpSeq_wp rfl ?_
    go_simp
    refine (place_v l0 f0 hl0 E0 HE0.out _).mono ?_
    rintro e v1 ⟨r1, rfl, Hr1, b⟩
    replace hB := hB.trans (b.mono hB.size)
    replace hS := hS.below b
    clear b
    show wpSeq _ _ _ _ _ _
    refine wpSeq_wp rfl ?_
    go_simp
    refine (rkey_v _ E0 _ Hr1).mono ?_
    rintro e v2 ⟨rfl, b⟩
    replace hB := hB.trans (b.mono hB.size)
    replace hS := hS.below b
    replace Hr1 := Hr1.below b
    clear b
    show wpSeq _ _ _ _ _ _
    refine wpSeq_alloc 23 (Iv .u8 (List.replicate 32 0)) rfl (fun W => by go_simp; rfl) ?_
    simp only [Act.put, List.setIfInBounds_toArray, List.set_cons_zero, List.set_cons_succ]
    refine wpSeq_store_row rfl 23 _ _ rfl (v2.heap.size) (Iv .u8 (keyOf E0)) rfl rfl _ _ (Blk.new _ _ _) (info_key _ (keyOf_length _)) (by rw [Iv_size, Iv_size, keyOf_length]; rfl) (Iv_one _ _) ?_
    try simp only [Act.put, List.setIfInBounds_toArray, List.set_cons_zero, List.set_cons_succ]
    have hb := below_setRow ((Below.refl v2.heap.size v2).alloc (Nat.le_refl _) (.cells (Iv .u8 (List.replicate 32 0)) 23)) (Nat.le_refl v2.heap.size) (Iv .u8 (keyOf E0))
    have A := (Blk.new v2 23 (Iv .u8 (List.replicate 32 0))).row (Iv .u8 (keyOf E0))
    replace hB := hB.trans (hb.mono hB.size)
    replace hS := hS.below hb
    replace Hr1 := Hr1.below hb
    clear hb
    generalize hWn : World.setRow _ _ _ = Wn at *
    clear hWn
    generalize v2.heap.size = G2 at *
    replace hS : Facts [.blk (G2) 23 (Iv .u8 (keyOf E0)), .blk (g4) 29 (El_cells E0), .blk (g5) 29 (El_cells E1), .blk (w.heap.size) 23 (Iv .u8 l0), .blk (w.heap.size + 1) 23 (Iv .u8 l1)] _ := Facts.cons (f := .blk G2 23 (Iv .u8 (keyOf E0))) A hS
    clear A
    refine wpSeq_nil ?_
    go_upto_region 8 with fail
    replace hS := hS.drew
    replace hB := below_drew hB
    replace Hr1 := Hr1.drew
    refine wp_region_Z (S := Facts [.blk (G2) 23 (Iv .u8 (keyOf E0)), .blk (g4) 29 (El_cells E0), .blk (g5) 29 (El_cells E1), .blk (w.heap.size) 23 (Iv .u8 l0), .blk (w.heap.size + 1) 23 (Iv .u8 l1)]) 26 (by kernel_rfl) ?_
    refine wpAnyZ_takeL 0 rfl (by kernel_rfl) (by kernel_rfl) (by kernel_rfl) (by kernel_rfl) (by kernel_rfl) (fun _ _ _ h => h) (show YieldsIf _ _ _ _ (El E0) _ from yieldsIf_load rfl 29 _ rfl (g4) rfl 29 _ _ (.tail _ (.head _)) Try.underlying29 rfl (info_El _)) hS ?_
    simp only [Act.put, List.setIfInBounds_toArray, List.set_cons_zero, List.set_cons_succ]
    refine wpAnyZ_takeL 2 rfl (by kernel_rfl) (by kernel_rfl) (by kernel_rfl) (by kernel_rfl) (by kernel_rfl) (fun _ _ _ h => h) (show YieldsIf _ _ _ _ (Key (keyOf E0)) _ from yieldsIf_load rfl 23 _ rfl (G2) rfl 23 _ _ (.head _) Try.underlying23 rfl (info_key _ (keyOf_length _))) hS ?_
    simp only [Act.put, List.setIfInBounds_toArray, List.set_cons_zero, List.set_cons_succ]
    refine wpAnyZ_takeL 3 (v := (Key (List.replicate 32 0))) rfl (by kernel_rfl) (by kernel_rfl) (by kernel_rfl) (by kernel_rfl) (by kernel_rfl) (fun _ _ _ h => h) (Or.inl ⟨by rfl, ?_⟩) hS ?_
    · intro w' _
      go_simp
      rfl
    simp only [Act.put, List.setIfInBounds_toArray, List.set_cons_zero, List.set_cons_succ]
    refine wpAnyZ_takeL 4 rfl (by kernel_rfl) (by kernel_rfl) (by kernel_rfl) (by kernel_rfl) (by kernel_rfl) (fun _ _ _ h => h) (yieldsIf_eql rfl 23 _ _ _ rfl _ _ rfl rfl eqg_api_Key (decide (E0 = 0)) (key_zero_dec _ lE0)) hS ?_
    simp only [Act.put, List.setIfInBounds_toArray, List.set_cons_zero, List.set_cons_succ]
    refine wpAnyZ_one (i := 1) (by kernel_rfl) ?_
    unfold wpOp
    go_simp
    left
    refine (zero_v E0 (decide (E0 = 0)) _ (rfl)).mono ?_
    rintro e v3 ⟨rfl, b⟩
    replace hB := hB.trans (b.mono hB.size)
    replace hS := hS.below b
    replace Hr1 := Hr1.below b
    clear b
    refine ⟨hS, ?_⟩
    refine wpAnyZ_takeL 5 (v := (.bool true)) rfl (by kernel_rfl) (by kernel_rfl) (by kernel_rfl) (by kernel_rfl) (by kernel_rfl) (fun _ _ _ h => h) (Or.inl ⟨by rfl, ?_⟩) hS ?_
    · intro w' _
      go_simp
    simp only [Act.put, List.setIfInBounds_toArray, List.set_cons_zero, List.set_cons_succ]
    refine wpAnyZ_takeL 6 rfl (by kernel_rfl) (by kernel_rfl) (by kernel_rfl) (by kernel_rfl) (by kernel_rfl) (fun _ _ _ h => h) (yieldsIf_move rfl _ rfl _ rfl) hS ?_
    simp only [Act.put, List.setIfInBounds_toArray, List.set_cons_zero, List.set_cons_succ]
    refine wpAnyZ_takeL 7 rfl (by kernel_rfl) (by kernel_rfl) (by kernel_rfl) (by kernel_rfl) (by kernel_rfl) (fun _ _ _ h => h) (show YieldsIf _ _ _ _ (El E0) _ from yieldsIf_load rfl 29 _ rfl (g4) rfl 29 _ _ (.tail _ (.head _)) Try.underlying29 rfl (info_El _)) hS ?_
    simp only [Act.put, List.setIfInBounds_toArray, List.set_cons_zero, List.set_cons_succ]
    refine wpAnyZ_takeL 8 rfl (by kernel_rfl) (by kernel_rfl) (by kernel_rfl) (by kernel_rfl) (by kernel_rfl) (fun _ _ _ h => h) (show YieldsIf _ _ _ _ (El E1) _ from yieldsIf_load rfl 29 _ rfl (g5) rfl 29 _ _ (.tail _ (.tail _ (.head _))) Try.underlying29 rfl (info_El _)) hS ?_
    simp only [Act.put, List.setIfInBounds_toArray, List.set_cons_zero, List.set_cons_succ]
    refine wpAnyZ_takeL 10 rfl (by kernel_rfl) (by kernel_rfl) (by kernel_rfl) (by kernel_rfl) (by kernel_rfl) (fun _ _ _ h => h) (show YieldsIf _ _ _ _ (Key (keyOf E0)) _ from yieldsIf_load rfl 23 _ rfl (G2) rfl 23 _ _ (.head _) Try.underlying23 rfl (info_key _ (keyOf_length _))) hS ?_
    simp only [Act.put, List.setIfInBounds_toArray, List.set_cons_zero, List.set_cons_succ]
    refine wpAnyZ_takeL 11 rfl (by kernel_rfl) (by kernel_rfl) (by kernel_rfl) (by kernel_rfl) (by kernel_rfl) (fun _ _ _ h => h) (show YieldsIf _ _ _ _ (Key l1) _ from yieldsIf_load rfl 23 _ rfl (w.heap.size + 1) rfl 23 _ _ (.tail _ (.tail _ (.tail _ (.tail _ (.head _))))) Try.underlying23 rfl (info_key _ hl1.len)) hS ?_
    simp only [Act.put, List.setIfInBounds_toArray, List.set_cons_zero, List.set_cons_succ]
    refine wpAnyZ_one (i := 9) (by kernel_rfl) ?_
    unfold wpOp
    go_simp
    left
    refine (same_v E0 E1 (decide (E0 = E1)) _ (rfl)).mono ?_
    rintro e v4 ⟨rfl, b⟩
    replace hB := hB.trans (b.mono hB.size)
    replace hS := hS.below b
    replace Hr1 := Hr1.below b
    clear b
    refine ⟨hS, ?_⟩
    refine wpAnyZ_one (i := 12) (by kernel_rfl) ?_
    unfold wpOp
    go_simp
    left
    refine (place_v l1 f1 hl1 E1 HE1.out _).mono ?_
    rintro e v5 ⟨r5, rfl, Hr5, b⟩
    replace hB := hB.trans (b.mono hB.size)
    replace hS := hS.below b
    replace Hr1 := Hr1.below b
    clear b
    refine ⟨hS, ?_⟩
    refine wpAnyZ_one (i := 13) (by kernel_rfl) ?_
    unfold wpOp
    go_simp
    left
    refine (rkey_v _ E1 _ Hr5).mono ?_
    rintro e v6 ⟨rfl, b⟩
    replace hB := hB.trans (b.mono hB.size)
    replace hS := hS.below b
    replace Hr1 := Hr1.below b
    replace Hr5 := Hr5.below b
    clear b
    refine ⟨hS, ?_⟩
    refine wpAnyZ_takeL 14 rfl (by kernel_rfl) (by kernel_rfl) (by kernel_rfl) (by kernel_rfl) (by kernel_rfl) (fun _ _ _ h => h) (yieldsIf_eql rfl 23 _ _ _ rfl _ _ rfl rfl eqg_api_Key (decide (E0 = E1)) (key_dec _ _ lE0 lE1)) hS ?_
    simp only [Act.put, List.setIfInBounds_toArray, List.set_cons_zero, List.set_cons_succ]
    refine wpAnyZ_takeL 15 (v := (.bool true)) rfl (by kernel_rfl) (by kernel_rfl) (by kernel_rfl) (by kernel_rfl) (by kernel_rfl) (fun _ _ _ h => h) (Or.inl ⟨by rfl, ?_⟩) hS ?_
    · intro w' _
      go_simp
    simp only [Act.put, List.setIfInBounds_toArray, List.set_cons_zero, List.set_cons_succ]
    refine wpAnyZ_takeL 16 rfl (by kernel_rfl) (by kernel_rfl) (by kernel_rfl) (by kernel_rfl) (by kernel_rfl) (fun _ _ _ h => h) (yieldsIf_pick rfl _ _ _ rfl true rfl _ rfl) hS ?_
    simp only [Act.put, List.setIfInBounds_toArray, List.set_cons_zero, List.set_cons_succ]
    refine wpAnyZ_takeL 17 rfl (by kernel_rfl) (by kernel_rfl) (by kernel_rfl) (by kernel_rfl) (by kernel_rfl) (fun _ _ _ h => h) (yieldsIf_move rfl _ rfl _ rfl) hS ?_
    simp only [Act.put, List.setIfInBounds_toArray, List.set_cons_zero, List.set_cons_succ]
    refine wpAnyZ_takeL 18 rfl (by kernel_rfl) (by kernel_rfl) (by kernel_rfl) (by kernel_rfl) (by kernel_rfl) (fun _ _ _ h => h) (show YieldsIf _ _ _ _ (El E0) _ from yieldsIf_load rfl 29 _ rfl (g4) rfl 29 _ _ (.tail _ (.head _)) Try.underlying29 rfl (info_El _)) hS ?_
    simp only [Act.put, List.setIfInBounds_toArray, List.set_cons_zero, List.set_cons_succ]
    refine wpAnyZ_takeL 20 (v := (.pointer (some ⟨G2, 0, none⟩))) rfl (by kernel_rfl) (by kernel_rfl) (by kernel_rfl) (by kernel_rfl) (by kernel_rfl) (fun _ _ _ h => h) (Or.inl ⟨by rfl, ?_⟩) hS ?_
    · intro w' _
      go_simp
    simp only [Act.put, List.setIfInBounds_toArray, List.set_cons_zero, List.set_cons_succ]
    refine wpAnyZ_takeL 21 (v := (.int .u8 ((byteAt E0 0 : Nat) : Int))) rfl (by kernel_rfl) (by kernel_rfl) (by kernel_rfl) (by kernel_rfl) (by kernel_rfl) (fun _ _ _ h => h) (Or.inl ⟨by rfl, ?_⟩) hS ?_
    · intro w' hw'
      have c0 := (hw'.blkAt G2 23 (Iv .u8 (keyOf E0)) (.head _)).cell 0
      rw [key_at0] at c0
      go_simp
    simp only [Act.put, List.setIfInBounds_toArray, List.set_cons_zero, List.set_cons_succ]
    refine wpAnyZ_takeL 22 (v := (.int .u8 ((E0 % 2 : Nat) : Int))) rfl (by kernel_rfl) (by kernel_rfl) (by kernel_rfl) (by kernel_rfl) (by kernel_rfl) (fun _ _ _ h => h) (Or.inl ⟨by rfl, ?_⟩) hS ?_
    · intro w' _
      have q := byte_and1 E0
      go_simp
    simp only [Act.put, List.setIfInBounds_toArray, List.set_cons_zero, List.set_cons_succ]
    refine wpAnyZ_takeL 23 (v := (.bool (decide (E0 % 2 = 1)))) rfl (by kernel_rfl) (by kernel_rfl) (by kernel_rfl) (by kernel_rfl) (by kernel_rfl) (fun _ _ _ h => h) (Or.inl ⟨by rfl, ?_⟩) hS ?_
    · intro w' _
      go_simp
      exact beq_odd E0
    simp only [Act.put, List.setIfInBounds_toArray, List.set_cons_zero, List.set_cons_succ]
    refine wpAnyZ_one (i := 19) (by kernel_rfl) ?_
    unfold wpOp
    go_simp
    left
    refine (odd_v E0 (decide (E0 % 2 = 1)) _ (rfl)).mono ?_
    rintro e v7 ⟨rfl, b⟩
    replace hB := hB.trans (b.mono hB.size)
    replace hS := hS.below b
    replace Hr1 := Hr1.below b
    replace Hr5 := Hr5.below b
    clear b
    refine ⟨hS, ?_⟩
    refine wpAnyZ_takeL 24 (v := (.bool true)) rfl (by kernel_rfl) (by kernel_rfl) (by kernel_rfl) (by kernel_rfl) (by kernel_rfl) (fun _ _ _ h => h) (Or.inl ⟨by rfl, ?_⟩) hS ?_
    · intro w' _
      go_simp
    simp only [Act.put, List.setIfInBounds_toArray, List.set_cons_zero, List.set_cons_succ]
    refine wpAnyZ_takeL 25 rfl (by kernel_rfl) (by kernel_rfl) (by kernel_rfl) (by kernel_rfl) (by kernel_rfl) (fun _ _ _ h => h) (yieldsIf_pick rfl _ _ _ rfl true rfl _ rfl) hS ?_
    simp only [Act.put, List.setIfInBounds_toArray, List.set_cons_zero, List.set_cons_succ]
    refine wpAnyZ_one (i := 26) (by kernel_rfl) ?_
    unfold wpOp
    go_simp
    left
    refine wpAnyZ_done (by kernel_rfl) ?_ _
    go_wp2
    go_ret
    exact ⟨rfl, hB⟩

theorem asks_any (l0 l1 : List Int) (f0 f1 : Nat → Nat) (hl0 : Bytes32 l0 f0) (hl1 : Bytes32 l1 f1) (s : Bool) (w : World) :
    Calls Try.prog 8 #[Key l0, Key l1, .bool s] w fun e w' => e = .returned (.bool true) ∧ Below w.heap.size w w' := by
  cases s
  · exact asks_other l0 l1 f0 f1 hl0 hl1 w
  · exact asks_same l0 l1 f0 f1 hl0 hl1 w
end Go.Proofs.Ytknmmjnkafmoaaa
