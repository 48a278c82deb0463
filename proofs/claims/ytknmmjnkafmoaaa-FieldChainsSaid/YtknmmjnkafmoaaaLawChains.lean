/- The law FieldChains: sums and products of what are sums and products, one behind the other. -/
import Derived.Test.YtknmmjnkafmoaaaLo
import Derived.Test.YtknmmjnkafmoaaaLs
namespace Go.Proofs.Ytknmmjnkafmoaaa
open Go.RowKit

/-- Facts, and that the memory stands over an elder one. -/
structure FactsB (w0 : World) (L : List Fact) (w : World) : Prop where
  b : Below w0.heap.size w0 w
  fs : Facts L w
theorem FactsB.below {w0 : World} {L : List Fact} {w w1 : World} (h : FactsB w0 L w) (hb : Below w.heap.size w w1) : FactsB w0 L w1 := ⟨h.b.trans (hb.mono h.b.size), h.fs.below hb⟩
theorem FactsB.drew {w0 : World} {L : List Fact} {w : World} (h : FactsB w0 L w) : FactsB w0 L w.drew := ⟨below_drew h.b, h.fs.drew⟩
theorem FactsB.cons {w0 : World} {f : Fact} {L : List Fact} {w : World} (h : f.at w) (hl : FactsB w0 L w) : FactsB w0 (f :: L) w := ⟨hl.b, Facts.cons h hl.fs⟩
theorem info_row {l : List Int} {f : Nat → Nat} (hl : Bytes32 l f) : (Try.prog.info? 23).map (·.size) = some (Iv .u8 l).toList.length := by
  rw [info_key l hl.len, Array.length_toList]

set_option maxHeartbeats 4000000 in
set_option maxRecDepth 100000 in
theorem chains_n (n c : Nat) (g o : Nat) (lL : Nat → List Int) (fL : Nat → Nat → Nat) (q0 : Option Addr) (m c' : Nat) (fk : Nat → Nat) (w : World) (hn : 0 < n) (hc : n ≤ c) (hc2 : c ≤ maxLen) (hL : Ky w g o n lL fL) (hK : Bs w (.slice q0 m c') m fk) :
    Calls Try.prog 5 #[.slice (some ⟨g, o, none⟩) n c, .slice q0 m c'] w fun e w' => e = .returned (.bool true) ∧ Below w.heap.size w w' := by
  have hg := hL.blk
  obtain ⟨_, _, he, hmc, hmax, hfk, hor⟩ := hK
  injection he with e1 _ e3
  subst e1 e3
  have m0 : (0 : Int) ≤ (m : Int) := by omega
  obtain ⟨l0, f0, hl0, hrow0⟩ : ∃ l0 f0, Bytes32 l0 f0 ∧ w.rangeAt g o (Iv .u8 l0).toList := ⟨lL 0, fL 0, hL.key 0 hn, by
    have := hL.row 0 hn
    rwa [Nat.zero_mul, Nat.add_zero] at this⟩
  obtain ⟨E0, hE0⟩ : ∃ r, r = leTo f0 32 % 57896044618658097711785492504343953926634992332820282019728792003956564819968 % pp := ⟨_, rfl⟩
  have lE0 : E0 < pp := hE0 ▸ Nat.mod_lt _ pp_pos
  have HE0 := Lib.hid hE0
  clear hE0
  have i0 : (0 : Int) < (n : Int) := by omega
  have i1 : ¬ n = 0 := by omega
  go_enter Try.func5, Try.ntmps5
  go_wp2_with fail
  refine (awake_any _).mono ?_
  rintro e w1 ⟨rfl, hB⟩
  go_upto_region 5 with fail
  rw [show (((n : Nat) : Int) == 0) = false from by rw [beq_eq_false_iff_ne]; omega]
  have hS : FactsB w [] w1 := ⟨hB, Facts.nil⟩
  replace hS := hS.drew
  replace hB := below_drew hB
  refine wp_region_Z (S := FactsB w []) 10 (by kernel_rfl) ?_
  refine wpAnyZ_takeL 0 rfl (by kernel_rfl) (by kernel_rfl) (by kernel_rfl) (by kernel_rfl) (by kernel_rfl) (fun _ _ _ h => h) (yieldsIf_move rfl _ rfl _ rfl) hS ?_
  simp only [Act.put, List.setIfInBounds_toArray, List.set_cons_zero, List.set_cons_succ]
  refine wpAnyZ_takeL 1 (v := (.pointer (some ⟨g, o, none⟩))) rfl (by kernel_rfl) (by kernel_rfl) (by kernel_rfl) (by kernel_rfl) (by kernel_rfl) (fun _ _ _ h => h) (Or.inl ⟨by rfl, ?_⟩) hS ?_
  · intro w' _
    go_simp
  simp only [Act.put, List.setIfInBounds_toArray, List.set_cons_zero, List.set_cons_succ]
  refine wpAnyZ_takeL 2 rfl (by kernel_rfl) (by kernel_rfl) (by kernel_rfl) (by kernel_rfl) (by kernel_rfl) (fun _ _ _ h => h) (show YieldsIf _ _ _ _ (Key l0) _ from yieldsIf_load_mid rfl 23 _ rfl g o rfl _ _ (fun w' h => rangeAt_below hrow0 h.b hg) Try.underlying23 rfl (info_row hl0)) hS ?_
  simp only [Act.put, List.setIfInBounds_toArray, List.set_cons_zero, List.set_cons_succ]
  refine wpAnyZ_takeL 4 rfl (by kernel_rfl) (by kernel_rfl) (by kernel_rfl) (by kernel_rfl) (by kernel_rfl) (fun _ _ _ h => h) (yieldsIf_move rfl _ rfl _ rfl) hS ?_
  simp only [Act.put, List.setIfInBounds_toArray, List.set_cons_zero, List.set_cons_succ]
  refine wpAnyZ_takeL 5 (v := (.pointer (some ⟨g, o, none⟩))) rfl (by kernel_rfl) (by kernel_rfl) (by kernel_rfl) (by kernel_rfl) (by kernel_rfl) (fun _ _ _ h => h) (Or.inl ⟨by rfl, ?_⟩) hS ?_
  · intro w' _
    go_simp
  simp only [Act.put, List.setIfInBounds_toArray, List.set_cons_zero, List.set_cons_succ]
  refine wpAnyZ_takeL 6 rfl (by kernel_rfl) (by kernel_rfl) (by kernel_rfl) (by kernel_rfl) (by kernel_rfl) (fun _ _ _ h => h) (show YieldsIf _ _ _ _ (Key l0) _ from yieldsIf_load_mid rfl 23 _ rfl g o rfl _ _ (fun w' h => rangeAt_below hrow0 h.b hg) Try.underlying23 rfl (info_row hl0)) hS ?_
  simp only [Act.put, List.setIfInBounds_toArray, List.set_cons_zero, List.set_cons_succ]
  refine wpAnyZ_jobsL [(⟨3, 20⟩, .is (El E0)), (⟨7, 24⟩, .rel (fun v w' => LongIs w' v E0)), (⟨8, 5⟩, .rel (fun v w' => ∃ g, v = .pointer (some ⟨g, 0, none⟩) ∧ Blk w' g 29 (El_cells 0)))] [] 2 _ _ _ (by kernel_rfl) (fun _ _ _ _ _ h => h) ?_ (fun _ _ _ _ _ h => h) (fun _ _ h hb => h.below hb) hS ?_ ?_ ?_
  · exact fun _ _ h => by cases h
  · intro j hj
    simp only [List.map_cons, List.map_nil, List.mem_cons, List.not_mem_nil, or_false] at hj
    rcases hj with rfl | rfl | rfl
    · exact fun _ _ _ h _ => h
    · intro v w1 w2 h hb
      exact LongIs.below h hb
    · intro v w1 w2 h hb
      obtain ⟨g, e, H⟩ : ∃ g, v = .pointer (some ⟨g, 0, none⟩) ∧ Blk w1 g 29 (El_cells 0) := h
      exact ⟨g, e, H.below' hb⟩
  · intro j hj
    simp only [List.map_cons, List.map_nil, List.mem_cons, List.not_mem_nil, or_false] at hj
    rcases hj with rfl | rfl | rfl
    · refine job_frame [] (by kernel_rfl) ?_
      show JobAt _ _ _ _ _ _ _
      simp only [putAll, List.foldr_nil]
      intro W K hS' hK
      unfold wpOp
      go_simp
      left
      refine (of_v l0 f0 hl0 E0 HE0.out _).mono ?_
      rintro e v ⟨rfl, b⟩
      exact hK _ _ rfl b (fun g hg => ((block_agg _) g hg).elim)
    · refine job_frame [] (by kernel_rfl) ?_
      show JobAt _ _ _ _ _ _ _
      simp only [putAll, List.foldr_nil]
      intro W K hS' hK
      unfold wpOp
      go_simp
      left
      refine (place_v l0 f0 hl0 E0 HE0.out _).mono ?_
      rintro e v ⟨q, rfl, h1, b⟩
      exact hK _ _ h1 b (fun g hg => (h1.noBlock g hg).elim)
    · refine job_frame [] (by kernel_rfl) ?_
      show JobAt _ _ _ _ _ _ _
      exact job_alloc 29 (El_cells 0) _ _ rfl rfl rfl (fun W => by go_simp; rfl)
  · intro f W hS2 hB1 hR hF hA
    have e3 : f 3 = (El E0) := hR ⟨3, 20⟩ (by simp)
    have Hq7 : LongIs W (f 7) E0 := hR ⟨7, 24⟩ (by simp)
    obtain ⟨g8r5, e8, A8⟩ : ∃ g, f 8 = .pointer (some ⟨g, 0, none⟩) ∧ Blk W g 29 (El_cells 0) := hR ⟨8, 5⟩ (by simp)
    have n8 : _ ≤ g8r5 := (hF ⟨8, 5⟩ (by simp) g8r5 (by show blockOf (f 8) = _; rw [e8]; rfl)).1
    have hge : w.heap.size ≤ g8r5 := Nat.le_trans hS.b.size n8
    clear hA hF hR
    simp only [setAll, putAll, List.map_cons, List.map_nil, List.foldr_cons, List.foldr_nil, Act.put, List.setIfInBounds_toArray, List.set_cons_zero, List.set_cons_succ, e3, e8]
    clear e3 e8
    generalize f 7 = q7 at *
    have hBs := hB1
    replace hB1 := below_setRow hB1 n8 (El_cells E0)
    refine wpAnyZ_store_row 9 rfl (by kernel_rfl) rfl _ _ _ rfl g8r5 (El_cells E0) rfl rfl _ _ A8 (info_El _) rfl (El_one _) (hS.below hB1) ?_
    try simp only [Act.put, List.setIfInBounds_toArray, List.set_cons_zero, List.set_cons_succ]
    replace Hq7 := Hq7.rowAway A8 (El_cells E0)
    replace A8 := A8.row (El_cells E0)
    refine wpAnyZ_one (i := 10) (by kernel_rfl) ?_
    unfold wpOp
    go_simp
    left
    refine wpAnyZ_done (by kernel_rfl) ?_ _
    have hS3 := hS.below hB1
    replace hB := hB.trans (hB1.mono hB.size)
    clear hS hS2 hB1 hBs
    have hS : FactsB w [.blk (g8r5) 29 (El_cells E0)] _ := FactsB.cons (f := .blk g8r5 29 (El_cells E0)) A8 (hS3)
    clear hS3
    try clear n8
    clear A8
    generalize hWn : World.setRow _ _ _ = Wn at *
    clear hWn
    have HX := hS.fs.blkAt _ _ _ (.head _)
    clear hS i1
    go_wp2
    go_loopw [6, 27] (fun p z wr => ∃ (k X : Nat) (r : Value), k ≤ 61 ∧ k ≤ m ∧ p = r ∧ z = .int .i64 k ∧ X < pp ∧ LongIs wr r X ∧ Blk wr g8r5 29 (El_cells X) ∧ Below w.heap.size w wr) (fun _ z _ => m - (intOf z).toNat)
    case atStart => exact ⟨0, E0, q7, by omega, by omega, rfl, rfl, lE0, Hq7, HX, hB⟩
    case round =>
      clear HX hB Hq7
      obtain ⟨k, X, r, hk, hkm, rfl, rfl, lX, Hr, HX, hB⟩ := hrel
      by_cases hlt : k < m
      · obtain ⟨gk, ok, rfl, hBy⟩ := hor.resolve_left (by omega)
        have ck : wr.cell? ⟨gk, ok + k, none⟩ = some (.int .u8 ((fk k : Nat) : Int)) := (hB.cell (p := ⟨gk, ok + k, none⟩) hBy.blk).trans (hBy.cell k hlt)
        have lk := hfk k
        by_cases hbrk : 60 < k
        · go_upto_region 23 with fail
          have hS : Facts [.blk g8r5 29 (El_cells X)] wr := Facts.cons (f := .blk _ _ _) HX Facts.nil
          refine wp_region_seq ?_
          refine wpSeq_yield (S := Facts [.blk (g8r5) 29 (El_cells X)]) (show YieldsIf _ _ _ _ (El X) _ from yieldsIf_load rfl 29 _ rfl (g8r5) rfl 29 _ _ (.head _) Try.underlying29 rfl (info_El _)) hS ?_
          simp only [Act.put, List.setIfInBounds_toArray, List.set_cons_zero, List.set_cons_succ]
          refine wpSeq_wp rfl ?_
          go_simp
          refine (bytes_v X _ lX).mono ?_
          rintro e v1 ⟨rfl, b⟩
          replace hB := hB.trans (b.mono hB.size)
          replace hS := hS.below b
          replace Hr := Hr.below b
          clear b
          show wpSeq _ _ _ _ _ _
          refine wpSeq_yield (S := Facts [.blk (g8r5) 29 (El_cells X)]) (yieldsIf_move rfl _ rfl _ rfl) hS ?_
          simp only [Act.put, List.setIfInBounds_toArray, List.set_cons_zero, List.set_cons_succ]
          refine wpSeq_wp rfl ?_
          go_simp
          refine (rkey_v _ X _ Hr).mono ?_
          rintro e v2 ⟨rfl, b⟩
          replace hB := hB.trans (b.mono hB.size)
          replace hS := hS.below b
          replace Hr := Hr.below b
          clear b
          show wpSeq _ _ _ _ _ _
          refine wpSeq_yield (S := Facts [.blk (g8r5) 29 (El_cells X)]) (yieldsIf_eql rfl 23 _ _ _ rfl _ _ rfl rfl eqg_api_Key true (key_eq _ _ rfl)) hS ?_
          simp only [Act.put, List.setIfInBounds_toArray, List.set_cons_zero, List.set_cons_succ]
          refine wpSeq_yield (S := Facts [.blk (g8r5) 29 (El_cells X)]) (yieldsIf_assign rfl _ rfl _ rfl) hS ?_
          simp only [Act.put, List.setIfInBounds_toArray, List.set_cons_zero, List.set_cons_succ]
          refine wpSeq_nil ?_
          go_wp2
          go_ret
          exact ⟨rfl, hB⟩
        obtain ⟨j, hj⟩ : ∃ j, j = k % n := ⟨_, rfl⟩
        have hjn : j < n := hj ▸ Nat.mod_lt _ hn
        have j1 : ((k : Nat) : Int).tmod (n : Int) = (j : Int) := by rw [Int.tmod_eq_emod_of_nonneg (by omega), hj]; omega
        have j2 : (0 : Int) ≤ (j : Int) := by omega
        have j3 : (j : Int) < (n : Int) := by omega
        have j4 : ((k : Nat) : Int) % (n : Int) = (j : Int) := by rw [hj]; omega
        have j5 : ¬ n = 0 := by omega
        obtain ⟨l1, f1, hl1, hrow1⟩ : ∃ l1 f1, Bytes32 l1 f1 ∧ w.rangeAt g (o + j * 32) (Iv .u8 l1).toList := ⟨lL j, fL j, hL.key j hjn, hL.row j hjn⟩
        clear hj
        go_upto_region 10 with fail
        refine wp_region_seq ?_
        refine wpSeq_yield (S := fun _ => True) (v := .slice (some ⟨g, o, none⟩) n c) (Or.inl ⟨by rfl, ?_⟩) trivial ?_
        · intro w' _
          go_simp
        simp only [Act.put, List.setIfInBounds_toArray, List.set_cons_zero, List.set_cons_succ]
        refine wpSeq_yield (S := fun _ => True) (v := .int .i64 k) (Or.inl ⟨by rfl, ?_⟩) trivial ?_
        · intro w' _
          go_simp
        simp only [Act.put, List.setIfInBounds_toArray, List.set_cons_zero, List.set_cons_succ]
        refine wpSeq_yield (S := fun _ => True) (v := .slice (some ⟨g, o, none⟩) n c) (Or.inl ⟨by rfl, ?_⟩) trivial ?_
        · intro w' _
          go_simp
        simp only [Act.put, List.setIfInBounds_toArray, List.set_cons_zero, List.set_cons_succ]
        refine wpSeq_yield (S := fun _ => True) (v := .int .i64 n) (Or.inl ⟨by rfl, ?_⟩) trivial ?_
        · intro w' _
          go_simp
        simp only [Act.put, List.setIfInBounds_toArray, List.set_cons_zero, List.set_cons_succ]
        refine wpSeq_yield (S := fun _ => True) (v := .int .i64 (j : Int)) (Or.inl ⟨by rfl, ?_⟩) trivial ?_
        · intro w' _
          go_simp
        simp only [Act.put, List.setIfInBounds_toArray, List.set_cons_zero, List.set_cons_succ]
        refine wpSeq_yield (S := fun _ => True) (v := .pointer (some ⟨g, o + j * 32, none⟩)) (Or.inl ⟨by rfl, ?_⟩) trivial ?_
        · intro w' _
          go_simp
        simp only [Act.put, List.setIfInBounds_toArray, List.set_cons_zero, List.set_cons_succ]
        refine wpSeq_yield (S := fun w' => Below w.heap.size w w') (show YieldsIf _ _ _ _ (Key l1) _ from yieldsIf_load_mid rfl 23 _ rfl g (o + j * 32) rfl _ _ (fun w' h => rangeAt_below hrow1 h hg) Try.underlying23 rfl (info_row hl1)) hB ?_
        simp only [Act.put, List.setIfInBounds_toArray, List.set_cons_zero, List.set_cons_succ]
        refine wpSeq_alloc 23 (Iv .u8 (List.replicate 32 0)) rfl (fun W => by go_simp; rfl) ?_
        simp only [Act.put, List.setIfInBounds_toArray, List.set_cons_zero, List.set_cons_succ]
        refine wpSeq_store_row rfl 23 _ _ rfl (wr.heap.size) (Iv .u8 l1) rfl rfl _ _ (Blk.new _ _ _) (info_key _ hl1.len) (by rw [Iv_size, Iv_size, hl1.len]; rfl) (Iv_one _ _) ?_
        try simp only [Act.put, List.setIfInBounds_toArray, List.set_cons_zero, List.set_cons_succ]
        have hb := below_setRow ((Below.refl wr.heap.size wr).alloc (Nat.le_refl _) (.cells (Iv .u8 (List.replicate 32 0)) 23)) (Nat.le_refl wr.heap.size) (Iv .u8 l1)
        have A := (Blk.new wr 23 (Iv .u8 (List.replicate 32 0))).row (Iv .u8 l1)
        replace hB := hB.trans (hb.mono hB.size)
        replace Hr := Hr.below hb
        replace HX := HX.below' hb
        clear hb
        generalize World.setRow _ _ _ = W2 at *
        generalize wr.heap.size = G1 at *
        refine wpSeq_nil ?_
        have hS : Facts [.blk (G1) 23 (Iv .u8 l1), .blk (g8r5) 29 (El_cells X)] W2 := Facts.cons (f := .blk _ _ _) A (Facts.cons (f := .blk _ _ _) HX Facts.nil)
        clear A HX
        clear j1 j4
        obtain ⟨E0, hE0⟩ : ∃ r, r = leTo f1 32 % 57896044618658097711785492504343953926634992332820282019728792003956564819968 % pp := ⟨_, rfl⟩
        have lE0 : E0 < pp := hE0 ▸ Nat.mod_lt _ pp_pos
        have HE0 := Lib.hid hE0
        clear hE0
        go_upto_region 11 with fail
        replace hS := hS.drew
        replace hB := below_drew hB
        replace Hr := Hr.drew
        refine wp_region_Z (S := Facts [.blk (G1) 23 (Iv .u8 l1), .blk (g8r5) 29 (El_cells X)]) 6 (by kernel_rfl) ?_
        refine wpAnyZ_takeL 0 rfl (by kernel_rfl) (by kernel_rfl) (by kernel_rfl) (by kernel_rfl) (by kernel_rfl) (fun _ _ _ h => h) (show YieldsIf _ _ _ _ (Key l1) _ from yieldsIf_load rfl 23 _ rfl (G1) rfl 23 _ _ (.head _) Try.underlying23 rfl (info_key _ hl1.len)) hS ?_
        simp only [Act.put, List.setIfInBounds_toArray, List.set_cons_zero, List.set_cons_succ]
        refine wpAnyZ_takeL 2 rfl (by kernel_rfl) (by kernel_rfl) (by kernel_rfl) (by kernel_rfl) (by kernel_rfl) (fun _ _ _ h => h) (show YieldsIf _ _ _ _ (Key l1) _ from yieldsIf_load rfl 23 _ rfl (G1) rfl 23 _ _ (.head _) Try.underlying23 rfl (info_key _ hl1.len)) hS ?_
        simp only [Act.put, List.setIfInBounds_toArray, List.set_cons_zero, List.set_cons_succ]
        refine wpAnyZ_jobsL [(⟨1, 42⟩, .is (El E0)), (⟨3, 44⟩, .rel (fun v w' => LongIs w' v E0)), (⟨4, 10⟩, .rel (fun v w' => ∃ g, v = .pointer (some ⟨g, 0, none⟩) ∧ Blk w' g 29 (El_cells 0)))] [] 2 _ _ _ (by kernel_rfl) (fun _ _ _ _ _ h => h) ?_ (fun _ _ _ _ _ h => h) (fun _ _ h hb => h.below hb) hS ?_ ?_ ?_
        · exact fun _ _ h => by cases h
        · intro j hj
          simp only [List.map_cons, List.map_nil, List.mem_cons, List.not_mem_nil, or_false] at hj
          rcases hj with rfl | rfl | rfl
          · exact fun _ _ _ h _ => h
          · intro v w1 w2 h hb
            exact LongIs.below h hb
          · intro v w1 w2 h hb
            obtain ⟨g, e, H⟩ : ∃ g, v = .pointer (some ⟨g, 0, none⟩) ∧ Blk w1 g 29 (El_cells 0) := h
            exact ⟨g, e, H.below' hb⟩
        · intro j hj
          simp only [List.map_cons, List.map_nil, List.mem_cons, List.not_mem_nil, or_false] at hj
          rcases hj with rfl | rfl | rfl
          · refine job_frame [] (by kernel_rfl) ?_
            show JobAt _ _ _ _ _ _ _
            simp only [putAll, List.foldr_nil]
            intro W K hS' hK
            unfold wpOp
            go_simp
            left
            refine (of_v l1 f1 hl1 E0 HE0.out _).mono ?_
            rintro e v ⟨rfl, b⟩
            exact hK _ _ rfl b (fun g hg => ((block_agg _) g hg).elim)
          · refine job_frame [] (by kernel_rfl) ?_
            show JobAt _ _ _ _ _ _ _
            simp only [putAll, List.foldr_nil]
            intro W K hS' hK
            unfold wpOp
            go_simp
            left
            refine (place_v l1 f1 hl1 E0 HE0.out _).mono ?_
            rintro e v ⟨q, rfl, h1, b⟩
            exact hK _ _ h1 b (fun g hg => (h1.noBlock g hg).elim)
          · refine job_frame [] (by kernel_rfl) ?_
            show JobAt _ _ _ _ _ _ _
            exact job_alloc 29 (El_cells 0) _ _ rfl rfl rfl (fun W => by go_simp; rfl)
        · intro f W hS2 hB1 hR hF hA
          have e1 : f 1 = (El E0) := hR ⟨1, 42⟩ (by simp)
          have Hq3 : LongIs W (f 3) E0 := hR ⟨3, 44⟩ (by simp)
          obtain ⟨g4r11, e4, A4⟩ : ∃ g, f 4 = .pointer (some ⟨g, 0, none⟩) ∧ Blk W g 29 (El_cells 0) := hR ⟨4, 10⟩ (by simp)
          have n4 : _ ≤ g4r11 := (hF ⟨4, 10⟩ (by simp) g4r11 (by show blockOf (f 4) = _; rw [e4]; rfl)).1
          clear hA hF hR
          simp only [setAll, putAll, List.map_cons, List.map_nil, List.foldr_cons, List.foldr_nil, Act.put, List.setIfInBounds_toArray, List.set_cons_zero, List.set_cons_succ, e1, e4]
          clear e1 e4
          generalize f 3 = q3 at *
          have hBs := hB1
          replace hB1 := below_setRow hB1 n4 (El_cells E0)
          refine wpAnyZ_store_row 5 rfl (by kernel_rfl) rfl _ _ _ rfl g4r11 (El_cells E0) rfl rfl _ _ A4 (info_El _) rfl (El_one _) (hS.below hB1) ?_
          try simp only [Act.put, List.setIfInBounds_toArray, List.set_cons_zero, List.set_cons_succ]
          replace Hq3 := Hq3.rowAway A4 (El_cells E0)
          replace A4 := A4.row (El_cells E0)
          refine wpAnyZ_one (i := 6) (by kernel_rfl) ?_
          unfold wpOp
          go_simp
          left
          refine wpAnyZ_done (by kernel_rfl) ?_ _
          replace Hr := Hr.below hB1
          have hS3 := hS.below hB1
          replace hB := hB.trans (hB1.mono hB.size)
          clear hS hS2 hB1 hBs
          have hS : Facts [.blk (g4r11) 29 (El_cells E0), .blk (G1) 23 (Iv .u8 l1), .blk (g8r5) 29 (El_cells X)] _ := Facts.cons (f := .blk g4r11 29 (El_cells E0)) A4 (hS3)
          clear hS3
          try clear n4
          clear A4
          generalize hWn : World.setRow _ _ _ = Wn at *
          clear hWn
          have hd : fk k % 5 = 0 ∨ fk k % 5 = 1 ∨ fk k % 5 = 2 ∨ fk k % 5 = 3 ∨ fk k % 5 = 4 := by omega
          rcases hd with hd | hd | hd | hd | hd
          · obtain ⟨E1, hE1⟩ : ∃ r, r = (X + E0) % pp := ⟨_, rfl⟩
            have lE1 : E1 < pp := hE1 ▸ Nat.mod_lt _ pp_pos
            have HE1 := Lib.hid hE1
            clear hE1
            have e5 : ((fk k : Nat) : Int).tmod 5 = 0 := by rw [Int.tmod_eq_emod_of_nonneg (by omega)]; omega
            have e6 : ((fk k : Nat) : Int) % 5 = 0 := by omega
            go_upto_region 15 with fail
            refine wp_region_seq ?_
            refine wpSeq_yield (S := Facts [.blk (g4r11) 29 (El_cells E0), .blk (G1) 23 (Iv .u8 l1), .blk (g8r5) 29 (El_cells X)]) (show YieldsIf _ _ _ _ (El X) _ from yieldsIf_load rfl 29 _ rfl (g8r5) rfl 29 _ _ (.tail _ (.tail _ (.head _))) Try.underlying29 rfl (info_El _)) hS ?_
            simp only [Act.put, List.setIfInBounds_toArray, List.set_cons_zero, List.set_cons_succ]
            refine wpSeq_yield (S := Facts [.blk (g4r11) 29 (El_cells E0), .blk (G1) 23 (Iv .u8 l1), .blk (g8r5) 29 (El_cells X)]) (show YieldsIf _ _ _ _ (El E0) _ from yieldsIf_load rfl 29 _ rfl (g4r11) rfl 29 _ _ (.head _) Try.underlying29 rfl (info_El _)) hS ?_
            simp only [Act.put, List.setIfInBounds_toArray, List.set_cons_zero, List.set_cons_succ]
            refine wpSeq_wp rfl ?_
            go_simp
            refine (add_v X E0 E1 _ lX lE0 HE1.out).mono ?_
            rintro e v1 ⟨rfl, b⟩
            replace hB := hB.trans (b.mono hB.size)
            replace hS := hS.below b
            replace Hr := Hr.below b
            replace Hq3 := Hq3.below b
            clear b
            show wpSeq _ _ _ _ _ _
            refine wpSeq_yield (S := Facts [.blk (g4r11) 29 (El_cells E0), .blk (G1) 23 (Iv .u8 l1), .blk (g8r5) 29 (El_cells X)]) (yieldsIf_move rfl _ rfl _ rfl) hS ?_
            simp only [Act.put, List.setIfInBounds_toArray, List.set_cons_zero, List.set_cons_succ]
            refine wpSeq_yield (S := Facts [.blk (g4r11) 29 (El_cells E0), .blk (G1) 23 (Iv .u8 l1), .blk (g8r5) 29 (El_cells X)]) (yieldsIf_move rfl _ rfl _ rfl) hS ?_
            simp only [Act.put, List.setIfInBounds_toArray, List.set_cons_zero, List.set_cons_succ]
            refine wpSeq_wp rfl ?_
            go_simp
            refine (radd_v _ _ X E0 E1 _ Hr Hq3 HE1.out).mono ?_
            rintro e v2 ⟨r2, rfl, Hr2, b⟩
            replace hB := hB.trans (b.mono hB.size)
            replace hS := hS.below b
            replace Hr := Hr.below b
            replace Hq3 := Hq3.below b
            clear b
            show wpSeq _ _ _ _ _ _
            have A := hS.blkAt _ _ _ (.tail _ (.tail _ (.head _)))
            refine wpSeq_store_row rfl 29 _ _ rfl (g8r5) (El_cells E1) rfl rfl _ _ A (info_El _) rfl (El_one _) ?_
            try simp only [Act.put, List.setIfInBounds_toArray, List.set_cons_zero, List.set_cons_succ]
            have HX2 := A.row (El_cells E1)
            have HR2 := Hr2.rowAway A (El_cells E1)
            have HB2 := below_setRow hB hge (El_cells E1)
            clear A hS hB
            generalize World.setRow _ _ _ = W9 at *
            refine wpSeq_yield (S := fun _ => True) (yieldsIf_assign rfl _ rfl _ rfl) trivial ?_
            simp only [Act.put, List.setIfInBounds_toArray, List.set_cons_zero, List.set_cons_succ]
            refine wpSeq_nil ?_
            go_wp2
            exact ⟨⟨k + 1, E1, r2, by omega, by omega, rfl, rfl, lE1, HR2, HX2, HB2⟩, by simp [intOf]; omega⟩
          · obtain ⟨E1, hE1⟩ : ∃ r, r = (X + (pp - E0)) % pp := ⟨_, rfl⟩
            have lE1 : E1 < pp := hE1 ▸ Nat.mod_lt _ pp_pos
            have HE1 := Lib.hid hE1
            clear hE1
            have e5 : ((fk k : Nat) : Int).tmod 5 = 1 := by rw [Int.tmod_eq_emod_of_nonneg (by omega)]; omega
            have e6 : ((fk k : Nat) : Int) % 5 = 1 := by omega
            go_upto_region 17 with fail
            refine wp_region_seq ?_
            refine wpSeq_yield (S := Facts [.blk (g4r11) 29 (El_cells E0), .blk (G1) 23 (Iv .u8 l1), .blk (g8r5) 29 (El_cells X)]) (show YieldsIf _ _ _ _ (El X) _ from yieldsIf_load rfl 29 _ rfl (g8r5) rfl 29 _ _ (.tail _ (.tail _ (.head _))) Try.underlying29 rfl (info_El _)) hS ?_
            simp only [Act.put, List.setIfInBounds_toArray, List.set_cons_zero, List.set_cons_succ]
            refine wpSeq_yield (S := Facts [.blk (g4r11) 29 (El_cells E0), .blk (G1) 23 (Iv .u8 l1), .blk (g8r5) 29 (El_cells X)]) (show YieldsIf _ _ _ _ (El E0) _ from yieldsIf_load rfl 29 _ rfl (g4r11) rfl 29 _ _ (.head _) Try.underlying29 rfl (info_El _)) hS ?_
            simp only [Act.put, List.setIfInBounds_toArray, List.set_cons_zero, List.set_cons_succ]
            refine wpSeq_wp rfl ?_
            go_simp
            refine (sub_v X E0 E1 _ lX lE0 HE1.out).mono ?_
            rintro e v1 ⟨rfl, b⟩
            replace hB := hB.trans (b.mono hB.size)
            replace hS := hS.below b
            replace Hr := Hr.below b
            replace Hq3 := Hq3.below b
            clear b
            show wpSeq _ _ _ _ _ _
            refine wpSeq_yield (S := Facts [.blk (g4r11) 29 (El_cells E0), .blk (G1) 23 (Iv .u8 l1), .blk (g8r5) 29 (El_cells X)]) (yieldsIf_move rfl _ rfl _ rfl) hS ?_
            simp only [Act.put, List.setIfInBounds_toArray, List.set_cons_zero, List.set_cons_succ]
            refine wpSeq_yield (S := Facts [.blk (g4r11) 29 (El_cells E0), .blk (G1) 23 (Iv .u8 l1), .blk (g8r5) 29 (El_cells X)]) (yieldsIf_move rfl _ rfl _ rfl) hS ?_
            simp only [Act.put, List.setIfInBounds_toArray, List.set_cons_zero, List.set_cons_succ]
            refine wpSeq_wp rfl ?_
            go_simp
            refine (rsub_v _ _ X E0 E1 _ Hr Hq3 lE0 HE1.out).mono ?_
            rintro e v2 ⟨r2, rfl, Hr2, b⟩
            replace hB := hB.trans (b.mono hB.size)
            replace hS := hS.below b
            replace Hr := Hr.below b
            replace Hq3 := Hq3.below b
            clear b
            show wpSeq _ _ _ _ _ _
            have A := hS.blkAt _ _ _ (.tail _ (.tail _ (.head _)))
            refine wpSeq_store_row rfl 29 _ _ rfl (g8r5) (El_cells E1) rfl rfl _ _ A (info_El _) rfl (El_one _) ?_
            try simp only [Act.put, List.setIfInBounds_toArray, List.set_cons_zero, List.set_cons_succ]
            have HX2 := A.row (El_cells E1)
            have HR2 := Hr2.rowAway A (El_cells E1)
            have HB2 := below_setRow hB hge (El_cells E1)
            clear A hS hB
            generalize World.setRow _ _ _ = W9 at *
            refine wpSeq_yield (S := fun _ => True) (yieldsIf_assign rfl _ rfl _ rfl) trivial ?_
            simp only [Act.put, List.setIfInBounds_toArray, List.set_cons_zero, List.set_cons_succ]
            refine wpSeq_nil ?_
            go_wp2
            exact ⟨⟨k + 1, E1, r2, by omega, by omega, rfl, rfl, lE1, HR2, HX2, HB2⟩, by simp [intOf]; omega⟩
          · obtain ⟨E1, hE1⟩ : ∃ r, r = (E0 + (pp - X)) % pp := ⟨_, rfl⟩
            have lE1 : E1 < pp := hE1 ▸ Nat.mod_lt _ pp_pos
            have HE1 := Lib.hid hE1
            clear hE1
            have e5 : ((fk k : Nat) : Int).tmod 5 = 2 := by rw [Int.tmod_eq_emod_of_nonneg (by omega)]; omega
            have e6 : ((fk k : Nat) : Int) % 5 = 2 := by omega
            go_upto_region 19 with fail
            refine wp_region_seq ?_
            refine wpSeq_yield (S := Facts [.blk (g4r11) 29 (El_cells E0), .blk (G1) 23 (Iv .u8 l1), .blk (g8r5) 29 (El_cells X)]) (show YieldsIf _ _ _ _ (El E0) _ from yieldsIf_load rfl 29 _ rfl (g4r11) rfl 29 _ _ (.head _) Try.underlying29 rfl (info_El _)) hS ?_
            simp only [Act.put, List.setIfInBounds_toArray, List.set_cons_zero, List.set_cons_succ]
            refine wpSeq_yield (S := Facts [.blk (g4r11) 29 (El_cells E0), .blk (G1) 23 (Iv .u8 l1), .blk (g8r5) 29 (El_cells X)]) (show YieldsIf _ _ _ _ (El X) _ from yieldsIf_load rfl 29 _ rfl (g8r5) rfl 29 _ _ (.tail _ (.tail _ (.head _))) Try.underlying29 rfl (info_El _)) hS ?_
            simp only [Act.put, List.setIfInBounds_toArray, List.set_cons_zero, List.set_cons_succ]
            refine wpSeq_wp rfl ?_
            go_simp
            refine (sub_v E0 X E1 _ lE0 lX HE1.out).mono ?_
            rintro e v1 ⟨rfl, b⟩
            replace hB := hB.trans (b.mono hB.size)
            replace hS := hS.below b
            replace Hr := Hr.below b
            replace Hq3 := Hq3.below b
            clear b
            show wpSeq _ _ _ _ _ _
            refine wpSeq_yield (S := Facts [.blk (g4r11) 29 (El_cells E0), .blk (G1) 23 (Iv .u8 l1), .blk (g8r5) 29 (El_cells X)]) (yieldsIf_move rfl _ rfl _ rfl) hS ?_
            simp only [Act.put, List.setIfInBounds_toArray, List.set_cons_zero, List.set_cons_succ]
            refine wpSeq_yield (S := Facts [.blk (g4r11) 29 (El_cells E0), .blk (G1) 23 (Iv .u8 l1), .blk (g8r5) 29 (El_cells X)]) (yieldsIf_move rfl _ rfl _ rfl) hS ?_
            simp only [Act.put, List.setIfInBounds_toArray, List.set_cons_zero, List.set_cons_succ]
            refine wpSeq_wp rfl ?_
            go_simp
            refine (rsub_v _ _ E0 X E1 _ Hq3 Hr lX HE1.out).mono ?_
            rintro e v2 ⟨r2, rfl, Hr2, b⟩
            replace hB := hB.trans (b.mono hB.size)
            replace hS := hS.below b
            replace Hr := Hr.below b
            replace Hq3 := Hq3.below b
            clear b
            show wpSeq _ _ _ _ _ _
            have A := hS.blkAt _ _ _ (.tail _ (.tail _ (.head _)))
            refine wpSeq_store_row rfl 29 _ _ rfl (g8r5) (El_cells E1) rfl rfl _ _ A (info_El _) rfl (El_one _) ?_
            try simp only [Act.put, List.setIfInBounds_toArray, List.set_cons_zero, List.set_cons_succ]
            have HX2 := A.row (El_cells E1)
            have HR2 := Hr2.rowAway A (El_cells E1)
            have HB2 := below_setRow hB hge (El_cells E1)
            clear A hS hB
            generalize World.setRow _ _ _ = W9 at *
            refine wpSeq_yield (S := fun _ => True) (yieldsIf_assign rfl _ rfl _ rfl) trivial ?_
            simp only [Act.put, List.setIfInBounds_toArray, List.set_cons_zero, List.set_cons_succ]
            refine wpSeq_nil ?_
            go_wp2
            exact ⟨⟨k + 1, E1, r2, by omega, by omega, rfl, rfl, lE1, HR2, HX2, HB2⟩, by simp [intOf]; omega⟩
          · obtain ⟨E1, hE1⟩ : ∃ r, r = X * X % pp := ⟨_, rfl⟩
            have lE1 : E1 < pp := hE1 ▸ Nat.mod_lt _ pp_pos
            have HE1 := Lib.hid hE1
            clear hE1
            have e5 : ((fk k : Nat) : Int).tmod 5 = 3 := by rw [Int.tmod_eq_emod_of_nonneg (by omega)]; omega
            have e6 : ((fk k : Nat) : Int) % 5 = 3 := by omega
            go_upto_region 21 with fail
            refine wp_region_seq ?_
            refine wpSeq_yield (S := Facts [.blk (g4r11) 29 (El_cells E0), .blk (G1) 23 (Iv .u8 l1), .blk (g8r5) 29 (El_cells X)]) (show YieldsIf _ _ _ _ (El X) _ from yieldsIf_load rfl 29 _ rfl (g8r5) rfl 29 _ _ (.tail _ (.tail _ (.head _))) Try.underlying29 rfl (info_El _)) hS ?_
            simp only [Act.put, List.setIfInBounds_toArray, List.set_cons_zero, List.set_cons_succ]
            refine wpSeq_yield (S := Facts [.blk (g4r11) 29 (El_cells E0), .blk (G1) 23 (Iv .u8 l1), .blk (g8r5) 29 (El_cells X)]) (show YieldsIf _ _ _ _ (El X) _ from yieldsIf_load rfl 29 _ rfl (g8r5) rfl 29 _ _ (.tail _ (.tail _ (.head _))) Try.underlying29 rfl (info_El _)) hS ?_
            simp only [Act.put, List.setIfInBounds_toArray, List.set_cons_zero, List.set_cons_succ]
            refine wpSeq_wp rfl ?_
            go_simp
            refine (mul_v X X E1 _ lX lX HE1.out).mono ?_
            rintro e v1 ⟨rfl, b⟩
            replace hB := hB.trans (b.mono hB.size)
            replace hS := hS.below b
            replace Hr := Hr.below b
            replace Hq3 := Hq3.below b
            clear b
            show wpSeq _ _ _ _ _ _
            refine wpSeq_yield (S := Facts [.blk (g4r11) 29 (El_cells E0), .blk (G1) 23 (Iv .u8 l1), .blk (g8r5) 29 (El_cells X)]) (yieldsIf_move rfl _ rfl _ rfl) hS ?_
            simp only [Act.put, List.setIfInBounds_toArray, List.set_cons_zero, List.set_cons_succ]
            refine wpSeq_yield (S := Facts [.blk (g4r11) 29 (El_cells E0), .blk (G1) 23 (Iv .u8 l1), .blk (g8r5) 29 (El_cells X)]) (yieldsIf_move rfl _ rfl _ rfl) hS ?_
            simp only [Act.put, List.setIfInBounds_toArray, List.set_cons_zero, List.set_cons_succ]
            refine wpSeq_wp rfl ?_
            go_simp
            refine (rmul_v _ _ X X E1 _ Hr Hr HE1.out).mono ?_
            rintro e v2 ⟨r2, rfl, Hr2, b⟩
            replace hB := hB.trans (b.mono hB.size)
            replace hS := hS.below b
            replace Hr := Hr.below b
            replace Hq3 := Hq3.below b
            clear b
            show wpSeq _ _ _ _ _ _
            have A := hS.blkAt _ _ _ (.tail _ (.tail _ (.head _)))
            refine wpSeq_store_row rfl 29 _ _ rfl (g8r5) (El_cells E1) rfl rfl _ _ A (info_El _) rfl (El_one _) ?_
            try simp only [Act.put, List.setIfInBounds_toArray, List.set_cons_zero, List.set_cons_succ]
            have HX2 := A.row (El_cells E1)
            have HR2 := Hr2.rowAway A (El_cells E1)
            have HB2 := below_setRow hB hge (El_cells E1)
            clear A hS hB
            generalize World.setRow _ _ _ = W9 at *
            refine wpSeq_yield (S := fun _ => True) (yieldsIf_assign rfl _ rfl _ rfl) trivial ?_
            simp only [Act.put, List.setIfInBounds_toArray, List.set_cons_zero, List.set_cons_succ]
            refine wpSeq_nil ?_
            go_wp2
            exact ⟨⟨k + 1, E1, r2, by omega, by omega, rfl, rfl, lE1, HR2, HX2, HB2⟩, by simp [intOf]; omega⟩
          · obtain ⟨E1, hE1⟩ : ∃ r, r = X * E0 % pp := ⟨_, rfl⟩
            have lE1 : E1 < pp := hE1 ▸ Nat.mod_lt _ pp_pos
            have HE1 := Lib.hid hE1
            clear hE1
            have e5 : ((fk k : Nat) : Int).tmod 5 = 4 := by rw [Int.tmod_eq_emod_of_nonneg (by omega)]; omega
            have e6 : ((fk k : Nat) : Int) % 5 = 4 := by omega
            go_upto_region 13 with fail
            refine wp_region_seq ?_
            refine wpSeq_yield (S := Facts [.blk (g4r11) 29 (El_cells E0), .blk (G1) 23 (Iv .u8 l1), .blk (g8r5) 29 (El_cells X)]) (show YieldsIf _ _ _ _ (El X) _ from yieldsIf_load rfl 29 _ rfl (g8r5) rfl 29 _ _ (.tail _ (.tail _ (.head _))) Try.underlying29 rfl (info_El _)) hS ?_
            simp only [Act.put, List.setIfInBounds_toArray, List.set_cons_zero, List.set_cons_succ]
            refine wpSeq_yield (S := Facts [.blk (g4r11) 29 (El_cells E0), .blk (G1) 23 (Iv .u8 l1), .blk (g8r5) 29 (El_cells X)]) (show YieldsIf _ _ _ _ (El E0) _ from yieldsIf_load rfl 29 _ rfl (g4r11) rfl 29 _ _ (.head _) Try.underlying29 rfl (info_El _)) hS ?_
            simp only [Act.put, List.setIfInBounds_toArray, List.set_cons_zero, List.set_cons_succ]
            refine wpSeq_wp rfl ?_
            go_simp
            refine (mul_v X E0 E1 _ lX lE0 HE1.out).mono ?_
            rintro e v1 ⟨rfl, b⟩
            replace hB := hB.trans (b.mono hB.size)
            replace hS := hS.below b
            replace Hr := Hr.below b
            replace Hq3 := Hq3.below b
            clear b
            show wpSeq _ _ _ _ _ _
            refine wpSeq_yield (S := Facts [.blk (g4r11) 29 (El_cells E0), .blk (G1) 23 (Iv .u8 l1), .blk (g8r5) 29 (El_cells X)]) (yieldsIf_move rfl _ rfl _ rfl) hS ?_
            simp only [Act.put, List.setIfInBounds_toArray, List.set_cons_zero, List.set_cons_succ]
            refine wpSeq_yield (S := Facts [.blk (g4r11) 29 (El_cells E0), .blk (G1) 23 (Iv .u8 l1), .blk (g8r5) 29 (El_cells X)]) (yieldsIf_move rfl _ rfl _ rfl) hS ?_
            simp only [Act.put, List.setIfInBounds_toArray, List.set_cons_zero, List.set_cons_succ]
            refine wpSeq_wp rfl ?_
            go_simp
            refine (rmul_v _ _ X E0 E1 _ Hr Hq3 HE1.out).mono ?_
            rintro e v2 ⟨r2, rfl, Hr2, b⟩
            replace hB := hB.trans (b.mono hB.size)
            replace hS := hS.below b
            replace Hr := Hr.below b
            replace Hq3 := Hq3.below b
            clear b
            show wpSeq _ _ _ _ _ _
            have A := hS.blkAt _ _ _ (.tail _ (.tail _ (.head _)))
            refine wpSeq_store_row rfl 29 _ _ rfl (g8r5) (El_cells E1) rfl rfl _ _ A (info_El _) rfl (El_one _) ?_
            try simp only [Act.put, List.setIfInBounds_toArray, List.set_cons_zero, List.set_cons_succ]
            have HX2 := A.row (El_cells E1)
            have HR2 := Hr2.rowAway A (El_cells E1)
            have HB2 := below_setRow hB hge (El_cells E1)
            clear A hS hB
            generalize World.setRow _ _ _ = W9 at *
            refine wpSeq_yield (S := fun _ => True) (yieldsIf_assign rfl _ rfl _ rfl) trivial ?_
            simp only [Act.put, List.setIfInBounds_toArray, List.set_cons_zero, List.set_cons_succ]
            refine wpSeq_nil ?_
            go_wp2
            exact ⟨⟨k + 1, E1, r2, by omega, by omega, rfl, rfl, lE1, HR2, HX2, HB2⟩, by simp [intOf]; omega⟩
      · go_upto_region 23 with fail
        have hS : Facts [.blk g8r5 29 (El_cells X)] wr := Facts.cons (f := .blk _ _ _) HX Facts.nil
        refine wp_region_seq ?_
        refine wpSeq_yield (S := Facts [.blk (g8r5) 29 (El_cells X)]) (show YieldsIf _ _ _ _ (El X) _ from yieldsIf_load rfl 29 _ rfl (g8r5) rfl 29 _ _ (.head _) Try.underlying29 rfl (info_El _)) hS ?_
        simp only [Act.put, List.setIfInBounds_toArray, List.set_cons_zero, List.set_cons_succ]
        refine wpSeq_wp rfl ?_
        go_simp
        refine (bytes_v X _ lX).mono ?_
        rintro e v1 ⟨rfl, b⟩
        replace hB := hB.trans (b.mono hB.size)
        replace hS := hS.below b
        replace Hr := Hr.below b
        clear b
        show wpSeq _ _ _ _ _ _
        refine wpSeq_yield (S := Facts [.blk (g8r5) 29 (El_cells X)]) (yieldsIf_move rfl _ rfl _ rfl) hS ?_
        simp only [Act.put, List.setIfInBounds_toArray, List.set_cons_zero, List.set_cons_succ]
        refine wpSeq_wp rfl ?_
        go_simp
        refine (rkey_v _ X _ Hr).mono ?_
        rintro e v2 ⟨rfl, b⟩
        replace hB := hB.trans (b.mono hB.size)
        replace hS := hS.below b
        replace Hr := Hr.below b
        clear b
        show wpSeq _ _ _ _ _ _
        refine wpSeq_yield (S := Facts [.blk (g8r5) 29 (El_cells X)]) (yieldsIf_eql rfl 23 _ _ _ rfl _ _ rfl rfl eqg_api_Key true (key_eq _ _ rfl)) hS ?_
        simp only [Act.put, List.setIfInBounds_toArray, List.set_cons_zero, List.set_cons_succ]
        refine wpSeq_yield (S := Facts [.blk (g8r5) 29 (El_cells X)]) (yieldsIf_assign rfl _ rfl _ rfl) hS ?_
        simp only [Act.put, List.setIfInBounds_toArray, List.set_cons_zero, List.set_cons_succ]
        refine wpSeq_nil ?_
        go_wp2
        go_ret
        exact ⟨rfl, hB⟩
set_option maxHeartbeats 1000000 in
set_option maxRecDepth 100000 in
theorem chains_none (p0 q0 : Option Addr) (c m c' : Nat) (w : World) :
    Calls Try.prog 5 #[.slice p0 0 c, .slice q0 m c'] w fun e w' => e = .returned (.bool true) ∧ Below w.heap.size w w' := by
  go_enter Try.func5, Try.ntmps5
  go_wp2_with fail
  refine (awake_any _).mono ?_
  rintro e w1 ⟨rfl, hB⟩
  go_wp2
  go_ret
  exact ⟨rfl, hB⟩
theorem chains_any (v : Value) (n : Nat) (lL : Nat → List Int) (fL : Nat → Nat → Nat) (q0 : Option Addr) (m c' : Nat) (fk : Nat → Nat) (w : World) (hL : Ks w v n lL fL) (hK : Bs w (.slice q0 m c') m fk) :
    Calls Try.prog 5 #[v, .slice q0 m c'] w fun e w' => e = .returned (.bool true) ∧ Below w.heap.size w w' := by
  obtain ⟨p, c, rfl, hc, hc2, h0 | ⟨g, o, rfl, hky⟩⟩ := hL
  · subst h0
    exact chains_none p q0 c m c' w
  · rcases Nat.eq_zero_or_pos n with h0 | h0
    · subst h0
      exact chains_none _ q0 c m c' w
    · exact chains_n n c g o lL fL q0 m c' fk w h0 hc hc2 hky hK
end Go.Proofs.Ytknmmjnkafmoaaa
