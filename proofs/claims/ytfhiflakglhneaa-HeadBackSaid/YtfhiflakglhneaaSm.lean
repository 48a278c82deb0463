/- The law HeadBack, by contract (printed by gen12/sl.py). -/
import Derived.Test.YtfhiflakglhneaaSc
import Derived.Test.YtfhiflakglhneaaSl
import Derived.Test.YtfhiflakglhneaaSn
namespace Go.Proofs.Ytfhiflakglhneaa
open Go.RowKit

set_option maxHeartbeats 8000000 in
set_option maxRecDepth 100000 in
theorem hback_c (SC : ShortC) (FC : FullC) (PC : PutHC) (TC : TakeC) (s : Nat) (to fr : List Nat) (pn y z : Nat) (more : List Nat) (vm : Value) (hs : s < 256) (lt : to.length = 8) (lf : fr.length = 8) (bt : Bytes to) (bf : Bytes fr) (hp : pn < 18446744073709551616) (hy : y < 256) (hz : z < 256) (bm : Bytes more) (W : World) (hm : SB W vm more) : Calls Try.prog 6 #[.int .u8 (s : Int), .agg (Iv .u8 (NI to)), .agg (Iv .u8 (NI fr)), .int .u64 (pn : Int), .int .u8 (y : Int), .int .u8 (z : Int), vm] W fun e w' => e = .returned (.bool true) ∧ Below W.heap.size W w' := by
  have AW := Lib.hid (hawake_c SC FC)
  obtain ⟨pm, cm, rfl⟩ := hm.shape
  obtain ⟨mm, hmm⟩ : ∃ mm, more.length = mm := ⟨_, rfl⟩
  rw [hmm] at hm ⊢
  have HMM := Lib.hid hmm
  clear hmm
  obtain ⟨q, hq⟩ : ∃ q, s % 3 = q := ⟨_, rfl⟩
  obtain ⟨y4, hy4⟩ : ∃ y4, y % 4 = y4 := ⟨_, rfl⟩
  obtain ⟨k, hk⟩ : ∃ k, 1 + y4 = k := ⟨_, rfl⟩
  have e1 : (s : Int).tmod 3 = (q : Int) := by rw [Int.tmod_eq_emod_of_nonneg (by omega)]; omega
  have u1 : IntKind.u8.wrap (q : Int) = (q : Int) := by rw [IntKind.wrap_u8]; omega
  have u2 : IntKind.i64.wrap (q : Int) = (q : Int) := by rw [IntKind.wrap_i64]; omega
  have u3 : IntKind.i64.wrap (z : Int) = (z : Int) := by rw [IntKind.wrap_i64]; omega
  have e2 : (y : Int).tmod 4 = (y4 : Int) := by rw [Int.tmod_eq_emod_of_nonneg (by omega)]; omega
  have u5 : IntKind.u8.wrap (y4 : Int) = (y4 : Int) := by rw [IntKind.wrap_u8]; omega
  have u6 : IntKind.i64.wrap (y4 : Int) = (y4 : Int) := by rw [IntKind.wrap_i64]; omega
  have u7 : IntKind.i64.wrap (1 + (y4 : Int)) = (k : Int) := by rw [IntKind.wrap_i64]; omega
  have q3 : q ≤ 2 := by omega
  have k4 : 1 ≤ k ∧ k ≤ 4 := by omega
  obtain ⟨bs, hbs⟩ : ∃ bs, headB q to fr pn k z = bs := ⟨_, rfl⟩
  have EP := putF_right q q3 to fr lt lf pn k z k4 (by omega)
  have LB := headB_len q to fr lt lf pn k z k4
  have BB := headB_bytes q q3 to fr bt bf pn k z k4 (by omega)
  rw [hbs] at EP LB BB
  have TB : ∀ r : List Nat, z ≤ r.length → takeF (bs ++ r) = ⟨q, to, (if q = 2 then [] else fr), bs.length - k, (if q = 2 then (bs ++ r).length else bs.length + z), 0⟩ := fun r hr => by
    rw [← hbs]
    exact take_back q q3 to fr lt lf pn k z k4 (by omega) r hr
  have C1 := Lib.hid (fun vt vf W h1 h2 => PC (q : Int) to fr pn (k : Nat) (z : Int) vt vf W (by unfold i64_ok; omega) (by unfold i64_ok; omega) (by unfold i64_ok; omega) bt bf (by omega) (by omega) hp h1 h2)
  have C2 := Lib.hid (fun p n c hn W h => TC (bs ++ List.replicate z 0 ++ more) p n c ((BB.append (Bytes.replicate z (by decide))).append bm) hn W h)
  unfold PutPost at C1
  rw [EP] at C1
  rw [List.append_assoc, TB _ (by rw [List.length_append, List.length_replicate]; omega), ← List.append_assoc] at C2
  dsimp only [hdV, hdL] at C1 C2
  obtain ⟨L, hL⟩ : ∃ L, bs.length = L := ⟨_, rfl⟩
  obtain ⟨a, ha⟩ : ∃ a, L - k = a := ⟨_, rfl⟩
  obtain ⟨t, ht9⟩ : ∃ t, L + z = t := ⟨_, rfl⟩
  rw [hL] at LB C2
  rw [ha, ht9] at C2
  have l3 : (bs ++ List.replicate z 0 ++ more).length = L + z + mm := by rw [List.length_append, List.length_append, List.length_replicate, hL, HMM.out]
  rw [l3] at C2
  clear l3
  have C2 := Lib.hid (And.intro (fun h : q = 2 => by have := C2.out; rw [if_pos h, if_pos h] at this; exact this) (fun h : ¬ q = 2 => by have := C2.out; rw [if_neg h, if_neg h] at this; exact this))
  have HL := Lib.hid hL
  have u8 : IntKind.i64.wrap ((L : Int) + (z : Int)) = (t : Int) := by rw [IntKind.wrap_i64]; omega
  have u9 : IntKind.i64.wrap ((L : Int) - (k : Int)) = (a : Int) := by rw [IntKind.wrap_i64]; omega
  have LL := Lib.hid (show to.length = 8 ∧ fr.length = 8 by omega)
  replace hz := Lib.hid hz
  clear SC FC PC TC hq hbs EP BB TB hL ha ht9 hy4 hk hp bm bt bf lt lf
  go_enter Try.func6, Try.ntmps6
  go_upto_region 0 with fail
  rename_i aK
  refine wp_region_seq ?_
  refine wpSeq_wp rfl ?_
  unfold Oper.wp execOp
  go_simp
  refine wpSeq_wp rfl ?_
  unfold Oper.wp execOp
  go_simp
  refine wpSeq_yield (S := fun _ => True) (yieldsIf_assign rfl _ rfl (.bool false) rfl) trivial ?_
  simp only [AP]
  refine wpSeq_nil ?_
  refine aK _ _ ?_
  clear aK
  have A1 := BA.of_blk ((Blk.new W 39 (Iv .u8 (NI to))).alloc (.cells (Iv .u8 (NI fr)) 39))
  have A2 := BA.of_blk (Blk.new (W.alloc (.cells (Iv .u8 (NI to)) 39)) 39 (Iv .u8 (NI fr)))
  rw [size_alloc1] at A2
  have b := ((Below.refl W.heap.size W).alloc (Nat.le_refl _) (.cells (Iv .u8 (NI to)) 39)).alloc (by rw [size_alloc1]; omega) (.cells (Iv .u8 (NI fr)) 39)
  generalize World.alloc (World.alloc W _) _ = W1 at *
  go_upto_region 1 with fail
  rename_i aK
  refine wp_region_seq ?_
  refine wpSeq_wp rfl ?_
  unfold Oper.wp execOp
  go_simp
  refine (AW.out W1).mono ?_
  rintro _ W2 ⟨rfl, b2⟩
  replace A1 := A1.below b2
  replace A2 := A2.below b2
  replace b := b.trans (b2.mono b.size)
  clear AW b2
  go_simp
  have zW := Lib.hid (show W.heap.size + 1 < W2.heap.size from A2.blk)
  refine wpSeq_yield (S := fun _ => True) (v := .bool false) (Or.inl ⟨by rfl, fun w' hw' => by go_simp⟩) trivial ?_
  simp only [AP]
  refine wpSeq_nil ?_
  refine aK _ _ ?_
  clear aK
  replace hm := Lib.hid (hm.below b)
  by_cases l1 : 1000 < mm
  · skip
    go_upto_region 3 with fail
    rename_i aK
    refine wp_region_seq ?_
    refine wpSeq_yield (S := fun _ => True) (yieldsIf_move rfl _ rfl (.slice pm mm cm) rfl) trivial ?_
    simp only [AP]
    refine wpSeq_yield (S := fun _ => True) (v := .int .i64 (mm : Int)) (Or.inl ⟨by rfl, fun w' hw' => by go_simp⟩) trivial ?_
    simp only [AP]
    refine wpSeq_yield (S := fun _ => True) (v := .bool true) (Or.inl ⟨by rfl, fun w' hw' => by (go_simp; try omega)⟩) trivial ?_
    simp only [AP]
    refine wpSeq_nil ?_
    refine aK _ _ ?_
    clear aK
    go_wp2
    go_ret
    exact ⟨rfl, b⟩
  go_upto_region 3 with fail
  rename_i aK
  refine wp_region_seq ?_
  refine wpSeq_yield (S := fun _ => True) (yieldsIf_move rfl _ rfl (.slice pm mm cm) rfl) trivial ?_
  simp only [AP]
  refine wpSeq_yield (S := fun _ => True) (v := .int .i64 (mm : Int)) (Or.inl ⟨by rfl, fun w' hw' => by go_simp⟩) trivial ?_
  simp only [AP]
  refine wpSeq_yield (S := fun _ => True) (v := .bool false) (Or.inl ⟨by rfl, fun w' hw' => by (go_simp; try omega)⟩) trivial ?_
  simp only [AP]
  refine wpSeq_nil ?_
  refine aK _ _ ?_
  clear aK
  go_upto_region 5 with fail
  rename_i aK
  refine wp_region_S (S := fun _ => True) (by kernel_rfl) ?_
  refine wpAnyS_takeL 0 (v := .int .u8 (s : Int)) rfl (by kernel_rfl) (by kernel_rfl) (by kernel_rfl) (fun _ _ _ H => H) (yieldsIf_move rfl _ rfl (.int .u8 (s : Int)) rfl) trivial ?_
  simp only [AP]
  refine wpAnyS_takeL 1 (v := .int .u8 (q : Int)) rfl (by kernel_rfl) (by kernel_rfl) (by kernel_rfl) (fun _ _ _ H => H) (Or.inl ⟨by rfl, fun w' hw' => by (go_simp; try omega)⟩) trivial ?_
  simp only [AP]
  refine wpAnyS_takeL 2 (v := .int .i64 (q : Int)) rfl (by kernel_rfl) (by kernel_rfl) (by kernel_rfl) (fun _ _ _ H => H) (Or.inl ⟨by rfl, fun w' hw' => by go_simp⟩) trivial ?_
  simp only [AP]
  refine wpAnyS_takeL 3 (v := .slice (some ⟨W.heap.size, 0, none⟩) 8 8) rfl (by kernel_rfl) (by kernel_rfl) (by kernel_rfl) (fun _ _ _ H => H) (Or.inl ⟨by rfl, fun w' hw' => by go_simp⟩) trivial ?_
  simp only [AP]
  refine wpAnyS_takeL 4 (v := .slice (some ⟨W.heap.size + 1, 0, none⟩) 8 8) rfl (by kernel_rfl) (by kernel_rfl) (by kernel_rfl) (fun _ _ _ H => H) (Or.inl ⟨by rfl, fun w' hw' => by go_simp⟩) trivial ?_
  simp only [AP]
  refine wpAnyS_takeL 5 (v := .agg #[.int .i64 (q : Int), .slice (some ⟨W.heap.size, 0, none⟩) 8 8, .slice (some ⟨W.heap.size + 1, 0, none⟩) 8 8]) rfl (by kernel_rfl) (by kernel_rfl) (by kernel_rfl) (fun _ _ _ H => H) (Or.inl ⟨by rfl, fun w' hw' => by go_simp⟩) trivial ?_
  simp only [AP]
  refine gstep 6 rfl rfl (by kernel_rfl) ?_
  unfold Oper.wp execOp
  go_simp
  refine gstep 7 rfl rfl (by kernel_rfl) (wp_store_row 31 _ _ rfl W2.heap.size #[.int .i64 (q : Int), .slice (some ⟨W.heap.size, 0, none⟩) 8 8, .slice (some ⟨W.heap.size + 1, 0, none⟩) 8 8] rfl rfl _ _ (Blk.new _ _ _) info_hd rfl (hd_one _ _ _ _ _ _ _) ⟨trivial, ?_⟩)
  simp only [Act.put]
  refine wpAnyS_done (by kernel_rfl) ?_ _
  refine aK _ _ ?_
  clear aK
  have hb := below_setRow (below_drew ((Below.refl W2.heap.size W2).alloc (Nat.le_refl _) (.cells #[.int .i64 0, .slice none 0 0, .slice none 0 0] 31))) (Nat.le_refl _) #[.int .i64 (q : Int), .slice (some ⟨W.heap.size, 0, none⟩) 8 8, .slice (some ⟨W.heap.size + 1, 0, none⟩) 8 8]
  have K := ((Blk.new W2 31 #[.int .i64 0, .slice none 0 0, .slice none 0 0]).drew).row #[.int .i64 (q : Int), .slice (some ⟨W.heap.size, 0, none⟩) 8 8, .slice (some ⟨W.heap.size + 1, 0, none⟩) 8 8]
  have zz : W2.heap.size < (((W2.alloc (.cells #[.int .i64 0, .slice none 0 0, .slice none 0 0] 31)).drew).setRow W2.heap.size #[.int .i64 (q : Int), .slice (some ⟨W.heap.size, 0, none⟩) 8 8, .slice (some ⟨W.heap.size + 1, 0, none⟩) 8 8]).heap.size := by rw [setRow_size]; show W2.heap.size < (W2.alloc _).heap.size; rw [size_alloc1]; exact Nat.lt_succ_self _
  have z0 := b.size
  generalize World.setRow _ _ _ = W4 at *
  replace K : Blk W4 W2.heap.size 31 #[.int .i64 (q : Int), .slice (some ⟨W.heap.size, 0, none⟩) 8 8, .slice (some ⟨W.heap.size + 1, 0, none⟩) 8 8] := K
  replace A1 := A1.below hb
  replace A2 := A2.below hb
  replace hm := Lib.hid (hm.out.below hb)
  replace b := Lib.hid (b.trans (hb.mono b.size))
  have rg := K
  replace K := Lib.hid K
  have SA1 := Lib.hid (SB.of_ba' A1 LL.out.1.symm (by rw [LL.out.1]; exact Nat.le_refl 8))
  have SA2 := Lib.hid (SB.of_ba' A2 LL.out.2.symm (by rw [LL.out.2]; exact Nat.le_refl 8))
  clear hb A1 A2
  go_upto_region 6 with fail
  rename_i aK
  refine wp_region_seq ?_
  refine wpSeq_yield (S := fun _ => True) (yieldsIf_move rfl _ rfl (.int .u8 (y : Int)) rfl) trivial ?_
  simp only [AP]
  refine wpSeq_yield (S := fun _ => True) (v := .int .u8 (y4 : Int)) (Or.inl ⟨by rfl, fun w' hw' => by (go_simp; try omega)⟩) trivial ?_
  simp only [AP]
  refine wpSeq_yield (S := fun _ => True) (v := .int .i64 (y4 : Int)) (Or.inl ⟨by rfl, fun w' hw' => by go_simp⟩) trivial ?_
  simp only [AP]
  refine wpSeq_yield (S := fun _ => True) (v := .int .i64 (k : Int)) (Or.inl ⟨by rfl, fun w' hw' => by go_simp⟩) trivial ?_
  simp only [AP]
  refine wpSeq_yield (S := fun _ => True) (yieldsIf_assign rfl _ rfl (.int .i64 (k : Int)) rfl) trivial ?_
  simp only [AP]
  refine wpSeq_nil ?_
  refine aK _ _ ?_
  clear aK
  go_upto_region 7 with fail
  rename_i aK
  refine wp_region_seq ?_
  refine wpSeq_yield (S := fun w' => w' = W4) (yieldsIf_hd rfl _ rfl W2.heap.size rfl _ _ _ W4 rg) rfl ?_
  simp only [AP]
  refine wpSeq_yield (S := fun _ => True) (yieldsIf_move rfl _ rfl (.int .u64 (pn : Int)) rfl) trivial ?_
  simp only [AP]
  refine wpSeq_yield (S := fun _ => True) (yieldsIf_move rfl _ rfl (.int .i64 (k : Int)) rfl) trivial ?_
  simp only [AP]
  refine wpSeq_yield (S := fun _ => True) (yieldsIf_move rfl _ rfl (.int .u8 (z : Int)) rfl) trivial ?_
  simp only [AP]
  refine wpSeq_yield (S := fun _ => True) (v := .int .i64 (z : Int)) (Or.inl ⟨by rfl, fun w' hw' => by go_simp⟩) trivial ?_
  simp only [AP]
  refine wpSeq_wp rfl ?_
  unfold Oper.wp execOp
  go_simp
  refine (C1.out _ _ W4 SA1.out SA2.out).mono ?_
  rintro _ w5 ⟨v5, rfl, O5, b5⟩
  have o5 : Own1 W4.heap.size w5 v5 bs := ⟨O5, by rcases O5.row with ⟨_, h0⟩ | ⟨g, c, rfl, _⟩; exact absurd (congrArg List.length h0) (by have := HL.out; simp only [List.length_nil]; omega); rfl⟩
  obtain ⟨p5, c5, hv⟩ := O5.shape
  subst hv
  rw [HL.out] at o5 ⊢
  replace o5 := Lib.hid o5
  replace b5 := Lib.hid b5
  clear O5 C1 rg
  go_simp
  refine wpSeq_yield (S := fun _ => True) (yieldsIf_move rfl _ rfl (.tuple #[.slice p5 L c5, .int .i64 0]) rfl) trivial ?_
  simp only [AP]
  refine wpSeq_yield (S := fun _ => True) (v := .slice p5 L c5) (Or.inl ⟨by rfl, fun w' hw' => by go_simp⟩) trivial ?_
  simp only [AP]
  refine wpSeq_yield (S := fun _ => True) (v := .int .i64 0) (Or.inl ⟨by rfl, fun w' hw' => by go_simp⟩) trivial ?_
  simp only [AP]
  refine wpSeq_yield (S := fun _ => True) (yieldsIf_assign rfl _ rfl (.slice p5 L c5) rfl) trivial ?_
  simp only [AP]
  refine wpSeq_yield (S := fun _ => True) (yieldsIf_assign rfl _ rfl (.int .i64 0) rfl) trivial ?_
  simp only [AP]
  refine wpSeq_nil ?_
  refine aK _ _ ?_
  clear aK
  go_upto_region 8 with fail
  rename_i aK
  refine wp_region_seq ?_
  refine wpSeq_yield (S := fun _ => True) (yieldsIf_move rfl _ rfl (.slice p5 L c5) rfl) trivial ?_
  simp only [AP]
  refine wpSeq_yield (S := fun _ => True) (v := .int .i64 (L : Int)) (Or.inl ⟨by rfl, fun w' hw' => by go_simp⟩) trivial ?_
  simp only [AP]
  refine wpSeq_yield (S := fun _ => True) (yieldsIf_move rfl _ rfl (.int .u8 (z : Int)) rfl) trivial ?_
  simp only [AP]
  refine wpSeq_yield (S := fun _ => True) (v := .int .i64 (z : Int)) (Or.inl ⟨by rfl, fun w' hw' => by go_simp⟩) trivial ?_
  simp only [AP]
  refine wpSeq_yield (S := fun _ => True) (v := .int .i64 (t : Int)) (Or.inl ⟨by rfl, fun w' hw' => by go_simp⟩) trivial ?_
  simp only [AP]
  refine wpSeq_yield (S := fun _ => True) (yieldsIf_assign rfl _ rfl (.int .i64 (t : Int)) rfl) trivial ?_
  simp only [AP]
  refine wpSeq_nil ?_
  refine aK _ _ ?_
  clear aK
  obtain ⟨v6, w6, hr6, o6, b6⟩ := own1_bytes8 29 z hz.out o5.out (by have := HL.out; have := hz.out; omega) b5.out b5.out.size
  obtain ⟨v7, w7, hr7, o7, b7⟩ := own1_bytes 29 (.slice pm mm cm) more o6 (hm.out.below b6) (by rw [List.length_append, List.length_replicate]; have := HL.out; have := HMM.out; have := hz.out; omega) b6 b6.size
  clear o5 o6 b5 b6
  go_upto_region 9 with fail
  rename_i aK
  refine wp_region_seq ?_
  refine wpSeq_yield (S := fun _ => True) (yieldsIf_move rfl _ rfl (.slice p5 L c5) rfl) trivial ?_
  simp only [AP]
  refine wpSeq_yield (S := fun _ => True) (yieldsIf_move rfl _ rfl (.int .u8 (z : Int)) rfl) trivial ?_
  simp only [AP]
  refine wpSeq_wp rfl (wp_append_run _ _ _ _ rfl _ _ rfl rfl v6 w6 hr6 ?_)
  simp only [AP]
  refine wpSeq_yield (S := fun _ => True) (yieldsIf_move rfl _ rfl (.slice pm mm cm) rfl) trivial ?_
  simp only [AP]
  refine wpSeq_wp rfl (wp_append_run _ _ _ _ rfl _ _ rfl rfl v7 w7 hr7 ?_)
  simp only [AP]
  refine wpSeq_yield (S := fun _ => True) (yieldsIf_assign rfl _ rfl (v7) rfl) trivial ?_
  simp only [AP]
  refine wpSeq_nil ?_
  refine aK _ _ ?_
  clear aK
  clear hr6 hr7
  obtain ⟨g7, c7, hv, hg7, hc7, _⟩ := o7.slice
  have G7 := Lib.hid (show W2.heap.size < g7 by omega)
  clear hg7
  have LA : (bs ++ List.replicate z 0 ++ more).length = (L + z + mm) := by rw [List.length_append, List.length_append, List.length_replicate, HL.out, HMM.out]
  rw [LA] at hv hc7
  subst hv
  have SQ := Lib.hid (show SB w7 (.slice (some ⟨g7, 0, none⟩) (L + z + mm) c7) (bs ++ List.replicate z 0 ++ more) from o7.own.sb)
  replace K := Lib.hid (K.out.below' b7)
  replace SA1 := Lib.hid (SA1.out.below b7)
  replace SA2 := Lib.hid (SA2.out.below b7)
  replace zz : W2.heap.size < w7.heap.size := by have := b7.size; omega
  replace b := Lib.hid (b.out.trans (b7.mono b.out.size))
  have x0 : w7.cell? ⟨W2.heap.size, 0, none⟩ = some (.int .i64 (q : Int)) := K.out.cell 0
  clear o7 b7 hm
  by_cases hq2 : q = 2
  · skip
    subst q
    have C2 := Lib.hid (C2.out.1 rfl)
    have x2 : w7.cell? ⟨W2.heap.size, 2, none⟩ = some (.slice (some ⟨W.heap.size + 1, 0, none⟩) 8 8) := K.out.cell 2
    have f2 := K.out.frozen 2
    go_upto_region 10 with fail
    rename_i aK
    refine wp_region_seq ?_
    refine wpSeq_yield (S := fun _ => True) (v := .pointer (some ⟨W2.heap.size, 0, none⟩)) (Or.inl ⟨by rfl, fun w' hw' => by go_simp⟩) trivial ?_
    simp only [AP]
    refine wpSeq_yield (S := fun w' => w' = w7) (v := .int .i64 ((2 : Nat) : Int)) (Or.inl ⟨by rfl, fun w' hw' => by (rw [hw']; go_simp)⟩) rfl ?_
    simp only [AP]
    refine wpSeq_yield (S := fun _ => True) (v := .bool true) (Or.inl ⟨by rfl, fun w' hw' => by go_simp⟩) trivial ?_
    simp only [AP]
    refine wpSeq_nil ?_
    refine aK _ _ ?_
    clear aK
    go_upto_region 11 with fail
    rename_i aK
    refine wp_region_seq ?_
    refine wpSeq_yield (S := fun _ => True) (v := .pointer (some ⟨W2.heap.size, 2, none⟩)) (Or.inl ⟨by rfl, fun w' hw' => by go_simp⟩) trivial ?_
    simp only [AP]
    refine wpSeq_wp rfl ?_
    unfold Oper.wp execOp
    go_simp
    refine wpSeq_nil ?_
    refine aK _ _ ?_
    clear aK
    have hb : Below (W2.heap.size) w7 (w7.setCell ⟨W2.heap.size, 2, none⟩ (.slice none 0 0)) := ⟨rfl, rfl, rfl, by simp, fun k hk => heap_setCell_other w7 _ k _ (by show k ≠ W2.heap.size; omega)⟩
    replace b := Lib.hid (b.out.trans (hb.mono z0))
    replace K := Lib.hid (K.out.set 2 (.slice none 0 0))
    have n1 : ∀ g o n c, Value.slice (some ⟨W.heap.size, 0, none⟩) 8 8 = .slice (some ⟨g, o, none⟩) n c → g ≠ W2.heap.size := by
      intro g o n c e
      simp only [Value.slice.injEq, Option.some.injEq, Addr.mk.injEq] at e
      have := zW.out
      omega
    have n2 : ∀ g o n c, Value.slice (some ⟨W.heap.size + 1, 0, none⟩) 8 8 = .slice (some ⟨g, o, none⟩) n c → g ≠ W2.heap.size := by
      intro g o n c e
      simp only [Value.slice.injEq, Option.some.injEq, Addr.mk.injEq] at e
      have := zW.out
      omega
    replace SA1 := Lib.hid (sb_set SA1.out n1 2 (.slice none 0 0))
    replace SA2 := Lib.hid (sb_set SA2.out n2 2 (.slice none 0 0))
    replace SQ := Lib.hid (sb_set (a := W2.heap.size) SQ.out (by
      intro g o n c e
      simp only [Value.slice.injEq, Option.some.injEq, Addr.mk.injEq] at e
      have := G7.out
      omega) 2 (.slice none 0 0))
    replace zz : W2.heap.size < (w7.setCell ⟨W2.heap.size, 2, none⟩ (.slice none 0 0)).heap.size := by simpa using zz
    clear hb x0 x2 f2 n1 n2
    generalize World.setCell w7 _ _ = w8 at *
    go_upto_region 12 with fail
    rename_i aK
    refine wp_region_seq ?_
    refine wpSeq_yield (S := fun _ => True) (yieldsIf_move rfl _ rfl (.slice (some ⟨g7, 0, none⟩) (L + z + mm) c7) rfl) trivial ?_
    simp only [AP]
    refine wpSeq_yield (S := fun _ => True) (v := .int .i64 ((L + z + mm) : Int)) (Or.inl ⟨by rfl, fun w' hw' => by go_simp⟩) trivial ?_
    simp only [AP]
    refine wpSeq_yield (S := fun _ => True) (yieldsIf_assign rfl _ rfl (.int .i64 ((L + z + mm) : Int)) rfl) trivial ?_
    simp only [AP]
    refine wpSeq_nil ?_
    refine (by assumption : ∀ (a : Act) (w : World), _ → _) _ _ ?_
    go_upto_region 13 with fail
    rename_i aK
    refine wp_region_seq ?_
    refine wpSeq_yield (S := fun _ => True) (yieldsIf_move rfl _ rfl (.slice (some ⟨g7, 0, none⟩) (L + z + mm) c7) rfl) trivial ?_
    simp only [AP]
    refine wpSeq_wp rfl ?_
    unfold Oper.wp execOp
    go_simp
    refine (C2.out _ (L + z + mm) c7 (by have := hz.out; omega) w8 SQ.out).mono ?_
    rintro _ w9 ⟨vt, vf, rfl, s7, s8, b9⟩
    obtain ⟨p7, c9, rfl⟩ := s7.shape
    obtain ⟨p8, c8, rfl⟩ := s8.shape
    rw [LL.out.1] at s7 ⊢
    replace s8 : SB w9 (.slice p8 0 c8) [] := s8
    replace SA1 := Lib.hid (SA1.out.below b9)
    replace SA2 := Lib.hid (SA2.out.below b9)
    replace K := Lib.hid (K.out.below' b9)
    replace zz : W2.heap.size < w9.heap.size := by have := b9.size; omega
    replace b := Lib.hid (b.out.trans (b9.mono b.out.size))
    clear C2 b9
    go_simp
    refine wpSeq_yield (S := fun _ => True) (yieldsIf_move rfl _ rfl (.tuple #[.agg #[.int .i64 ((2 : Nat) : Int), .slice p7 8 c9, .slice p8 0 c8], .int .i64 (a : Int), .int .i64 ((L + z + mm) : Int), .int .i64 0]) rfl) trivial ?_
    simp only [AP]
    refine wpSeq_yield (S := fun _ => True) (v := .agg #[.int .i64 ((2 : Nat) : Int), .slice p7 8 c9, .slice p8 0 c8]) (Or.inl ⟨by rfl, fun w' hw' => by go_simp⟩) trivial ?_
    simp only [AP]
    refine wpSeq_yield (S := fun _ => True) (v := .int .i64 (a : Int)) (Or.inl ⟨by rfl, fun w' hw' => by go_simp⟩) trivial ?_
    simp only [AP]
    refine wpSeq_yield (S := fun _ => True) (v := .int .i64 ((L + z + mm) : Int)) (Or.inl ⟨by rfl, fun w' hw' => by go_simp⟩) trivial ?_
    simp only [AP]
    refine wpSeq_yield (S := fun _ => True) (v := .int .i64 0) (Or.inl ⟨by rfl, fun w' hw' => by go_simp⟩) trivial ?_
    simp only [AP]
    refine wpSeq_alloc 31 #[.int .i64 0, .slice none 0 0, .slice none 0 0] rfl (fun W => by go_simp) ?_
    simp only [AP]
    refine wpSeq_store_row rfl 31 _ _ rfl (w9.heap.size) #[.int .i64 ((2 : Nat) : Int), .slice p7 8 c9, .slice p8 0 c8] rfl rfl _ _ (Blk.new _ _ _) info_hd rfl (hd_one _ _ _ _ _ _ _) ?_
    try simp only [Act.put]
    refine wpSeq_yield (S := fun _ => True) (yieldsIf_assign rfl _ rfl (.int .i64 (a : Int)) rfl) trivial ?_
    simp only [AP]
    refine wpSeq_yield (S := fun _ => True) (yieldsIf_assign rfl _ rfl (.int .i64 ((L + z + mm) : Int)) rfl) trivial ?_
    simp only [AP]
    refine wpSeq_yield (S := fun _ => True) (yieldsIf_assign rfl _ rfl (.int .i64 0) rfl) trivial ?_
    simp only [AP]
    refine wpSeq_nil ?_
    refine (by assumption : ∀ (a : Act) (w : World), _ → _) _ _ ?_
    have hb := below_setRow ((Below.refl w9.heap.size w9).alloc (Nat.le_refl _) (.cells #[.int .i64 0, .slice none 0 0, .slice none 0 0] 31)) (Nat.le_refl _) #[.int .i64 ((2 : Nat) : Int), .slice p7 8 c9, .slice p8 0 c8]
    have K9 := (Blk.new w9 31 #[.int .i64 0, .slice none 0 0, .slice none 0 0]).row #[.int .i64 ((2 : Nat) : Int), .slice p7 8 c9, .slice p8 0 c8]
    generalize World.setRow _ _ _ = WA at *
    replace K9 : Blk WA w9.heap.size 31 #[.int .i64 ((2 : Nat) : Int), .slice p7 8 c9, .slice p8 0 c8] := K9
    have rh := K.out.below' hb
    replace b := Lib.hid (b.out.trans (hb.mono b.out.size))
    have CS := Lib.hid (same_c ((2 : Nat) : Int) to [] _ _ _ _ WA (s7.below hb) (s8.below hb) (SA1.out.below hb) (SB.nil WA none 0))
    have rg := K9
    clear hb s7 s8 K K9 SA1 SA2
    go_upto_region 14 with fail
    rename_i aK
    refine wp_region_seq ?_
    refine wpSeq_yield (S := fun _ => True) (yieldsIf_move rfl _ rfl (.int .i64 0) rfl) trivial ?_
    simp only [AP]
    refine wpSeq_yield (S := fun _ => True) (v := .bool true) (Or.inl ⟨by rfl, fun w' hw' => by go_simp⟩) trivial ?_
    simp only [AP]
    refine wpSeq_yield (S := fun _ => True) (yieldsIf_move rfl _ rfl (.bool true) rfl) trivial ?_
    simp only [AP]
    refine wpSeq_yield (S := fun _ => True) (yieldsIf_move rfl _ rfl (.int .i64 0) rfl) trivial ?_
    simp only [AP]
    refine wpSeq_yield (S := fun _ => True) (v := .bool true) (Or.inl ⟨by rfl, fun w' hw' => by go_simp⟩) trivial ?_
    simp only [AP]
    refine wpSeq_yield (S := fun _ => True) (yieldsIf_pick rfl _ _ _ rfl true rfl (.bool true) rfl) trivial ?_
    simp only [AP]
    refine wpSeq_yield (S := fun _ => True) (yieldsIf_move rfl _ rfl (.bool true) rfl) trivial ?_
    simp only [AP]
    refine wpSeq_yield (S := fun w' => w' = WA) (yieldsIf_hd rfl _ rfl w9.heap.size rfl _ _ _ WA rg) rfl ?_
    simp only [AP]
    refine wpSeq_yield (S := fun w' => w' = WA) (yieldsIf_hd rfl _ rfl W2.heap.size rfl _ _ _ WA rh) rfl ?_
    simp only [AP]
    refine wpSeq_wp rfl ?_
    unfold Oper.wp execOp
    go_simp
    refine CS.out.mono ?_
    rintro _ wB ⟨rfl, bB⟩
    replace b := Lib.hid (b.out.trans (bB.mono b.out.size))
    clear bB CS rg rh
    go_simp
    refine wpSeq_yield (S := fun _ => True) (yieldsIf_pick rfl _ _ _ rfl true rfl (.bool true) rfl) trivial ?_
    simp only [AP]
    refine wpSeq_yield (S := fun _ => True) (yieldsIf_move rfl _ rfl (.bool true) rfl) trivial ?_
    simp only [AP]
    refine wpSeq_yield (S := fun _ => True) (yieldsIf_move rfl _ rfl (.int .i64 (a : Int)) rfl) trivial ?_
    simp only [AP]
    refine wpSeq_yield (S := fun _ => True) (yieldsIf_move rfl _ rfl (.slice p5 L c5) rfl) trivial ?_
    simp only [AP]
    refine wpSeq_yield (S := fun _ => True) (v := .int .i64 (L : Int)) (Or.inl ⟨by rfl, fun w' hw' => by go_simp⟩) trivial ?_
    simp only [AP]
    refine wpSeq_yield (S := fun _ => True) (yieldsIf_move rfl _ rfl (.int .i64 (k : Int)) rfl) trivial ?_
    simp only [AP]
    refine wpSeq_yield (S := fun _ => True) (v := .int .i64 (a : Int)) (Or.inl ⟨by rfl, fun w' hw' => by go_simp⟩) trivial ?_
    simp only [AP]
    refine wpSeq_yield (S := fun _ => True) (v := .bool true) (Or.inl ⟨by rfl, fun w' hw' => by go_simp⟩) trivial ?_
    simp only [AP]
    refine wpSeq_yield (S := fun _ => True) (yieldsIf_pick rfl _ _ _ rfl true rfl (.bool true) rfl) trivial ?_
    simp only [AP]
    refine wpSeq_yield (S := fun _ => True) (yieldsIf_move rfl _ rfl (.bool true) rfl) trivial ?_
    simp only [AP]
    refine wpSeq_yield (S := fun _ => True) (yieldsIf_move rfl _ rfl (.int .i64 ((L + z + mm) : Int)) rfl) trivial ?_
    simp only [AP]
    refine wpSeq_yield (S := fun _ => True) (yieldsIf_move rfl _ rfl (.int .i64 ((L + z + mm) : Int)) rfl) trivial ?_
    simp only [AP]
    refine wpSeq_yield (S := fun _ => True) (v := .bool true) (Or.inl ⟨by rfl, fun w' hw' => by go_simp⟩) trivial ?_
    simp only [AP]
    refine wpSeq_yield (S := fun _ => True) (yieldsIf_pick rfl _ _ _ rfl true rfl (.bool true) rfl) trivial ?_
    simp only [AP]
    refine wpSeq_yield (S := fun _ => True) (yieldsIf_assign rfl _ rfl (.bool true) rfl) trivial ?_
    simp only [AP]
    refine wpSeq_nil ?_
    refine (by assumption : ∀ (a : Act) (w : World), _ → _) _ _ ?_
    go_wp2
    go_ret
    exact ⟨rfl, b.out⟩
  have C2 := Lib.hid (C2.out.2 hq2)
  have g2 : ¬ (q : Int) = 2 := by omega
  go_upto_region 10 with fail
  rename_i aK
  refine wp_region_seq ?_
  refine wpSeq_yield (S := fun _ => True) (v := .pointer (some ⟨W2.heap.size, 0, none⟩)) (Or.inl ⟨by rfl, fun w' hw' => by go_simp⟩) trivial ?_
  simp only [AP]
  refine wpSeq_yield (S := fun w' => w' = w7) (v := .int .i64 (q : Int)) (Or.inl ⟨by rfl, fun w' hw' => by (rw [hw']; go_simp)⟩) rfl ?_
  simp only [AP]
  refine wpSeq_yield (S := fun _ => True) (v := .bool false) (Or.inl ⟨by rfl, fun w' hw' => by (go_simp; try omega)⟩) trivial ?_
  simp only [AP]
  refine wpSeq_nil ?_
  refine aK _ _ ?_
  clear aK
  clear x0
  go_upto_region 13 with fail
  rename_i aK
  refine wp_region_seq ?_
  refine wpSeq_yield (S := fun _ => True) (yieldsIf_move rfl _ rfl (.slice (some ⟨g7, 0, none⟩) (L + z + mm) c7) rfl) trivial ?_
  simp only [AP]
  refine wpSeq_wp rfl ?_
  unfold Oper.wp execOp
  go_simp
  refine (C2.out _ (L + z + mm) c7 (by have := hz.out; omega) w7 SQ.out).mono ?_
  rintro _ w9 ⟨vt, vf, rfl, s7, s8, b9⟩
  obtain ⟨p7, c9, rfl⟩ := s7.shape
  obtain ⟨p8, c8, rfl⟩ := s8.shape
  rw [LL.out.1] at s7 ⊢
  rw [LL.out.2] at s8 ⊢
  replace SA1 := Lib.hid (SA1.out.below b9)
  replace SA2 := Lib.hid (SA2.out.below b9)
  replace K := Lib.hid (K.out.below' b9)
  replace zz : W2.heap.size < w9.heap.size := by have := b9.size; omega
  replace b := Lib.hid (b.out.trans (b9.mono b.out.size))
  clear C2 b9
  go_simp
  refine wpSeq_yield (S := fun _ => True) (yieldsIf_move rfl _ rfl (.tuple #[.agg #[.int .i64 (q : Int), .slice p7 8 c9, .slice p8 8 c8], .int .i64 (a : Int), .int .i64 (t : Int), .int .i64 0]) rfl) trivial ?_
  simp only [AP]
  refine wpSeq_yield (S := fun _ => True) (v := .agg #[.int .i64 (q : Int), .slice p7 8 c9, .slice p8 8 c8]) (Or.inl ⟨by rfl, fun w' hw' => by go_simp⟩) trivial ?_
  simp only [AP]
  refine wpSeq_yield (S := fun _ => True) (v := .int .i64 (a : Int)) (Or.inl ⟨by rfl, fun w' hw' => by go_simp⟩) trivial ?_
  simp only [AP]
  refine wpSeq_yield (S := fun _ => True) (v := .int .i64 (t : Int)) (Or.inl ⟨by rfl, fun w' hw' => by go_simp⟩) trivial ?_
  simp only [AP]
  refine wpSeq_yield (S := fun _ => True) (v := .int .i64 0) (Or.inl ⟨by rfl, fun w' hw' => by go_simp⟩) trivial ?_
  simp only [AP]
  refine wpSeq_alloc 31 #[.int .i64 0, .slice none 0 0, .slice none 0 0] rfl (fun W => by go_simp) ?_
  simp only [AP]
  refine wpSeq_store_row rfl 31 _ _ rfl (w9.heap.size) #[.int .i64 (q : Int), .slice p7 8 c9, .slice p8 8 c8] rfl rfl _ _ (Blk.new _ _ _) info_hd rfl (hd_one _ _ _ _ _ _ _) ?_
  try simp only [Act.put]
  refine wpSeq_yield (S := fun _ => True) (yieldsIf_assign rfl _ rfl (.int .i64 (a : Int)) rfl) trivial ?_
  simp only [AP]
  refine wpSeq_yield (S := fun _ => True) (yieldsIf_assign rfl _ rfl (.int .i64 (t : Int)) rfl) trivial ?_
  simp only [AP]
  refine wpSeq_yield (S := fun _ => True) (yieldsIf_assign rfl _ rfl (.int .i64 0) rfl) trivial ?_
  simp only [AP]
  refine wpSeq_nil ?_
  refine (by assumption : ∀ (a : Act) (w : World), _ → _) _ _ ?_
  have hb := below_setRow ((Below.refl w9.heap.size w9).alloc (Nat.le_refl _) (.cells #[.int .i64 0, .slice none 0 0, .slice none 0 0] 31)) (Nat.le_refl _) #[.int .i64 (q : Int), .slice p7 8 c9, .slice p8 8 c8]
  have K9 := (Blk.new w9 31 #[.int .i64 0, .slice none 0 0, .slice none 0 0]).row #[.int .i64 (q : Int), .slice p7 8 c9, .slice p8 8 c8]
  generalize World.setRow _ _ _ = WA at *
  replace K9 : Blk WA w9.heap.size 31 #[.int .i64 (q : Int), .slice p7 8 c9, .slice p8 8 c8] := K9
  have rh := K.out.below' hb
  replace b := Lib.hid (b.out.trans (hb.mono b.out.size))
  have CS := Lib.hid (same_c (q : Int) to fr _ _ _ _ WA (s7.below hb) (s8.below hb) (SA1.out.below hb) (SA2.out.below hb))
  have rg := K9
  clear hb s7 s8 K K9 SA1 SA2
  go_upto_region 14 with fail
  rename_i aK
  refine wp_region_seq ?_
  refine wpSeq_yield (S := fun _ => True) (yieldsIf_move rfl _ rfl (.int .i64 0) rfl) trivial ?_
  simp only [AP]
  refine wpSeq_yield (S := fun _ => True) (v := .bool true) (Or.inl ⟨by rfl, fun w' hw' => by go_simp⟩) trivial ?_
  simp only [AP]
  refine wpSeq_yield (S := fun _ => True) (yieldsIf_move rfl _ rfl (.bool true) rfl) trivial ?_
  simp only [AP]
  refine wpSeq_yield (S := fun _ => True) (yieldsIf_move rfl _ rfl (.int .i64 0) rfl) trivial ?_
  simp only [AP]
  refine wpSeq_yield (S := fun _ => True) (v := .bool true) (Or.inl ⟨by rfl, fun w' hw' => by go_simp⟩) trivial ?_
  simp only [AP]
  refine wpSeq_yield (S := fun _ => True) (yieldsIf_pick rfl _ _ _ rfl true rfl (.bool true) rfl) trivial ?_
  simp only [AP]
  refine wpSeq_yield (S := fun _ => True) (yieldsIf_move rfl _ rfl (.bool true) rfl) trivial ?_
  simp only [AP]
  refine wpSeq_yield (S := fun w' => w' = WA) (yieldsIf_hd rfl _ rfl w9.heap.size rfl _ _ _ WA rg) rfl ?_
  simp only [AP]
  refine wpSeq_yield (S := fun w' => w' = WA) (yieldsIf_hd rfl _ rfl W2.heap.size rfl _ _ _ WA rh) rfl ?_
  simp only [AP]
  refine wpSeq_wp rfl ?_
  unfold Oper.wp execOp
  go_simp
  refine CS.out.mono ?_
  rintro _ wB ⟨rfl, bB⟩
  replace b := Lib.hid (b.out.trans (bB.mono b.out.size))
  clear bB CS rg rh
  go_simp
  refine wpSeq_yield (S := fun _ => True) (yieldsIf_pick rfl _ _ _ rfl true rfl (.bool true) rfl) trivial ?_
  simp only [AP]
  refine wpSeq_yield (S := fun _ => True) (yieldsIf_move rfl _ rfl (.bool true) rfl) trivial ?_
  simp only [AP]
  refine wpSeq_yield (S := fun _ => True) (yieldsIf_move rfl _ rfl (.int .i64 (a : Int)) rfl) trivial ?_
  simp only [AP]
  refine wpSeq_yield (S := fun _ => True) (yieldsIf_move rfl _ rfl (.slice p5 L c5) rfl) trivial ?_
  simp only [AP]
  refine wpSeq_yield (S := fun _ => True) (v := .int .i64 (L : Int)) (Or.inl ⟨by rfl, fun w' hw' => by go_simp⟩) trivial ?_
  simp only [AP]
  refine wpSeq_yield (S := fun _ => True) (yieldsIf_move rfl _ rfl (.int .i64 (k : Int)) rfl) trivial ?_
  simp only [AP]
  refine wpSeq_yield (S := fun _ => True) (v := .int .i64 (a : Int)) (Or.inl ⟨by rfl, fun w' hw' => by go_simp⟩) trivial ?_
  simp only [AP]
  refine wpSeq_yield (S := fun _ => True) (v := .bool true) (Or.inl ⟨by rfl, fun w' hw' => by go_simp⟩) trivial ?_
  simp only [AP]
  refine wpSeq_yield (S := fun _ => True) (yieldsIf_pick rfl _ _ _ rfl true rfl (.bool true) rfl) trivial ?_
  simp only [AP]
  refine wpSeq_yield (S := fun _ => True) (yieldsIf_move rfl _ rfl (.bool true) rfl) trivial ?_
  simp only [AP]
  refine wpSeq_yield (S := fun _ => True) (yieldsIf_move rfl _ rfl (.int .i64 (t : Int)) rfl) trivial ?_
  simp only [AP]
  refine wpSeq_yield (S := fun _ => True) (yieldsIf_move rfl _ rfl (.int .i64 (t : Int)) rfl) trivial ?_
  simp only [AP]
  refine wpSeq_yield (S := fun _ => True) (v := .bool true) (Or.inl ⟨by rfl, fun w' hw' => by go_simp⟩) trivial ?_
  simp only [AP]
  refine wpSeq_yield (S := fun _ => True) (yieldsIf_pick rfl _ _ _ rfl true rfl (.bool true) rfl) trivial ?_
  simp only [AP]
  refine wpSeq_yield (S := fun _ => True) (yieldsIf_assign rfl _ rfl (.bool true) rfl) trivial ?_
  simp only [AP]
  refine wpSeq_nil ?_
  refine (by assumption : ∀ (a : Act) (w : World), _ → _) _ _ ?_
  go_wp2
  go_ret
  exact ⟨rfl, b.out⟩
end Go.Proofs.Ytfhiflakglhneaa
