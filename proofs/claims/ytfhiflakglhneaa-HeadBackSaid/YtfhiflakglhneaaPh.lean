/- The program's head: long ones, the bit 40 not set (printed by gen12/pg.py). -/
import Derived.Test.YtfhiflakglhneaaPg
namespace Go.Proofs.Ytfhiflakglhneaa
open Go.RowKit

set_option maxHeartbeats 8000000 in
set_option maxRecDepth 100000 in
theorem long_a0 (B : Nat) (p : Option Addr) (b : List Nat) (W : World) (h : RM B W p b 0) (x1 l1 : List Nat) (c1 : Nat) (h1 : tkS 1 b 0 = (x1, l1, c1)) (hy : x1.getD 0 0 / 64 % 2 = 0 ∧ 128 ≤ x1.getD 0 0 ∧ x1.getD 0 0 / 32 % 2 = 0) : Calls Try.prog 21 #[.agg #[.pointer p]] W (HeadPost B p b W) := by
  have hB := h.lt
  have bb := rm_bytes h
  have BM := Lib.hid (fun w h hB => byte_m B p b 0 w h hB)
  rw [show tookS 1 b 0 = tkS 1 b 0 from rfl, h1] at BM
  dsimp only at BM
  have y256 : x1.getD 0 0 < 256 := by
    have e : x1 = (tkS 1 b 0).1 := by rw [h1]
    rw [e]
    exact tk_byte b bb
  obtain ⟨y, hyy⟩ : ∃ y, x1.getD 0 0 = y := ⟨_, rfl⟩
  have E1 := Lib.hid (And.intro h1 hyy)
  rw [hyy] at BM y256 hy
  have AB := and_bits y y256
  have A64 : bits BinOp.and IntKind.u8 (y : Int) 64 = 0 := by rw [AB.1]; omega
  have A128 : bits BinOp.and IntKind.u8 (y : Int) 128 = 128 := by rw [AB.2.1]; omega
  have A16 := AB.2.2.1
  have A32 := AB.2.2.2
  replace A32 : bits BinOp.and IntKind.u8 (y : Int) 32 = 0 := by rw [A32]; omega
  have HY := Lib.hid hy
  clear AB h1 hyy bb y256 hy
  go_enter Try.func21, Try.ntmps21
  go_upto_region 0 with fail
  rename_i aK
  refine wp_region_seq ?_
  refine wpSeq_wp rfl ?_
  unfold Oper.wp execOp
  go_simp
  refine wpSeq_wp rfl ?_
  unfold Oper.wp execOp
  go_simp
  refine wpSeq_yield (S := fun _ => True) (yieldsIf_assign rfl _ rfl (.int .i64 0) rfl) trivial ?_
  simp only [AP]
  refine wpSeq_nil ?_
  refine aK _ _ ?_
  clear aK
  have b0 := ((Below.refl W.heap.size W).alloc (Nat.le_refl _) (.cells #[.pointer p] 51)).alloc (by rw [size_alloc1]; omega) (.cells #[.int .i64 0, .slice none 0 0, .slice none 0 0] 31)
  have RES := Blk.new (W.alloc (.cells #[.pointer p] 51)) 31 #[.int .i64 0, .slice none 0 0, .slice none 0 0]
  rw [size_alloc1] at RES
  have H := Lib.hid (HS.mk (h.below b0) hB ((Blk.new W 51 #[.pointer p]).alloc (.cells #[.int .i64 0, .slice none 0 0, .slice none 0 0] 31)) (gb_below b0 _))
  replace RES := Lib.hid RES
  have neR := Lib.hid (show W.heap.size + 1 ≠ B by omega)
  generalize World.alloc (World.alloc W _) _ = w2 at *
  clear b0 hB h
  go_upto_region 1 with fail
  rename_i aK
  refine wp_region_seq ?_
  refine wpSeq_yield (S := fun _ => True) (v := .pointer (some ⟨W.heap.size, 0, none⟩)) (Or.inl ⟨by rfl, fun w' hw' => by go_simp⟩) trivial ?_
  simp only [AP]
  refine wpSeq_yield (S := fun w' => w' = w2) (v := .pointer p) (Or.inl ⟨by rfl, fun w' hw' => by (rw [hw']; have cc : w2.cell? ⟨W.heap.size, 0, none⟩ = some (.pointer p) := H.out.box.cell 0; go_simp)⟩) rfl ?_
  simp only [AP]
  refine wpSeq_wp rfl ?_
  unfold Oper.wp execOp
  go_simp
  refine (BM.out _ H.out.rm H.out.leB).mono ?_
  rintro _ w3 ⟨rfl, R1, k1⟩
  replace RES := Lib.hid (blk_gb k1 RES.out neR.out)
  replace H := Lib.hid (H.out.step R1 k1)
  clear R1 k1 BM
  go_simp
  refine wpSeq_yield (S := fun _ => True) (yieldsIf_assign rfl _ rfl (.int .u8 (y : Int)) rfl) trivial ?_
  simp only [AP]
  refine wpSeq_nil ?_
  refine (by assumption : ∀ (a : Act) (w : World), _ → _) _ _ ?_
  go_upto_region 2 with fail
  rename_i aK
  refine wp_region_seq ?_
  refine wpSeq_yield (S := fun _ => True) (yieldsIf_move rfl _ rfl (.int .u8 (y : Int)) rfl) trivial ?_
  simp only [AP]
  refine wpSeq_yield (S := fun _ => True) (v := .int .u8 0) (Or.inl ⟨by rfl, fun w' hw' => by go_simp⟩) trivial ?_
  simp only [AP]
  refine wpSeq_yield (S := fun _ => True) (v := .bool true) (Or.inl ⟨by rfl, fun w' hw' => by (go_simp; try omega)⟩) trivial ?_
  simp only [AP]
  refine wpSeq_yield (S := fun _ => True) (yieldsIf_move rfl _ rfl (.bool true) rfl) trivial ?_
  simp only [AP]
  refine wpSeq_yield (S := fun _ => True) (yieldsIf_off rfl) trivial ?_
  simp only [AP]
  refine wpSeq_yield (S := fun _ => True) (yieldsIf_off rfl) trivial ?_
  simp only [AP]
  refine wpSeq_yield (S := fun _ => True) (yieldsIf_off rfl) trivial ?_
  simp only [AP]
  refine wpSeq_yield (S := fun _ => True) (yieldsIf_off rfl) trivial ?_
  simp only [AP]
  refine wpSeq_yield (S := fun _ => True) (yieldsIf_off rfl) trivial ?_
  simp only [AP]
  refine wpSeq_yield (S := fun _ => True) (yieldsIf_off rfl) trivial ?_
  simp only [AP]
  refine wpSeq_yield (S := fun _ => True) (yieldsIf_off rfl) trivial ?_
  simp only [AP]
  refine wpSeq_yield (S := fun _ => True) (yieldsIf_off rfl) trivial ?_
  simp only [AP]
  refine wpSeq_yield (S := fun _ => True) (yieldsIf_pick rfl _ _ _ rfl true rfl (.bool true) rfl) trivial ?_
  simp only [AP]
  refine wpSeq_nil ?_
  refine (by assumption : ∀ (a : Act) (w : World), _ → _) _ _ ?_
  have FM := Lib.hid (fun w h hB => fail_m B p l1 c1 5 w h hB)
  rw [show (if c1 = 0 then 5 else c1) = failT c1 5 from rfl] at FM
  obtain ⟨c2, hc2⟩ : ∃ c2, failT c1 5 = c2 := ⟨_, rfl⟩
  rw [hc2] at FM
  have E2 := Lib.hid hc2
  clear hc2
  go_upto_region 3 with fail
  rename_i aK
  refine wp_region_seq ?_
  refine wpSeq_yield (S := fun _ => True) (v := .pointer (some ⟨W.heap.size, 0, none⟩)) (Or.inl ⟨by rfl, fun w' hw' => by go_simp⟩) trivial ?_
  simp only [AP]
  refine wpSeq_yield (S := fun w' => w' = w3) (v := .pointer p) (Or.inl ⟨by rfl, fun w' hw' => by (rw [hw']; have cc : w3.cell? ⟨W.heap.size, 0, none⟩ = some (.pointer p) := H.out.box.cell 0; go_simp)⟩) rfl ?_
  simp only [AP]
  refine wpSeq_wp rfl ?_
  unfold Oper.wp execOp
  go_simp
  refine (FM.out _ H.out.rm H.out.leB).mono ?_
  rintro _ w4 ⟨⟨vx, rfl⟩, R1, k1⟩
  replace RES := Lib.hid (blk_gb k1 RES.out neR.out)
  replace H := Lib.hid (H.out.step R1 k1)
  clear R1 k1 FM
  go_simp
  refine wpSeq_nil ?_
  refine (by assumption : ∀ (a : Act) (w : World), _ → _) _ _ ?_
  go_upto_region 4 with fail
  rename_i aK
  refine wp_region_seq ?_
  refine wpSeq_yield (S := fun _ => True) (yieldsIf_move rfl _ rfl (.int .u8 (y : Int)) rfl) trivial ?_
  simp only [AP]
  refine wpSeq_yield (S := fun _ => True) (v := .int .u8 128) (Or.inl ⟨by rfl, fun w' hw' => by go_simp⟩) trivial ?_
  simp only [AP]
  refine wpSeq_yield (S := fun _ => True) (v := .bool false) (Or.inl ⟨by rfl, fun w' hw' => by (go_simp; try omega)⟩) trivial ?_
  simp only [AP]
  refine wpSeq_nil ?_
  refine (by assumption : ∀ (a : Act) (w : World), _ → _) _ _ ?_
  have G5 := Lib.hid (show W.heap.size + 1 < w4.heap.size from RES.out.lt)
  go_upto_region 6 with fail
  rename_i aK
  refine wp_region_seq ?_
  refine wpSeq_yield (S := fun _ => True) (v := .agg #[.int .i64 0, .slice none 0 0, .slice none 0 0]) (Or.inl ⟨by rfl, fun w' hw' => by go_simp⟩) trivial ?_
  simp only [AP]
  refine wpSeq_wp rfl ?_
  unfold Oper.wp execOp
  go_simp
  refine wpSeq_store_row rfl 31 _ _ rfl (w4.heap.size) #[.int .i64 0, .slice none 0 0, .slice none 0 0] rfl rfl _ _ (Blk.new _ _ _) info_hd rfl (cell_one _ _ _ _ _ _ _) ?_
  simp only [Act.put]
  refine wpSeq_nil ?_
  refine (by assumption : ∀ (a : Act) (w : World), _ → _) _ _ ?_
  have hb := below_setRow ((Below.refl w4.heap.size w4).alloc (Nat.le_refl _) (.cells #[.int .i64 0, .slice none 0 0, .slice none 0 0] 31)) (Nat.le_refl _) #[.int .i64 0, .slice none 0 0, .slice none 0 0]
  have K5 : Blk ((w4.alloc (.cells #[.int .i64 0, .slice none 0 0, .slice none 0 0] 31)).setRow w4.heap.size #[.int .i64 0, .slice none 0 0, .slice none 0 0]) w4.heap.size 31 #[.int .i64 0, .slice none 0 0, .slice none 0 0] := (Blk.new w4 31 #[.int .i64 0, .slice none 0 0, .slice none 0 0]).row _
  generalize World.setRow _ _ _ = w5 at *
  replace H := Lib.hid (H.out.below hb)
  replace RES := Lib.hid (RES.out.below' hb)
  have ne5 := Lib.hid (show w4.heap.size ≠ B by have := G5.out; have := H.out.hB; omega)
  have lt5 := Lib.hid (Nat.lt_succ_self w4.heap.size)
  have ltB := Lib.hid (show B < w4.heap.size + 1 by have := G5.out; have := H.out.hB; omega)
  replace K5 := Lib.hid K5
  clear hb
  go_upto_region 7 with fail
  rename_i aK
  refine wp_region_seq ?_
  refine wpSeq_yield (S := fun _ => True) (yieldsIf_move rfl _ rfl (.int .u8 (y : Int)) rfl) trivial ?_
  simp only [AP]
  refine wpSeq_yield (S := fun _ => True) (v := .int .u8 0) (Or.inl ⟨by rfl, fun w' hw' => by go_simp⟩) trivial ?_
  simp only [AP]
  refine wpSeq_yield (S := fun _ => True) (v := .bool false) (Or.inl ⟨by rfl, fun w' hw' => by (go_simp; try omega)⟩) trivial ?_
  simp only [AP]
  refine wpSeq_nil ?_
  refine (by assumption : ∀ (a : Act) (w : World), _ → _) _ _ ?_
  clear A64 A128 A16 A32
  have YM := Lib.hid (fun w h hB => bytes_m B p l1 4 c2 w h hB)
  obtain ⟨⟨xv, lv, cv⟩, hv⟩ : ∃ q, tkS 4 l1 c2 = q := ⟨_, rfl⟩
  rw [show tookS 4 l1 c2 = tkS 4 l1 c2 from rfl, hv] at YM
  dsimp only at YM
  have bx : Bytes xv := by
    have e : xv = (tkS 4 l1 c2).1 := by rw [hv]
    rw [e]
    exact tk_bytes _ _ _ (rm_bytes H.out.rm)
  replace bx := Lib.hid bx
  have EV := Lib.hid hv
  clear hv
  by_cases ver : xv = [0, 0, 0, 1]
  · skip
    go_upto_region 9 with fail
    rename_i aK
    refine wp_region_seq ?_
    refine wpSeq_yield (S := fun _ => True) (v := .pointer (some ⟨W.heap.size, 0, none⟩)) (Or.inl ⟨by rfl, fun w' hw' => by go_simp⟩) trivial ?_
    simp only [AP]
    refine wpSeq_yield (S := fun w' => w' = w5) (v := .pointer p) (Or.inl ⟨by rfl, fun w' hw' => by (rw [hw']; have cc : w5.cell? ⟨W.heap.size, 0, none⟩ = some (.pointer p) := H.out.box.cell 0; go_simp)⟩) rfl ?_
    simp only [AP]
    refine wpSeq_wp rfl ?_
    unfold Oper.wp execOp
    go_simp
    refine (YM.out _ H.out.rm H.out.leB).mono ?_
    rintro _ w6 ⟨⟨vv, rfl, OV⟩, R1, k1⟩
    replace RES := Lib.hid (blk_gb k1 RES.out neR.out)
    replace K5 := Lib.hid (blk_gb k1 K5.out ne5.out)
    replace H := Lib.hid (H.out.step R1 k1)
    clear R1 k1 YM
    go_simp
    refine wpSeq_yield (S := fun w' => w' = w6) (yieldsIf_conv (S := fun w' => w' = w6) rfl _ rfl (vv) rfl xv (fun w' h => h ▸ OV.sb)) rfl ?_
    simp only [AP]
    refine wpSeq_yield (S := fun _ => True) (strN_eq rfl _ _ rfl _ _ rfl rfl (by rw [ver]; exact vers_is)) trivial ?_
    simp only [AP]
    refine wpSeq_nil ?_
    refine (by assumption : ∀ (a : Act) (w : World), _ → _) _ _ ?_
    clear OV
    obtain ⟨c3, hc3⟩ : ∃ c3, cv = c3 := ⟨_, rfl⟩
    rw [hc3] at H
    have E3 := Lib.hid (show c3 = if xv ≠ [0, 0, 0, 1] then failT cv 6 else cv by rw [if_neg (fun e => e ver)]; exact hc3.symm)
    clear hc3 ver bx
    have N1 := Lib.hid (fun w h => name_m B p lv c3 w h)
    obtain ⟨⟨to, l4, c4⟩, hn1⟩ : ∃ q, nameS lv c3 = q := ⟨_, rfl⟩
    rw [hn1] at N1
    have N2 := Lib.hid (fun w h => name_m B p l4 c4 w h)
    obtain ⟨⟨fr, l5, c5⟩, hn2⟩ : ∃ q, nameS l4 c4 = q := ⟨_, rfl⟩
    rw [hn2] at N2
    dsimp only at N1 N2
    have E4 := Lib.hid (And.intro hn1 hn2)
    clear hn1 hn2
    skip
    have bd := below_drew (Below.refl w6.heap.size w6)
    replace H := Lib.hid (H.out.below bd)
    replace RES := Lib.hid (RES.out.below' bd)
    replace K5 := Lib.hid (K5.out.below' bd)
    clear bd
    go_upto_region 11 with fail
    rename_i aK
    refine wp_region_S (S := fun w' => Blk w' W.heap.size 51 #[.pointer p]) (by kernel_rfl) ?_
    generalize World.drew w6 = w7 at *
    have hS := H.out.box
    refine wpAnyS_takeL 0 (v := .agg #[.pointer p]) rfl (by kernel_rfl) (by kernel_rfl) (by kernel_rfl) (fun _ _ _ H => H) (show YieldsIf _ _ _ _ (.agg #[.pointer p]) _ from yieldsIf_load_mid (S := fun w' => Blk w' W.heap.size 51 #[.pointer p]) rfl 51 _ rfl W.heap.size 0 rfl [.pointer p] _ (fun _ h => blk_range h) Try.underlying51 rfl info_rd) hS ?_
    simp only [AP]
    refine wpAnyS_takeL 2 (v := .agg #[.pointer p]) rfl (by kernel_rfl) (by kernel_rfl) (by kernel_rfl) (fun _ _ _ H => H) (show YieldsIf _ _ _ _ (.agg #[.pointer p]) _ from yieldsIf_load_mid (S := fun w' => Blk w' W.heap.size 51 #[.pointer p]) rfl 51 _ rfl W.heap.size 0 rfl [.pointer p] _ (fun _ h => blk_range h) Try.underlying51 rfl info_rd) hS ?_
    simp only [AP]
    refine gstep 1 rfl rfl (by kernel_rfl) ?_
    unfold Oper.wp execOp
    go_simp
    refine (N1.out _ H.out.rm).mono ?_
    rintro _ w8 ⟨⟨vt, rfl, Ot⟩, R1, k1⟩
    replace Ot := Lib.hid (Ot.mono_ (B' := w4.heap.size + 1) K5.out.lt)
    replace RES := Lib.hid (blk_gb k1 RES.out neR.out)
    replace K5 := Lib.hid (blk_gb k1 K5.out ne5.out)
    replace H := Lib.hid (H.out.step R1 k1)
    clear R1 k1 N1
    go_simp
    obtain ⟨pt, ct, ht⟩ := Ot.out.shape
    subst ht
    refine ⟨H.out.box, ?_⟩
    replace hS := H.out.box
    refine wpAnyS_takeL 4 (v := .pointer (some ⟨w4.heap.size, 1, none⟩)) rfl (by kernel_rfl) (by kernel_rfl) (by kernel_rfl) (fun _ _ _ H => H) (Or.inl ⟨by rfl, fun w' hw' => by go_simp⟩) hS ?_
    simp only [AP]
    refine gstep 3 rfl rfl (by kernel_rfl) ?_
    unfold Oper.wp execOp
    go_simp
    refine (N2.out _ H.out.rm).mono ?_
    rintro _ w9 ⟨⟨vf, rfl, Of⟩, R1, k1⟩
    replace Of := Lib.hid (Of.mono_ (B' := w4.heap.size + 1) K5.out.lt)
    replace RES := Lib.hid (blk_gb k1 RES.out neR.out)
    replace K5 := Lib.hid (blk_gb k1 K5.out ne5.out)
    replace Ot := Lib.hid (Ot.out.gb k1 ltB.out)
    replace H := Lib.hid (H.out.step R1 k1)
    clear R1 k1 N2
    go_simp
    obtain ⟨pf, cf, hf⟩ := Of.out.shape
    subst hf
    refine ⟨H.out.box, ?_⟩
    have cs : w9.cell? ⟨w4.heap.size, 1, none⟩ = some (.slice none 0 0) := K5.out.cell 1
    have fz : w9.frozen? ⟨w4.heap.size, 1, none⟩ = false := K5.out.frozen 1
    refine gstep 5 rfl rfl (by kernel_rfl) ?_
    unfold Oper.wp execOp
    go_simp
    have kk := gb_store w9 (w4.heap.size) 1 (.slice pt to.length ct)
    have K6 : Blk (w9.setCell ⟨w4.heap.size, 1, none⟩ (.slice pt to.length ct)) (w4.heap.size) 31 #[.int .i64 0, .slice pt to.length ct, .slice none 0 0] := K5.out.set 1 _
    replace K5 := Lib.hid K6
    replace RES := Lib.hid (RES.out.far (p := ⟨w4.heap.size, 1, none⟩) (Nat.ne_of_lt G5.out) (.slice pt to.length ct))
    replace H := Lib.hid (H.out.own (Nat.lt_of_succ_lt G5.out) kk)
    replace Ot := Lib.hid (Ot.out.gb kk lt5.out)
    replace Of := Lib.hid (Of.out.gb kk lt5.out)
    clear K6 kk cs fz
    generalize World.setCell w9 _ _ = w10 at *
    refine ⟨H.out.box, ?_⟩
    replace hS := H.out.box
    refine wpAnyS_takeL 6 (v := .pointer (some ⟨w4.heap.size, 2, none⟩)) rfl (by kernel_rfl) (by kernel_rfl) (by kernel_rfl) (fun _ _ _ H => H) (Or.inl ⟨by rfl, fun w' hw' => by go_simp⟩) hS ?_
    simp only [AP]
    have cs : w10.cell? ⟨w4.heap.size, 2, none⟩ = some (.slice none 0 0) := K5.out.cell 2
    have fz : w10.frozen? ⟨w4.heap.size, 2, none⟩ = false := K5.out.frozen 2
    refine gstep 7 rfl rfl (by kernel_rfl) ?_
    unfold Oper.wp execOp
    go_simp
    have kk := gb_store w10 (w4.heap.size) 2 (.slice pf fr.length cf)
    have K6 : Blk (w10.setCell ⟨w4.heap.size, 2, none⟩ (.slice pf fr.length cf)) (w4.heap.size) 31 #[.int .i64 0, .slice pt to.length ct, .slice pf fr.length cf] := K5.out.set 2 _
    replace K5 := Lib.hid K6
    replace RES := Lib.hid (RES.out.far (p := ⟨w4.heap.size, 2, none⟩) (Nat.ne_of_lt G5.out) (.slice pf fr.length cf))
    replace H := Lib.hid (H.out.own (Nat.lt_of_succ_lt G5.out) kk)
    replace Ot := Lib.hid (Ot.out.gb kk lt5.out)
    replace Of := Lib.hid (Of.out.gb kk lt5.out)
    clear K6 kk cs fz
    generalize World.setCell w10 _ _ = w11 at *
    refine ⟨H.out.box, ?_⟩
    refine wpAnyS_done (by kernel_rfl) ?_ _
    refine (by assumption : ∀ (a : Act) (w : World), _ → _) _ _ ?_
    clear hS
    have B2 := Lib.hid (fun w h hB => byte_m B p l5 c5 w h hB)
    obtain ⟨⟨xz, l6, c6⟩, hz1⟩ : ∃ q, tkS 1 l5 c5 = q := ⟨_, rfl⟩
    rw [show tookS 1 l5 c5 = tkS 1 l5 c5 from rfl, hz1] at B2
    dsimp only at B2
    obtain ⟨u, hu⟩ : ∃ u, xz.getD 0 0 = u := ⟨_, rfl⟩
    rw [hu] at B2
    have E6 := Lib.hid (And.intro hz1 hu)
    clear hz1 hu
    by_cases u0 : u = 0
    · skip
      go_upto_region 12 with fail
      rename_i aK
      refine wp_region_seq ?_
      refine wpSeq_yield (S := fun _ => True) (v := .pointer (some ⟨w4.heap.size, 0, none⟩)) (Or.inl ⟨by rfl, fun w' hw' => by go_simp⟩) trivial ?_
      simp only [AP]
      refine wpSeq_yield (S := fun w' => w' = w11) (v := .int .i64 0) (Or.inl ⟨by rfl, fun w' hw' => by (rw [hw']; have cc : w11.cell? ⟨w4.heap.size, 0, none⟩ = some (.int .i64 0) := K5.out.cell 0; go_simp)⟩) rfl ?_
      simp only [AP]
      refine wpSeq_yield (S := fun _ => True) (v := .bool true) (Or.inl ⟨by rfl, fun w' hw' => by go_simp⟩) trivial ?_
      simp only [AP]
      refine wpSeq_yield (S := fun _ => True) (yieldsIf_move rfl _ rfl (.bool true) rfl) trivial ?_
      simp only [AP]
      refine wpSeq_yield (S := fun _ => True) (v := .pointer (some ⟨W.heap.size, 0, none⟩)) (Or.inl ⟨by rfl, fun w' hw' => by go_simp⟩) trivial ?_
      simp only [AP]
      refine wpSeq_yield (S := fun w' => w' = w11) (v := .pointer p) (Or.inl ⟨by rfl, fun w' hw' => by (rw [hw']; have cc : w11.cell? ⟨W.heap.size, 0, none⟩ = some (.pointer p) := H.out.box.cell 0; go_simp)⟩) rfl ?_
      simp only [AP]
      refine wpSeq_wp rfl ?_
      unfold Oper.wp execOp
      go_simp
      refine (B2.out _ H.out.rm H.out.leB).mono ?_
      rintro _ w12 ⟨rfl, R1, k1⟩
      replace RES := Lib.hid (blk_gb k1 RES.out neR.out)
      replace K5 := Lib.hid (blk_gb k1 K5.out ne5.out)
      replace Ot := Lib.hid (Ot.out.gb k1 ltB.out)
      replace Of := Lib.hid (Of.out.gb k1 ltB.out)
      replace H := Lib.hid (H.out.step R1 k1)
      clear R1 k1 B2
      go_simp
      refine wpSeq_yield (S := fun _ => True) (v := .bool false) (Or.inl ⟨by rfl, fun w' hw' => by (go_simp; try omega)⟩) trivial ?_
      simp only [AP]
      refine wpSeq_yield (S := fun _ => True) (yieldsIf_pick rfl _ _ _ rfl true rfl (.bool false) rfl) trivial ?_
      simp only [AP]
      refine wpSeq_nil ?_
      refine (by assumption : ∀ (a : Act) (w : World), _ → _) _ _ ?_
      have EZ : 0 = 0 ∧ l6 = (tkS 1 l5 c5).2.1 ∧ c6 = if (tkS 1 l5 c5).1.getD 0 0 ≠ 0 then failT (tkS 1 l5 c5).2.2 5 else (tkS 1 l5 c5).2.2 := by
        rw [E6.out.1]
        dsimp only
        rw [E6.out.2, if_neg (fun e => e u0)]
        exact ⟨rfl, rfl, rfl⟩
      replace EZ := Lib.hid EZ
      clear E6 u0
      have ZM := Lib.hid (fun w h => size_m B p l6 c6 w h)
      have E7 := Lib.hid (take_long b x1 l1 xv lv to l4 fr l5 l6 0 c1 c2 cv c3 c4 c5 c6 E1.out.1 (by rw [E1.out.2]; have := HY.out; omega) (by rw [E1.out.2]; have := HY.out; omega) (by rw [E1.out.2, if_pos (by unfold faultF; have := HY.out; omega)]; exact E2.out.symm) EV.out E3.out E4.out.1 E4.out.2 (Or.inl EZ.out))
      have zl : sizeN (numS l6 c6) ≤ (numS l6 c6).2.1.length := size_le _
      replace zl := Lib.hid zl
      generalize numS l6 c6 = q at *
      clear HY E1 E2 EV E3 E4
      have bd := below_drew (Below.refl w12.heap.size w12)
      replace H := Lib.hid (H.out.below bd)
      replace RES := Lib.hid (RES.out.below' bd)
      replace K5 := Lib.hid (K5.out.below' bd)
      replace Ot := Lib.hid (Ot.out.below bd)
      replace Of := Lib.hid (Of.out.below bd)
      clear bd
      go_upto_region 14 with fail
      rename_i aK
      refine wp_region_S (S := fun w' => Blk w' W.heap.size 51 #[.pointer p] ∧ Blk w' w4.heap.size 31 #[.int .i64 0, .slice pt to.length ct, .slice pf fr.length cf]) (by kernel_rfl) ?_
      generalize World.drew w12 = w13 at *
      have hS := And.intro H.out.box K5.out
      refine wpAnyS_takeL 0 (v := .agg #[.int .i64 0, .slice pt to.length ct, .slice pf fr.length cf]) rfl (by kernel_rfl) (by kernel_rfl) (by kernel_rfl) (fun _ _ _ H => H) (show YieldsIf _ _ _ _ (.agg #[.int .i64 0, .slice pt to.length ct, .slice pf fr.length cf]) _ from yieldsIf_load_mid (S := fun w' => Blk w' W.heap.size 51 #[.pointer p] ∧ Blk w' w4.heap.size 31 #[.int .i64 0, .slice pt to.length ct, .slice pf fr.length cf]) rfl 31 _ rfl (w4.heap.size) 0 rfl [.int .i64 0, .slice pt to.length ct, .slice pf fr.length cf] _ (fun _ h => blk_range h.2) Try.underlying31 rfl info_hd) hS ?_
      simp only [AP]
      refine wpAnyS_takeL 1 (v := .agg #[.pointer p]) rfl (by kernel_rfl) (by kernel_rfl) (by kernel_rfl) (fun _ _ _ H => H) (show YieldsIf _ _ _ _ (.agg #[.pointer p]) _ from yieldsIf_load_mid (S := fun w' => Blk w' W.heap.size 51 #[.pointer p] ∧ Blk w' w4.heap.size 31 #[.int .i64 0, .slice pt to.length ct, .slice pf fr.length cf]) rfl 51 _ rfl W.heap.size 0 rfl [.pointer p] _ (fun _ h => blk_range h.1) Try.underlying51 rfl info_rd) hS ?_
      simp only [AP]
      refine gstep 2 rfl rfl (by kernel_rfl) ?_
      unfold Oper.wp execOp
      go_simp
      refine (ZM.out _ H.out.rm).mono ?_
      rintro _ w14 ⟨rfl, R1, k1, _⟩
      replace RES := Lib.hid (blk_gb k1 RES.out neR.out)
      replace K5 := Lib.hid (blk_gb k1 K5.out ne5.out)
      replace Ot := Lib.hid (Ot.out.gb k1 ltB.out)
      replace Of := Lib.hid (Of.out.gb k1 ltB.out)
      replace H := Lib.hid (H.out.step R1 k1)
      clear R1 k1 ZM
      go_simp
      refine ⟨And.intro H.out.box K5.out, ?_⟩
      refine gstep 3 rfl rfl (by kernel_rfl) (wp_store_row 31 _ _ rfl (W.heap.size + 1) #[.int .i64 0, .slice pt to.length ct, .slice pf fr.length cf] rfl rfl _ _ RES.out info_hd rfl (cell_one _ _ _ _ _ _ _) ⟨And.intro (H.out.box.rowFar (by omega) _) (K5.out.rowFar (Nat.ne_of_gt G5.out) _), ?_⟩)
      simp only [Act.put]
      have kk := gb_row w14 (W.heap.size + 1) #[.int .i64 0, .slice pt to.length ct, .slice pf fr.length cf]
      have RES2 : Blk (w14.setRow (W.heap.size + 1) #[.int .i64 0, .slice pt to.length ct, .slice pf fr.length cf]) (W.heap.size + 1) 31 #[.int .i64 0, .slice pt to.length ct, .slice pf fr.length cf] := RES.out.row _
      replace RES := Lib.hid RES2
      replace H := Lib.hid (H.out.own (by omega) kk)
      have lr := Nat.lt_succ_of_lt G5.out
      replace Ot := Lib.hid (Ot.out.gb kk lr)
      replace Of := Lib.hid (Of.out.gb kk lr)
      replace K5 := Lib.hid (K5.out.rowFar (Nat.ne_of_gt G5.out) #[.int .i64 0, .slice pt to.length ct, .slice pf fr.length cf])
      clear kk RES2
      generalize World.setRow _ _ _ = w15 at *
      replace hS := And.intro H.out.box K5.out
      refine wpAnyS_takeL 4 (v := .int .i64 ((sizeN q : Nat) : Int)) rfl (by kernel_rfl) (by kernel_rfl) (by kernel_rfl) (fun _ _ _ H => H) (yieldsIf_assign rfl _ rfl (.int .i64 ((sizeN q : Nat) : Int)) rfl) hS ?_
      simp only [AP]
      refine wpAnyS_done (by kernel_rfl) ?_ _
      refine (by assumption : ∀ (a : Act) (w : World), _ → _) _ _ ?_
      go_wp2
      refine bodyPost_ret (results_cell1 rfl _ _ _ _ _ _ rfl RES.out Try.underlying31 rfl info_hd) rfl ?_
      unfold HeadPost
      exact ⟨0, _, _, to, fr, sizeN q, q.2.1, lackN q, rfl, Ot.out.mono_ (by have := G5.out; omega), Of.out.mono_ (by have := G5.out; omega), H.out.rm, H.out.gb, E7.out.1, E7.out.2, zl.out⟩
    · skip
      go_upto_region 12 with fail
      rename_i aK
      refine wp_region_seq ?_
      refine wpSeq_yield (S := fun _ => True) (v := .pointer (some ⟨w4.heap.size, 0, none⟩)) (Or.inl ⟨by rfl, fun w' hw' => by go_simp⟩) trivial ?_
      simp only [AP]
      refine wpSeq_yield (S := fun w' => w' = w11) (v := .int .i64 0) (Or.inl ⟨by rfl, fun w' hw' => by (rw [hw']; have cc : w11.cell? ⟨w4.heap.size, 0, none⟩ = some (.int .i64 0) := K5.out.cell 0; go_simp)⟩) rfl ?_
      simp only [AP]
      refine wpSeq_yield (S := fun _ => True) (v := .bool true) (Or.inl ⟨by rfl, fun w' hw' => by go_simp⟩) trivial ?_
      simp only [AP]
      refine wpSeq_yield (S := fun _ => True) (yieldsIf_move rfl _ rfl (.bool true) rfl) trivial ?_
      simp only [AP]
      refine wpSeq_yield (S := fun _ => True) (v := .pointer (some ⟨W.heap.size, 0, none⟩)) (Or.inl ⟨by rfl, fun w' hw' => by go_simp⟩) trivial ?_
      simp only [AP]
      refine wpSeq_yield (S := fun w' => w' = w11) (v := .pointer p) (Or.inl ⟨by rfl, fun w' hw' => by (rw [hw']; have cc : w11.cell? ⟨W.heap.size, 0, none⟩ = some (.pointer p) := H.out.box.cell 0; go_simp)⟩) rfl ?_
      simp only [AP]
      refine wpSeq_wp rfl ?_
      unfold Oper.wp execOp
      go_simp
      refine (B2.out _ H.out.rm H.out.leB).mono ?_
      rintro _ w12 ⟨rfl, R1, k1⟩
      replace RES := Lib.hid (blk_gb k1 RES.out neR.out)
      replace K5 := Lib.hid (blk_gb k1 K5.out ne5.out)
      replace Ot := Lib.hid (Ot.out.gb k1 ltB.out)
      replace Of := Lib.hid (Of.out.gb k1 ltB.out)
      replace H := Lib.hid (H.out.step R1 k1)
      clear R1 k1 B2
      go_simp
      refine wpSeq_yield (S := fun _ => True) (v := .bool true) (Or.inl ⟨by rfl, fun w' hw' => by (go_simp; try omega)⟩) trivial ?_
      simp only [AP]
      refine wpSeq_yield (S := fun _ => True) (yieldsIf_pick rfl _ _ _ rfl true rfl (.bool true) rfl) trivial ?_
      simp only [AP]
      refine wpSeq_nil ?_
      refine (by assumption : ∀ (a : Act) (w : World), _ → _) _ _ ?_
      have FM := Lib.hid (fun w h hB => fail_m B p l6 c6 5 w h hB)
      rw [show (if c6 = 0 then 5 else c6) = failT c6 5 from rfl] at FM
      obtain ⟨c7, hc7⟩ : ∃ c7, failT c6 5 = c7 := ⟨_, rfl⟩
      rw [hc7] at FM
      have EZ : 0 = 0 ∧ l6 = (tkS 1 l5 c5).2.1 ∧ c7 = if (tkS 1 l5 c5).1.getD 0 0 ≠ 0 then failT (tkS 1 l5 c5).2.2 5 else (tkS 1 l5 c5).2.2 := by
        rw [E6.out.1]
        dsimp only
        rw [E6.out.2, if_pos u0]
        exact ⟨rfl, rfl, hc7.symm⟩
      replace EZ := Lib.hid EZ
      clear E6 u0 hc7
      go_upto_region 13 with fail
      rename_i aK
      refine wp_region_seq ?_
      refine wpSeq_yield (S := fun _ => True) (v := .pointer (some ⟨W.heap.size, 0, none⟩)) (Or.inl ⟨by rfl, fun w' hw' => by go_simp⟩) trivial ?_
      simp only [AP]
      refine wpSeq_yield (S := fun w' => w' = w12) (v := .pointer p) (Or.inl ⟨by rfl, fun w' hw' => by (rw [hw']; have cc : w12.cell? ⟨W.heap.size, 0, none⟩ = some (.pointer p) := H.out.box.cell 0; go_simp)⟩) rfl ?_
      simp only [AP]
      refine wpSeq_wp rfl ?_
      unfold Oper.wp execOp
      go_simp
      refine (FM.out _ H.out.rm H.out.leB).mono ?_
      rintro _ w13 ⟨⟨vx3, rfl⟩, R1, k1⟩
      replace RES := Lib.hid (blk_gb k1 RES.out neR.out)
      replace K5 := Lib.hid (blk_gb k1 K5.out ne5.out)
      replace Ot := Lib.hid (Ot.out.gb k1 ltB.out)
      replace Of := Lib.hid (Of.out.gb k1 ltB.out)
      replace H := Lib.hid (H.out.step R1 k1)
      clear R1 k1 FM
      go_simp
      refine wpSeq_nil ?_
      refine (by assumption : ∀ (a : Act) (w : World), _ → _) _ _ ?_
      have ZM := Lib.hid (fun w h => size_m B p l6 c7 w h)
      have E7 := Lib.hid (take_long b x1 l1 xv lv to l4 fr l5 l6 0 c1 c2 cv c3 c4 c5 c7 E1.out.1 (by rw [E1.out.2]; have := HY.out; omega) (by rw [E1.out.2]; have := HY.out; omega) (by rw [E1.out.2, if_pos (by unfold faultF; have := HY.out; omega)]; exact E2.out.symm) EV.out E3.out E4.out.1 E4.out.2 (Or.inl EZ.out))
      have zl : sizeN (numS l6 c7) ≤ (numS l6 c7).2.1.length := size_le _
      replace zl := Lib.hid zl
      generalize numS l6 c7 = q at *
      clear HY E1 E2 EV E3 E4
      have bd := below_drew (Below.refl w13.heap.size w13)
      replace H := Lib.hid (H.out.below bd)
      replace RES := Lib.hid (RES.out.below' bd)
      replace K5 := Lib.hid (K5.out.below' bd)
      replace Ot := Lib.hid (Ot.out.below bd)
      replace Of := Lib.hid (Of.out.below bd)
      clear bd
      go_upto_region 14 with fail
      rename_i aK
      refine wp_region_S (S := fun w' => Blk w' W.heap.size 51 #[.pointer p] ∧ Blk w' w4.heap.size 31 #[.int .i64 0, .slice pt to.length ct, .slice pf fr.length cf]) (by kernel_rfl) ?_
      generalize World.drew w13 = w14 at *
      have hS := And.intro H.out.box K5.out
      refine wpAnyS_takeL 0 (v := .agg #[.int .i64 0, .slice pt to.length ct, .slice pf fr.length cf]) rfl (by kernel_rfl) (by kernel_rfl) (by kernel_rfl) (fun _ _ _ H => H) (show YieldsIf _ _ _ _ (.agg #[.int .i64 0, .slice pt to.length ct, .slice pf fr.length cf]) _ from yieldsIf_load_mid (S := fun w' => Blk w' W.heap.size 51 #[.pointer p] ∧ Blk w' w4.heap.size 31 #[.int .i64 0, .slice pt to.length ct, .slice pf fr.length cf]) rfl 31 _ rfl (w4.heap.size) 0 rfl [.int .i64 0, .slice pt to.length ct, .slice pf fr.length cf] _ (fun _ h => blk_range h.2) Try.underlying31 rfl info_hd) hS ?_
      simp only [AP]
      refine wpAnyS_takeL 1 (v := .agg #[.pointer p]) rfl (by kernel_rfl) (by kernel_rfl) (by kernel_rfl) (fun _ _ _ H => H) (show YieldsIf _ _ _ _ (.agg #[.pointer p]) _ from yieldsIf_load_mid (S := fun w' => Blk w' W.heap.size 51 #[.pointer p] ∧ Blk w' w4.heap.size 31 #[.int .i64 0, .slice pt to.length ct, .slice pf fr.length cf]) rfl 51 _ rfl W.heap.size 0 rfl [.pointer p] _ (fun _ h => blk_range h.1) Try.underlying51 rfl info_rd) hS ?_
      simp only [AP]
      refine gstep 2 rfl rfl (by kernel_rfl) ?_
      unfold Oper.wp execOp
      go_simp
      refine (ZM.out _ H.out.rm).mono ?_
      rintro _ w15 ⟨rfl, R1, k1, _⟩
      replace RES := Lib.hid (blk_gb k1 RES.out neR.out)
      replace K5 := Lib.hid (blk_gb k1 K5.out ne5.out)
      replace Ot := Lib.hid (Ot.out.gb k1 ltB.out)
      replace Of := Lib.hid (Of.out.gb k1 ltB.out)
      replace H := Lib.hid (H.out.step R1 k1)
      clear R1 k1 ZM
      go_simp
      refine ⟨And.intro H.out.box K5.out, ?_⟩
      refine gstep 3 rfl rfl (by kernel_rfl) (wp_store_row 31 _ _ rfl (W.heap.size + 1) #[.int .i64 0, .slice pt to.length ct, .slice pf fr.length cf] rfl rfl _ _ RES.out info_hd rfl (cell_one _ _ _ _ _ _ _) ⟨And.intro (H.out.box.rowFar (by omega) _) (K5.out.rowFar (Nat.ne_of_gt G5.out) _), ?_⟩)
      simp only [Act.put]
      have kk := gb_row w15 (W.heap.size + 1) #[.int .i64 0, .slice pt to.length ct, .slice pf fr.length cf]
      have RES2 : Blk (w15.setRow (W.heap.size + 1) #[.int .i64 0, .slice pt to.length ct, .slice pf fr.length cf]) (W.heap.size + 1) 31 #[.int .i64 0, .slice pt to.length ct, .slice pf fr.length cf] := RES.out.row _
      replace RES := Lib.hid RES2
      replace H := Lib.hid (H.out.own (by omega) kk)
      have lr := Nat.lt_succ_of_lt G5.out
      replace Ot := Lib.hid (Ot.out.gb kk lr)
      replace Of := Lib.hid (Of.out.gb kk lr)
      replace K5 := Lib.hid (K5.out.rowFar (Nat.ne_of_gt G5.out) #[.int .i64 0, .slice pt to.length ct, .slice pf fr.length cf])
      clear kk RES2
      generalize World.setRow _ _ _ = w16 at *
      replace hS := And.intro H.out.box K5.out
      refine wpAnyS_takeL 4 (v := .int .i64 ((sizeN q : Nat) : Int)) rfl (by kernel_rfl) (by kernel_rfl) (by kernel_rfl) (fun _ _ _ H => H) (yieldsIf_assign rfl _ rfl (.int .i64 ((sizeN q : Nat) : Int)) rfl) hS ?_
      simp only [AP]
      refine wpAnyS_done (by kernel_rfl) ?_ _
      refine (by assumption : ∀ (a : Act) (w : World), _ → _) _ _ ?_
      go_wp2
      refine bodyPost_ret (results_cell1 rfl _ _ _ _ _ _ rfl RES.out Try.underlying31 rfl info_hd) rfl ?_
      unfold HeadPost
      exact ⟨0, _, _, to, fr, sizeN q, q.2.1, lackN q, rfl, Ot.out.mono_ (by have := G5.out; omega), Of.out.mono_ (by have := G5.out; omega), H.out.rm, H.out.gb, E7.out.1, E7.out.2, zl.out⟩
  · skip
    go_upto_region 9 with fail
    rename_i aK
    refine wp_region_seq ?_
    refine wpSeq_yield (S := fun _ => True) (v := .pointer (some ⟨W.heap.size, 0, none⟩)) (Or.inl ⟨by rfl, fun w' hw' => by go_simp⟩) trivial ?_
    simp only [AP]
    refine wpSeq_yield (S := fun w' => w' = w5) (v := .pointer p) (Or.inl ⟨by rfl, fun w' hw' => by (rw [hw']; have cc : w5.cell? ⟨W.heap.size, 0, none⟩ = some (.pointer p) := H.out.box.cell 0; go_simp)⟩) rfl ?_
    simp only [AP]
    refine wpSeq_wp rfl ?_
    unfold Oper.wp execOp
    go_simp
    refine (YM.out _ H.out.rm H.out.leB).mono ?_
    rintro _ w6 ⟨⟨vv, rfl, OV⟩, R1, k1⟩
    replace RES := Lib.hid (blk_gb k1 RES.out neR.out)
    replace K5 := Lib.hid (blk_gb k1 K5.out ne5.out)
    replace H := Lib.hid (H.out.step R1 k1)
    clear R1 k1 YM
    go_simp
    refine wpSeq_yield (S := fun w' => w' = w6) (yieldsIf_conv (S := fun w' => w' = w6) rfl _ rfl (vv) rfl xv (fun w' h => h ▸ OV.sb)) rfl ?_
    simp only [AP]
    refine wpSeq_yield (S := fun _ => True) (strN_ne rfl _ _ rfl _ _ rfl rfl (by rw [← vers_is]; exact strB_ne bx.out vers_bytes ver)) trivial ?_
    simp only [AP]
    refine wpSeq_nil ?_
    refine (by assumption : ∀ (a : Act) (w : World), _ → _) _ _ ?_
    clear OV
    have FM := Lib.hid (fun w h hB => fail_m B p lv cv 6 w h hB)
    rw [show (if cv = 0 then 6 else cv) = failT cv 6 from rfl] at FM
    obtain ⟨c3, hc3⟩ : ∃ c3, failT cv 6 = c3 := ⟨_, rfl⟩
    rw [hc3] at FM
    have E3 := Lib.hid (show c3 = if xv ≠ [0, 0, 0, 1] then failT cv 6 else cv by rw [if_pos ver]; exact hc3.symm)
    clear hc3 ver bx
    go_upto_region 10 with fail
    rename_i aK
    refine wp_region_seq ?_
    refine wpSeq_yield (S := fun _ => True) (v := .pointer (some ⟨W.heap.size, 0, none⟩)) (Or.inl ⟨by rfl, fun w' hw' => by go_simp⟩) trivial ?_
    simp only [AP]
    refine wpSeq_yield (S := fun w' => w' = w6) (v := .pointer p) (Or.inl ⟨by rfl, fun w' hw' => by (rw [hw']; have cc : w6.cell? ⟨W.heap.size, 0, none⟩ = some (.pointer p) := H.out.box.cell 0; go_simp)⟩) rfl ?_
    simp only [AP]
    refine wpSeq_wp rfl ?_
    unfold Oper.wp execOp
    go_simp
    refine (FM.out _ H.out.rm H.out.leB).mono ?_
    rintro _ w7 ⟨⟨vx2, rfl⟩, R1, k1⟩
    replace RES := Lib.hid (blk_gb k1 RES.out neR.out)
    replace K5 := Lib.hid (blk_gb k1 K5.out ne5.out)
    replace H := Lib.hid (H.out.step R1 k1)
    clear R1 k1 FM
    go_simp
    refine wpSeq_nil ?_
    refine (by assumption : ∀ (a : Act) (w : World), _ → _) _ _ ?_
    have N1 := Lib.hid (fun w h => name_m B p lv c3 w h)
    obtain ⟨⟨to, l4, c4⟩, hn1⟩ : ∃ q, nameS lv c3 = q := ⟨_, rfl⟩
    rw [hn1] at N1
    have N2 := Lib.hid (fun w h => name_m B p l4 c4 w h)
    obtain ⟨⟨fr, l5, c5⟩, hn2⟩ : ∃ q, nameS l4 c4 = q := ⟨_, rfl⟩
    rw [hn2] at N2
    dsimp only at N1 N2
    have E4 := Lib.hid (And.intro hn1 hn2)
    clear hn1 hn2
    skip
    have bd := below_drew (Below.refl w7.heap.size w7)
    replace H := Lib.hid (H.out.below bd)
    replace RES := Lib.hid (RES.out.below' bd)
    replace K5 := Lib.hid (K5.out.below' bd)
    clear bd
    go_upto_region 11 with fail
    rename_i aK
    refine wp_region_S (S := fun w' => Blk w' W.heap.size 51 #[.pointer p]) (by kernel_rfl) ?_
    generalize World.drew w7 = w8 at *
    have hS := H.out.box
    refine wpAnyS_takeL 0 (v := .agg #[.pointer p]) rfl (by kernel_rfl) (by kernel_rfl) (by kernel_rfl) (fun _ _ _ H => H) (show YieldsIf _ _ _ _ (.agg #[.pointer p]) _ from yieldsIf_load_mid (S := fun w' => Blk w' W.heap.size 51 #[.pointer p]) rfl 51 _ rfl W.heap.size 0 rfl [.pointer p] _ (fun _ h => blk_range h) Try.underlying51 rfl info_rd) hS ?_
    simp only [AP]
    refine wpAnyS_takeL 2 (v := .agg #[.pointer p]) rfl (by kernel_rfl) (by kernel_rfl) (by kernel_rfl) (fun _ _ _ H => H) (show YieldsIf _ _ _ _ (.agg #[.pointer p]) _ from yieldsIf_load_mid (S := fun w' => Blk w' W.heap.size 51 #[.pointer p]) rfl 51 _ rfl W.heap.size 0 rfl [.pointer p] _ (fun _ h => blk_range h) Try.underlying51 rfl info_rd) hS ?_
    simp only [AP]
    refine gstep 1 rfl rfl (by kernel_rfl) ?_
    unfold Oper.wp execOp
    go_simp
    refine (N1.out _ H.out.rm).mono ?_
    rintro _ w9 ⟨⟨vt, rfl, Ot⟩, R1, k1⟩
    replace Ot := Lib.hid (Ot.mono_ (B' := w4.heap.size + 1) K5.out.lt)
    replace RES := Lib.hid (blk_gb k1 RES.out neR.out)
    replace K5 := Lib.hid (blk_gb k1 K5.out ne5.out)
    replace H := Lib.hid (H.out.step R1 k1)
    clear R1 k1 N1
    go_simp
    obtain ⟨pt, ct, ht⟩ := Ot.out.shape
    subst ht
    refine ⟨H.out.box, ?_⟩
    replace hS := H.out.box
    refine wpAnyS_takeL 4 (v := .pointer (some ⟨w4.heap.size, 1, none⟩)) rfl (by kernel_rfl) (by kernel_rfl) (by kernel_rfl) (fun _ _ _ H => H) (Or.inl ⟨by rfl, fun w' hw' => by go_simp⟩) hS ?_
    simp only [AP]
    refine gstep 3 rfl rfl (by kernel_rfl) ?_
    unfold Oper.wp execOp
    go_simp
    refine (N2.out _ H.out.rm).mono ?_
    rintro _ w10 ⟨⟨vf, rfl, Of⟩, R1, k1⟩
    replace Of := Lib.hid (Of.mono_ (B' := w4.heap.size + 1) K5.out.lt)
    replace RES := Lib.hid (blk_gb k1 RES.out neR.out)
    replace K5 := Lib.hid (blk_gb k1 K5.out ne5.out)
    replace Ot := Lib.hid (Ot.out.gb k1 ltB.out)
    replace H := Lib.hid (H.out.step R1 k1)
    clear R1 k1 N2
    go_simp
    obtain ⟨pf, cf, hf⟩ := Of.out.shape
    subst hf
    refine ⟨H.out.box, ?_⟩
    have cs : w10.cell? ⟨w4.heap.size, 1, none⟩ = some (.slice none 0 0) := K5.out.cell 1
    have fz : w10.frozen? ⟨w4.heap.size, 1, none⟩ = false := K5.out.frozen 1
    refine gstep 5 rfl rfl (by kernel_rfl) ?_
    unfold Oper.wp execOp
    go_simp
    have kk := gb_store w10 (w4.heap.size) 1 (.slice pt to.length ct)
    have K6 : Blk (w10.setCell ⟨w4.heap.size, 1, none⟩ (.slice pt to.length ct)) (w4.heap.size) 31 #[.int .i64 0, .slice pt to.length ct, .slice none 0 0] := K5.out.set 1 _
    replace K5 := Lib.hid K6
    replace RES := Lib.hid (RES.out.far (p := ⟨w4.heap.size, 1, none⟩) (Nat.ne_of_lt G5.out) (.slice pt to.length ct))
    replace H := Lib.hid (H.out.own (Nat.lt_of_succ_lt G5.out) kk)
    replace Ot := Lib.hid (Ot.out.gb kk lt5.out)
    replace Of := Lib.hid (Of.out.gb kk lt5.out)
    clear K6 kk cs fz
    generalize World.setCell w10 _ _ = w11 at *
    refine ⟨H.out.box, ?_⟩
    replace hS := H.out.box
    refine wpAnyS_takeL 6 (v := .pointer (some ⟨w4.heap.size, 2, none⟩)) rfl (by kernel_rfl) (by kernel_rfl) (by kernel_rfl) (fun _ _ _ H => H) (Or.inl ⟨by rfl, fun w' hw' => by go_simp⟩) hS ?_
    simp only [AP]
    have cs : w11.cell? ⟨w4.heap.size, 2, none⟩ = some (.slice none 0 0) := K5.out.cell 2
    have fz : w11.frozen? ⟨w4.heap.size, 2, none⟩ = false := K5.out.frozen 2
    refine gstep 7 rfl rfl (by kernel_rfl) ?_
    unfold Oper.wp execOp
    go_simp
    have kk := gb_store w11 (w4.heap.size) 2 (.slice pf fr.length cf)
    have K6 : Blk (w11.setCell ⟨w4.heap.size, 2, none⟩ (.slice pf fr.length cf)) (w4.heap.size) 31 #[.int .i64 0, .slice pt to.length ct, .slice pf fr.length cf] := K5.out.set 2 _
    replace K5 := Lib.hid K6
    replace RES := Lib.hid (RES.out.far (p := ⟨w4.heap.size, 2, none⟩) (Nat.ne_of_lt G5.out) (.slice pf fr.length cf))
    replace H := Lib.hid (H.out.own (Nat.lt_of_succ_lt G5.out) kk)
    replace Ot := Lib.hid (Ot.out.gb kk lt5.out)
    replace Of := Lib.hid (Of.out.gb kk lt5.out)
    clear K6 kk cs fz
    generalize World.setCell w11 _ _ = w12 at *
    refine ⟨H.out.box, ?_⟩
    refine wpAnyS_done (by kernel_rfl) ?_ _
    refine (by assumption : ∀ (a : Act) (w : World), _ → _) _ _ ?_
    clear hS
    have B2 := Lib.hid (fun w h hB => byte_m B p l5 c5 w h hB)
    obtain ⟨⟨xz, l6, c6⟩, hz1⟩ : ∃ q, tkS 1 l5 c5 = q := ⟨_, rfl⟩
    rw [show tookS 1 l5 c5 = tkS 1 l5 c5 from rfl, hz1] at B2
    dsimp only at B2
    obtain ⟨u, hu⟩ : ∃ u, xz.getD 0 0 = u := ⟨_, rfl⟩
    rw [hu] at B2
    have E6 := Lib.hid (And.intro hz1 hu)
    clear hz1 hu
    by_cases u0 : u = 0
    · skip
      go_upto_region 12 with fail
      rename_i aK
      refine wp_region_seq ?_
      refine wpSeq_yield (S := fun _ => True) (v := .pointer (some ⟨w4.heap.size, 0, none⟩)) (Or.inl ⟨by rfl, fun w' hw' => by go_simp⟩) trivial ?_
      simp only [AP]
      refine wpSeq_yield (S := fun w' => w' = w12) (v := .int .i64 0) (Or.inl ⟨by rfl, fun w' hw' => by (rw [hw']; have cc : w12.cell? ⟨w4.heap.size, 0, none⟩ = some (.int .i64 0) := K5.out.cell 0; go_simp)⟩) rfl ?_
      simp only [AP]
      refine wpSeq_yield (S := fun _ => True) (v := .bool true) (Or.inl ⟨by rfl, fun w' hw' => by go_simp⟩) trivial ?_
      simp only [AP]
      refine wpSeq_yield (S := fun _ => True) (yieldsIf_move rfl _ rfl (.bool true) rfl) trivial ?_
      simp only [AP]
      refine wpSeq_yield (S := fun _ => True) (v := .pointer (some ⟨W.heap.size, 0, none⟩)) (Or.inl ⟨by rfl, fun w' hw' => by go_simp⟩) trivial ?_
      simp only [AP]
      refine wpSeq_yield (S := fun w' => w' = w12) (v := .pointer p) (Or.inl ⟨by rfl, fun w' hw' => by (rw [hw']; have cc : w12.cell? ⟨W.heap.size, 0, none⟩ = some (.pointer p) := H.out.box.cell 0; go_simp)⟩) rfl ?_
      simp only [AP]
      refine wpSeq_wp rfl ?_
      unfold Oper.wp execOp
      go_simp
      refine (B2.out _ H.out.rm H.out.leB).mono ?_
      rintro _ w13 ⟨rfl, R1, k1⟩
      replace RES := Lib.hid (blk_gb k1 RES.out neR.out)
      replace K5 := Lib.hid (blk_gb k1 K5.out ne5.out)
      replace Ot := Lib.hid (Ot.out.gb k1 ltB.out)
      replace Of := Lib.hid (Of.out.gb k1 ltB.out)
      replace H := Lib.hid (H.out.step R1 k1)
      clear R1 k1 B2
      go_simp
      refine wpSeq_yield (S := fun _ => True) (v := .bool false) (Or.inl ⟨by rfl, fun w' hw' => by (go_simp; try omega)⟩) trivial ?_
      simp only [AP]
      refine wpSeq_yield (S := fun _ => True) (yieldsIf_pick rfl _ _ _ rfl true rfl (.bool false) rfl) trivial ?_
      simp only [AP]
      refine wpSeq_nil ?_
      refine (by assumption : ∀ (a : Act) (w : World), _ → _) _ _ ?_
      have EZ : 0 = 0 ∧ l6 = (tkS 1 l5 c5).2.1 ∧ c6 = if (tkS 1 l5 c5).1.getD 0 0 ≠ 0 then failT (tkS 1 l5 c5).2.2 5 else (tkS 1 l5 c5).2.2 := by
        rw [E6.out.1]
        dsimp only
        rw [E6.out.2, if_neg (fun e => e u0)]
        exact ⟨rfl, rfl, rfl⟩
      replace EZ := Lib.hid EZ
      clear E6 u0
      have ZM := Lib.hid (fun w h => size_m B p l6 c6 w h)
      have E7 := Lib.hid (take_long b x1 l1 xv lv to l4 fr l5 l6 0 c1 c2 cv c3 c4 c5 c6 E1.out.1 (by rw [E1.out.2]; have := HY.out; omega) (by rw [E1.out.2]; have := HY.out; omega) (by rw [E1.out.2, if_pos (by unfold faultF; have := HY.out; omega)]; exact E2.out.symm) EV.out E3.out E4.out.1 E4.out.2 (Or.inl EZ.out))
      have zl : sizeN (numS l6 c6) ≤ (numS l6 c6).2.1.length := size_le _
      replace zl := Lib.hid zl
      generalize numS l6 c6 = q at *
      clear HY E1 E2 EV E3 E4
      have bd := below_drew (Below.refl w13.heap.size w13)
      replace H := Lib.hid (H.out.below bd)
      replace RES := Lib.hid (RES.out.below' bd)
      replace K5 := Lib.hid (K5.out.below' bd)
      replace Ot := Lib.hid (Ot.out.below bd)
      replace Of := Lib.hid (Of.out.below bd)
      clear bd
      go_upto_region 14 with fail
      rename_i aK
      refine wp_region_S (S := fun w' => Blk w' W.heap.size 51 #[.pointer p] ∧ Blk w' w4.heap.size 31 #[.int .i64 0, .slice pt to.length ct, .slice pf fr.length cf]) (by kernel_rfl) ?_
      generalize World.drew w13 = w14 at *
      have hS := And.intro H.out.box K5.out
      refine wpAnyS_takeL 0 (v := .agg #[.int .i64 0, .slice pt to.length ct, .slice pf fr.length cf]) rfl (by kernel_rfl) (by kernel_rfl) (by kernel_rfl) (fun _ _ _ H => H) (show YieldsIf _ _ _ _ (.agg #[.int .i64 0, .slice pt to.length ct, .slice pf fr.length cf]) _ from yieldsIf_load_mid (S := fun w' => Blk w' W.heap.size 51 #[.pointer p] ∧ Blk w' w4.heap.size 31 #[.int .i64 0, .slice pt to.length ct, .slice pf fr.length cf]) rfl 31 _ rfl (w4.heap.size) 0 rfl [.int .i64 0, .slice pt to.length ct, .slice pf fr.length cf] _ (fun _ h => blk_range h.2) Try.underlying31 rfl info_hd) hS ?_
      simp only [AP]
      refine wpAnyS_takeL 1 (v := .agg #[.pointer p]) rfl (by kernel_rfl) (by kernel_rfl) (by kernel_rfl) (fun _ _ _ H => H) (show YieldsIf _ _ _ _ (.agg #[.pointer p]) _ from yieldsIf_load_mid (S := fun w' => Blk w' W.heap.size 51 #[.pointer p] ∧ Blk w' w4.heap.size 31 #[.int .i64 0, .slice pt to.length ct, .slice pf fr.length cf]) rfl 51 _ rfl W.heap.size 0 rfl [.pointer p] _ (fun _ h => blk_range h.1) Try.underlying51 rfl info_rd) hS ?_
      simp only [AP]
      refine gstep 2 rfl rfl (by kernel_rfl) ?_
      unfold Oper.wp execOp
      go_simp
      refine (ZM.out _ H.out.rm).mono ?_
      rintro _ w15 ⟨rfl, R1, k1, _⟩
      replace RES := Lib.hid (blk_gb k1 RES.out neR.out)
      replace K5 := Lib.hid (blk_gb k1 K5.out ne5.out)
      replace Ot := Lib.hid (Ot.out.gb k1 ltB.out)
      replace Of := Lib.hid (Of.out.gb k1 ltB.out)
      replace H := Lib.hid (H.out.step R1 k1)
      clear R1 k1 ZM
      go_simp
      refine ⟨And.intro H.out.box K5.out, ?_⟩
      refine gstep 3 rfl rfl (by kernel_rfl) (wp_store_row 31 _ _ rfl (W.heap.size + 1) #[.int .i64 0, .slice pt to.length ct, .slice pf fr.length cf] rfl rfl _ _ RES.out info_hd rfl (cell_one _ _ _ _ _ _ _) ⟨And.intro (H.out.box.rowFar (by omega) _) (K5.out.rowFar (Nat.ne_of_gt G5.out) _), ?_⟩)
      simp only [Act.put]
      have kk := gb_row w15 (W.heap.size + 1) #[.int .i64 0, .slice pt to.length ct, .slice pf fr.length cf]
      have RES2 : Blk (w15.setRow (W.heap.size + 1) #[.int .i64 0, .slice pt to.length ct, .slice pf fr.length cf]) (W.heap.size + 1) 31 #[.int .i64 0, .slice pt to.length ct, .slice pf fr.length cf] := RES.out.row _
      replace RES := Lib.hid RES2
      replace H := Lib.hid (H.out.own (by omega) kk)
      have lr := Nat.lt_succ_of_lt G5.out
      replace Ot := Lib.hid (Ot.out.gb kk lr)
      replace Of := Lib.hid (Of.out.gb kk lr)
      replace K5 := Lib.hid (K5.out.rowFar (Nat.ne_of_gt G5.out) #[.int .i64 0, .slice pt to.length ct, .slice pf fr.length cf])
      clear kk RES2
      generalize World.setRow _ _ _ = w16 at *
      replace hS := And.intro H.out.box K5.out
      refine wpAnyS_takeL 4 (v := .int .i64 ((sizeN q : Nat) : Int)) rfl (by kernel_rfl) (by kernel_rfl) (by kernel_rfl) (fun _ _ _ H => H) (yieldsIf_assign rfl _ rfl (.int .i64 ((sizeN q : Nat) : Int)) rfl) hS ?_
      simp only [AP]
      refine wpAnyS_done (by kernel_rfl) ?_ _
      refine (by assumption : ∀ (a : Act) (w : World), _ → _) _ _ ?_
      go_wp2
      refine bodyPost_ret (results_cell1 rfl _ _ _ _ _ _ rfl RES.out Try.underlying31 rfl info_hd) rfl ?_
      unfold HeadPost
      exact ⟨0, _, _, to, fr, sizeN q, q.2.1, lackN q, rfl, Ot.out.mono_ (by have := G5.out; omega), Of.out.mono_ (by have := G5.out; omega), H.out.rm, H.out.gb, E7.out.1, E7.out.2, zl.out⟩
    · skip
      go_upto_region 12 with fail
      rename_i aK
      refine wp_region_seq ?_
      refine wpSeq_yield (S := fun _ => True) (v := .pointer (some ⟨w4.heap.size, 0, none⟩)) (Or.inl ⟨by rfl, fun w' hw' => by go_simp⟩) trivial ?_
      simp only [AP]
      refine wpSeq_yield (S := fun w' => w' = w12) (v := .int .i64 0) (Or.inl ⟨by rfl, fun w' hw' => by (rw [hw']; have cc : w12.cell? ⟨w4.heap.size, 0, none⟩ = some (.int .i64 0) := K5.out.cell 0; go_simp)⟩) rfl ?_
      simp only [AP]
      refine wpSeq_yield (S := fun _ => True) (v := .bool true) (Or.inl ⟨by rfl, fun w' hw' => by go_simp⟩) trivial ?_
      simp only [AP]
      refine wpSeq_yield (S := fun _ => True) (yieldsIf_move rfl _ rfl (.bool true) rfl) trivial ?_
      simp only [AP]
      refine wpSeq_yield (S := fun _ => True) (v := .pointer (some ⟨W.heap.size, 0, none⟩)) (Or.inl ⟨by rfl, fun w' hw' => by go_simp⟩) trivial ?_
      simp only [AP]
      refine wpSeq_yield (S := fun w' => w' = w12) (v := .pointer p) (Or.inl ⟨by rfl, fun w' hw' => by (rw [hw']; have cc : w12.cell? ⟨W.heap.size, 0, none⟩ = some (.pointer p) := H.out.box.cell 0; go_simp)⟩) rfl ?_
      simp only [AP]
      refine wpSeq_wp rfl ?_
      unfold Oper.wp execOp
      go_simp
      refine (B2.out _ H.out.rm H.out.leB).mono ?_
      rintro _ w13 ⟨rfl, R1, k1⟩
      replace RES := Lib.hid (blk_gb k1 RES.out neR.out)
      replace K5 := Lib.hid (blk_gb k1 K5.out ne5.out)
      replace Ot := Lib.hid (Ot.out.gb k1 ltB.out)
      replace Of := Lib.hid (Of.out.gb k1 ltB.out)
      replace H := Lib.hid (H.out.step R1 k1)
      clear R1 k1 B2
      go_simp
      refine wpSeq_yield (S := fun _ => True) (v := .bool true) (Or.inl ⟨by rfl, fun w' hw' => by (go_simp; try omega)⟩) trivial ?_
      simp only [AP]
      refine wpSeq_yield (S := fun _ => True) (yieldsIf_pick rfl _ _ _ rfl true rfl (.bool true) rfl) trivial ?_
      simp only [AP]
      refine wpSeq_nil ?_
      refine (by assumption : ∀ (a : Act) (w : World), _ → _) _ _ ?_
      have FM := Lib.hid (fun w h hB => fail_m B p l6 c6 5 w h hB)
      rw [show (if c6 = 0 then 5 else c6) = failT c6 5 from rfl] at FM
      obtain ⟨c7, hc7⟩ : ∃ c7, failT c6 5 = c7 := ⟨_, rfl⟩
      rw [hc7] at FM
      have EZ : 0 = 0 ∧ l6 = (tkS 1 l5 c5).2.1 ∧ c7 = if (tkS 1 l5 c5).1.getD 0 0 ≠ 0 then failT (tkS 1 l5 c5).2.2 5 else (tkS 1 l5 c5).2.2 := by
        rw [E6.out.1]
        dsimp only
        rw [E6.out.2, if_pos u0]
        exact ⟨rfl, rfl, hc7.symm⟩
      replace EZ := Lib.hid EZ
      clear E6 u0 hc7
      go_upto_region 13 with fail
      rename_i aK
      refine wp_region_seq ?_
      refine wpSeq_yield (S := fun _ => True) (v := .pointer (some ⟨W.heap.size, 0, none⟩)) (Or.inl ⟨by rfl, fun w' hw' => by go_simp⟩) trivial ?_
      simp only [AP]
      refine wpSeq_yield (S := fun w' => w' = w13) (v := .pointer p) (Or.inl ⟨by rfl, fun w' hw' => by (rw [hw']; have cc : w13.cell? ⟨W.heap.size, 0, none⟩ = some (.pointer p) := H.out.box.cell 0; go_simp)⟩) rfl ?_
      simp only [AP]
      refine wpSeq_wp rfl ?_
      unfold Oper.wp execOp
      go_simp
      refine (FM.out _ H.out.rm H.out.leB).mono ?_
      rintro _ w14 ⟨⟨vx3, rfl⟩, R1, k1⟩
      replace RES := Lib.hid (blk_gb k1 RES.out neR.out)
      replace K5 := Lib.hid (blk_gb k1 K5.out ne5.out)
      replace Ot := Lib.hid (Ot.out.gb k1 ltB.out)
      replace Of := Lib.hid (Of.out.gb k1 ltB.out)
      replace H := Lib.hid (H.out.step R1 k1)
      clear R1 k1 FM
      go_simp
      refine wpSeq_nil ?_
      refine (by assumption : ∀ (a : Act) (w : World), _ → _) _ _ ?_
      have ZM := Lib.hid (fun w h => size_m B p l6 c7 w h)
      have E7 := Lib.hid (take_long b x1 l1 xv lv to l4 fr l5 l6 0 c1 c2 cv c3 c4 c5 c7 E1.out.1 (by rw [E1.out.2]; have := HY.out; omega) (by rw [E1.out.2]; have := HY.out; omega) (by rw [E1.out.2, if_pos (by unfold faultF; have := HY.out; omega)]; exact E2.out.symm) EV.out E3.out E4.out.1 E4.out.2 (Or.inl EZ.out))
      have zl : sizeN (numS l6 c7) ≤ (numS l6 c7).2.1.length := size_le _
      replace zl := Lib.hid zl
      generalize numS l6 c7 = q at *
      clear HY E1 E2 EV E3 E4
      have bd := below_drew (Below.refl w14.heap.size w14)
      replace H := Lib.hid (H.out.below bd)
      replace RES := Lib.hid (RES.out.below' bd)
      replace K5 := Lib.hid (K5.out.below' bd)
      replace Ot := Lib.hid (Ot.out.below bd)
      replace Of := Lib.hid (Of.out.below bd)
      clear bd
      go_upto_region 14 with fail
      rename_i aK
      refine wp_region_S (S := fun w' => Blk w' W.heap.size 51 #[.pointer p] ∧ Blk w' w4.heap.size 31 #[.int .i64 0, .slice pt to.length ct, .slice pf fr.length cf]) (by kernel_rfl) ?_
      generalize World.drew w14 = w15 at *
      have hS := And.intro H.out.box K5.out
      refine wpAnyS_takeL 0 (v := .agg #[.int .i64 0, .slice pt to.length ct, .slice pf fr.length cf]) rfl (by kernel_rfl) (by kernel_rfl) (by kernel_rfl) (fun _ _ _ H => H) (show YieldsIf _ _ _ _ (.agg #[.int .i64 0, .slice pt to.length ct, .slice pf fr.length cf]) _ from yieldsIf_load_mid (S := fun w' => Blk w' W.heap.size 51 #[.pointer p] ∧ Blk w' w4.heap.size 31 #[.int .i64 0, .slice pt to.length ct, .slice pf fr.length cf]) rfl 31 _ rfl (w4.heap.size) 0 rfl [.int .i64 0, .slice pt to.length ct, .slice pf fr.length cf] _ (fun _ h => blk_range h.2) Try.underlying31 rfl info_hd) hS ?_
      simp only [AP]
      refine wpAnyS_takeL 1 (v := .agg #[.pointer p]) rfl (by kernel_rfl) (by kernel_rfl) (by kernel_rfl) (fun _ _ _ H => H) (show YieldsIf _ _ _ _ (.agg #[.pointer p]) _ from yieldsIf_load_mid (S := fun w' => Blk w' W.heap.size 51 #[.pointer p] ∧ Blk w' w4.heap.size 31 #[.int .i64 0, .slice pt to.length ct, .slice pf fr.length cf]) rfl 51 _ rfl W.heap.size 0 rfl [.pointer p] _ (fun _ h => blk_range h.1) Try.underlying51 rfl info_rd) hS ?_
      simp only [AP]
      refine gstep 2 rfl rfl (by kernel_rfl) ?_
      unfold Oper.wp execOp
      go_simp
      refine (ZM.out _ H.out.rm).mono ?_
      rintro _ w16 ⟨rfl, R1, k1, _⟩
      replace RES := Lib.hid (blk_gb k1 RES.out neR.out)
      replace K5 := Lib.hid (blk_gb k1 K5.out ne5.out)
      replace Ot := Lib.hid (Ot.out.gb k1 ltB.out)
      replace Of := Lib.hid (Of.out.gb k1 ltB.out)
      replace H := Lib.hid (H.out.step R1 k1)
      clear R1 k1 ZM
      go_simp
      refine ⟨And.intro H.out.box K5.out, ?_⟩
      refine gstep 3 rfl rfl (by kernel_rfl) (wp_store_row 31 _ _ rfl (W.heap.size + 1) #[.int .i64 0, .slice pt to.length ct, .slice pf fr.length cf] rfl rfl _ _ RES.out info_hd rfl (cell_one _ _ _ _ _ _ _) ⟨And.intro (H.out.box.rowFar (by omega) _) (K5.out.rowFar (Nat.ne_of_gt G5.out) _), ?_⟩)
      simp only [Act.put]
      have kk := gb_row w16 (W.heap.size + 1) #[.int .i64 0, .slice pt to.length ct, .slice pf fr.length cf]
      have RES2 : Blk (w16.setRow (W.heap.size + 1) #[.int .i64 0, .slice pt to.length ct, .slice pf fr.length cf]) (W.heap.size + 1) 31 #[.int .i64 0, .slice pt to.length ct, .slice pf fr.length cf] := RES.out.row _
      replace RES := Lib.hid RES2
      replace H := Lib.hid (H.out.own (by omega) kk)
      have lr := Nat.lt_succ_of_lt G5.out
      replace Ot := Lib.hid (Ot.out.gb kk lr)
      replace Of := Lib.hid (Of.out.gb kk lr)
      replace K5 := Lib.hid (K5.out.rowFar (Nat.ne_of_gt G5.out) #[.int .i64 0, .slice pt to.length ct, .slice pf fr.length cf])
      clear kk RES2
      generalize World.setRow _ _ _ = w17 at *
      replace hS := And.intro H.out.box K5.out
      refine wpAnyS_takeL 4 (v := .int .i64 ((sizeN q : Nat) : Int)) rfl (by kernel_rfl) (by kernel_rfl) (by kernel_rfl) (fun _ _ _ H => H) (yieldsIf_assign rfl _ rfl (.int .i64 ((sizeN q : Nat) : Int)) rfl) hS ?_
      simp only [AP]
      refine wpAnyS_done (by kernel_rfl) ?_ _
      refine (by assumption : ∀ (a : Act) (w : World), _ → _) _ _ ?_
      go_wp2
      refine bodyPost_ret (results_cell1 rfl _ _ _ _ _ _ rfl RES.out Try.underlying31 rfl info_hd) rfl ?_
      unfold HeadPost
      exact ⟨0, _, _, to, fr, sizeN q, q.2.1, lackN q, rfl, Ot.out.mono_ (by have := G5.out; omega), Of.out.mono_ (by have := G5.out; omega), H.out.rm, H.out.gb, E7.out.1, E7.out.2, zl.out⟩
set_option maxHeartbeats 8000000 in
set_option maxRecDepth 100000 in
theorem long_a1 (B : Nat) (p : Option Addr) (b : List Nat) (W : World) (h : RM B W p b 0) (x1 l1 : List Nat) (c1 : Nat) (h1 : tkS 1 b 0 = (x1, l1, c1)) (hy : x1.getD 0 0 / 64 % 2 = 0 ∧ 128 ≤ x1.getD 0 0 ∧ x1.getD 0 0 / 32 % 2 = 1) : Calls Try.prog 21 #[.agg #[.pointer p]] W (HeadPost B p b W) := by
  have hB := h.lt
  have bb := rm_bytes h
  have BM := Lib.hid (fun w h hB => byte_m B p b 0 w h hB)
  rw [show tookS 1 b 0 = tkS 1 b 0 from rfl, h1] at BM
  dsimp only at BM
  have y256 : x1.getD 0 0 < 256 := by
    have e : x1 = (tkS 1 b 0).1 := by rw [h1]
    rw [e]
    exact tk_byte b bb
  obtain ⟨y, hyy⟩ : ∃ y, x1.getD 0 0 = y := ⟨_, rfl⟩
  have E1 := Lib.hid (And.intro h1 hyy)
  rw [hyy] at BM y256 hy
  have AB := and_bits y y256
  have A64 : bits BinOp.and IntKind.u8 (y : Int) 64 = 0 := by rw [AB.1]; omega
  have A128 : bits BinOp.and IntKind.u8 (y : Int) 128 = 128 := by rw [AB.2.1]; omega
  have A16 := AB.2.2.1
  have A32 := AB.2.2.2
  replace A32 : bits BinOp.and IntKind.u8 (y : Int) 32 = 32 := by rw [A32]; omega
  have HY := Lib.hid hy
  clear AB h1 hyy bb y256 hy
  go_enter Try.func21, Try.ntmps21
  go_upto_region 0 with fail
  rename_i aK
  refine wp_region_seq ?_
  refine wpSeq_wp rfl ?_
  unfold Oper.wp execOp
  go_simp
  refine wpSeq_wp rfl ?_
  unfold Oper.wp execOp
  go_simp
  refine wpSeq_yield (S := fun _ => True) (yieldsIf_assign rfl _ rfl (.int .i64 0) rfl) trivial ?_
  simp only [AP]
  refine wpSeq_nil ?_
  refine aK _ _ ?_
  clear aK
  have b0 := ((Below.refl W.heap.size W).alloc (Nat.le_refl _) (.cells #[.pointer p] 51)).alloc (by rw [size_alloc1]; omega) (.cells #[.int .i64 0, .slice none 0 0, .slice none 0 0] 31)
  have RES := Blk.new (W.alloc (.cells #[.pointer p] 51)) 31 #[.int .i64 0, .slice none 0 0, .slice none 0 0]
  rw [size_alloc1] at RES
  have H := Lib.hid (HS.mk (h.below b0) hB ((Blk.new W 51 #[.pointer p]).alloc (.cells #[.int .i64 0, .slice none 0 0, .slice none 0 0] 31)) (gb_below b0 _))
  replace RES := Lib.hid RES
  have neR := Lib.hid (show W.heap.size + 1 ≠ B by omega)
  generalize World.alloc (World.alloc W _) _ = w2 at *
  clear b0 hB h
  go_upto_region 1 with fail
  rename_i aK
  refine wp_region_seq ?_
  refine wpSeq_yield (S := fun _ => True) (v := .pointer (some ⟨W.heap.size, 0, none⟩)) (Or.inl ⟨by rfl, fun w' hw' => by go_simp⟩) trivial ?_
  simp only [AP]
  refine wpSeq_yield (S := fun w' => w' = w2) (v := .pointer p) (Or.inl ⟨by rfl, fun w' hw' => by (rw [hw']; have cc : w2.cell? ⟨W.heap.size, 0, none⟩ = some (.pointer p) := H.out.box.cell 0; go_simp)⟩) rfl ?_
  simp only [AP]
  refine wpSeq_wp rfl ?_
  unfold Oper.wp execOp
  go_simp
  refine (BM.out _ H.out.rm H.out.leB).mono ?_
  rintro _ w3 ⟨rfl, R1, k1⟩
  replace RES := Lib.hid (blk_gb k1 RES.out neR.out)
  replace H := Lib.hid (H.out.step R1 k1)
  clear R1 k1 BM
  go_simp
  refine wpSeq_yield (S := fun _ => True) (yieldsIf_assign rfl _ rfl (.int .u8 (y : Int)) rfl) trivial ?_
  simp only [AP]
  refine wpSeq_nil ?_
  refine (by assumption : ∀ (a : Act) (w : World), _ → _) _ _ ?_
  go_upto_region 2 with fail
  rename_i aK
  refine wp_region_seq ?_
  refine wpSeq_yield (S := fun _ => True) (yieldsIf_move rfl _ rfl (.int .u8 (y : Int)) rfl) trivial ?_
  simp only [AP]
  refine wpSeq_yield (S := fun _ => True) (v := .int .u8 0) (Or.inl ⟨by rfl, fun w' hw' => by go_simp⟩) trivial ?_
  simp only [AP]
  refine wpSeq_yield (S := fun _ => True) (v := .bool true) (Or.inl ⟨by rfl, fun w' hw' => by (go_simp; try omega)⟩) trivial ?_
  simp only [AP]
  refine wpSeq_yield (S := fun _ => True) (yieldsIf_move rfl _ rfl (.bool true) rfl) trivial ?_
  simp only [AP]
  refine wpSeq_yield (S := fun _ => True) (yieldsIf_off rfl) trivial ?_
  simp only [AP]
  refine wpSeq_yield (S := fun _ => True) (yieldsIf_off rfl) trivial ?_
  simp only [AP]
  refine wpSeq_yield (S := fun _ => True) (yieldsIf_off rfl) trivial ?_
  simp only [AP]
  refine wpSeq_yield (S := fun _ => True) (yieldsIf_off rfl) trivial ?_
  simp only [AP]
  refine wpSeq_yield (S := fun _ => True) (yieldsIf_off rfl) trivial ?_
  simp only [AP]
  refine wpSeq_yield (S := fun _ => True) (yieldsIf_off rfl) trivial ?_
  simp only [AP]
  refine wpSeq_yield (S := fun _ => True) (yieldsIf_off rfl) trivial ?_
  simp only [AP]
  refine wpSeq_yield (S := fun _ => True) (yieldsIf_off rfl) trivial ?_
  simp only [AP]
  refine wpSeq_yield (S := fun _ => True) (yieldsIf_pick rfl _ _ _ rfl true rfl (.bool true) rfl) trivial ?_
  simp only [AP]
  refine wpSeq_nil ?_
  refine (by assumption : ∀ (a : Act) (w : World), _ → _) _ _ ?_
  have FM := Lib.hid (fun w h hB => fail_m B p l1 c1 5 w h hB)
  rw [show (if c1 = 0 then 5 else c1) = failT c1 5 from rfl] at FM
  obtain ⟨c2, hc2⟩ : ∃ c2, failT c1 5 = c2 := ⟨_, rfl⟩
  rw [hc2] at FM
  have E2 := Lib.hid hc2
  clear hc2
  go_upto_region 3 with fail
  rename_i aK
  refine wp_region_seq ?_
  refine wpSeq_yield (S := fun _ => True) (v := .pointer (some ⟨W.heap.size, 0, none⟩)) (Or.inl ⟨by rfl, fun w' hw' => by go_simp⟩) trivial ?_
  simp only [AP]
  refine wpSeq_yield (S := fun w' => w' = w3) (v := .pointer p) (Or.inl ⟨by rfl, fun w' hw' => by (rw [hw']; have cc : w3.cell? ⟨W.heap.size, 0, none⟩ = some (.pointer p) := H.out.box.cell 0; go_simp)⟩) rfl ?_
  simp only [AP]
  refine wpSeq_wp rfl ?_
  unfold Oper.wp execOp
  go_simp
  refine (FM.out _ H.out.rm H.out.leB).mono ?_
  rintro _ w4 ⟨⟨vx, rfl⟩, R1, k1⟩
  replace RES := Lib.hid (blk_gb k1 RES.out neR.out)
  replace H := Lib.hid (H.out.step R1 k1)
  clear R1 k1 FM
  go_simp
  refine wpSeq_nil ?_
  refine (by assumption : ∀ (a : Act) (w : World), _ → _) _ _ ?_
  go_upto_region 4 with fail
  rename_i aK
  refine wp_region_seq ?_
  refine wpSeq_yield (S := fun _ => True) (yieldsIf_move rfl _ rfl (.int .u8 (y : Int)) rfl) trivial ?_
  simp only [AP]
  refine wpSeq_yield (S := fun _ => True) (v := .int .u8 128) (Or.inl ⟨by rfl, fun w' hw' => by go_simp⟩) trivial ?_
  simp only [AP]
  refine wpSeq_yield (S := fun _ => True) (v := .bool false) (Or.inl ⟨by rfl, fun w' hw' => by (go_simp; try omega)⟩) trivial ?_
  simp only [AP]
  refine wpSeq_nil ?_
  refine (by assumption : ∀ (a : Act) (w : World), _ → _) _ _ ?_
  have G5 := Lib.hid (show W.heap.size + 1 < w4.heap.size from RES.out.lt)
  go_upto_region 6 with fail
  rename_i aK
  refine wp_region_seq ?_
  refine wpSeq_yield (S := fun _ => True) (v := .agg #[.int .i64 0, .slice none 0 0, .slice none 0 0]) (Or.inl ⟨by rfl, fun w' hw' => by go_simp⟩) trivial ?_
  simp only [AP]
  refine wpSeq_wp rfl ?_
  unfold Oper.wp execOp
  go_simp
  refine wpSeq_store_row rfl 31 _ _ rfl (w4.heap.size) #[.int .i64 0, .slice none 0 0, .slice none 0 0] rfl rfl _ _ (Blk.new _ _ _) info_hd rfl (cell_one _ _ _ _ _ _ _) ?_
  simp only [Act.put]
  refine wpSeq_nil ?_
  refine (by assumption : ∀ (a : Act) (w : World), _ → _) _ _ ?_
  have hb := below_setRow ((Below.refl w4.heap.size w4).alloc (Nat.le_refl _) (.cells #[.int .i64 0, .slice none 0 0, .slice none 0 0] 31)) (Nat.le_refl _) #[.int .i64 0, .slice none 0 0, .slice none 0 0]
  have K5 : Blk ((w4.alloc (.cells #[.int .i64 0, .slice none 0 0, .slice none 0 0] 31)).setRow w4.heap.size #[.int .i64 0, .slice none 0 0, .slice none 0 0]) w4.heap.size 31 #[.int .i64 0, .slice none 0 0, .slice none 0 0] := (Blk.new w4 31 #[.int .i64 0, .slice none 0 0, .slice none 0 0]).row _
  generalize World.setRow _ _ _ = w5 at *
  replace H := Lib.hid (H.out.below hb)
  replace RES := Lib.hid (RES.out.below' hb)
  have ne5 := Lib.hid (show w4.heap.size ≠ B by have := G5.out; have := H.out.hB; omega)
  have lt5 := Lib.hid (Nat.lt_succ_self w4.heap.size)
  have ltB := Lib.hid (show B < w4.heap.size + 1 by have := G5.out; have := H.out.hB; omega)
  replace K5 := Lib.hid K5
  clear hb
  go_upto_region 7 with fail
  rename_i aK
  refine wp_region_seq ?_
  refine wpSeq_yield (S := fun _ => True) (yieldsIf_move rfl _ rfl (.int .u8 (y : Int)) rfl) trivial ?_
  simp only [AP]
  refine wpSeq_yield (S := fun _ => True) (v := .int .u8 32) (Or.inl ⟨by rfl, fun w' hw' => by go_simp⟩) trivial ?_
  simp only [AP]
  refine wpSeq_yield (S := fun _ => True) (v := .bool true) (Or.inl ⟨by rfl, fun w' hw' => by (go_simp; try omega)⟩) trivial ?_
  simp only [AP]
  refine wpSeq_nil ?_
  refine (by assumption : ∀ (a : Act) (w : World), _ → _) _ _ ?_
  go_upto_region 8 with fail
  rename_i aK
  refine wp_region_seq ?_
  refine wpSeq_yield (S := fun _ => True) (v := .pointer (some ⟨w4.heap.size, 0, none⟩)) (Or.inl ⟨by rfl, fun w' hw' => by go_simp⟩) trivial ?_
  simp only [AP]
  have cs : w5.cell? ⟨w4.heap.size, 0, none⟩ = some (.int .i64 0) := K5.out.cell 0
  have fz : w5.frozen? ⟨w4.heap.size, 0, none⟩ = false := K5.out.frozen 0
  refine wpSeq_wp rfl ?_
  unfold Oper.wp execOp
  go_simp
  have kk := gb_store w5 (w4.heap.size) 0 (.int .i64 1)
  have K6 : Blk (w5.setCell ⟨w4.heap.size, 0, none⟩ (.int .i64 1)) (w4.heap.size) 31 #[.int .i64 1, .slice none 0 0, .slice none 0 0] := K5.out.set 0 _
  replace K5 := Lib.hid K6
  replace RES := Lib.hid (RES.out.far (p := ⟨w4.heap.size, 0, none⟩) (Nat.ne_of_lt G5.out) (.int .i64 1))
  replace H := Lib.hid (H.out.own (Nat.lt_of_succ_lt G5.out) kk)
  clear K6 kk cs fz
  generalize World.setCell w5 _ _ = w6 at *
  refine wpSeq_nil ?_
  refine (by assumption : ∀ (a : Act) (w : World), _ → _) _ _ ?_
  clear A64 A128 A16 A32
  have YM := Lib.hid (fun w h hB => bytes_m B p l1 4 c2 w h hB)
  obtain ⟨⟨xv, lv, cv⟩, hv⟩ : ∃ q, tkS 4 l1 c2 = q := ⟨_, rfl⟩
  rw [show tookS 4 l1 c2 = tkS 4 l1 c2 from rfl, hv] at YM
  dsimp only at YM
  have bx : Bytes xv := by
    have e : xv = (tkS 4 l1 c2).1 := by rw [hv]
    rw [e]
    exact tk_bytes _ _ _ (rm_bytes H.out.rm)
  replace bx := Lib.hid bx
  have EV := Lib.hid hv
  clear hv
  by_cases ver : xv = [0, 0, 0, 1]
  · skip
    go_upto_region 9 with fail
    rename_i aK
    refine wp_region_seq ?_
    refine wpSeq_yield (S := fun _ => True) (v := .pointer (some ⟨W.heap.size, 0, none⟩)) (Or.inl ⟨by rfl, fun w' hw' => by go_simp⟩) trivial ?_
    simp only [AP]
    refine wpSeq_yield (S := fun w' => w' = w6) (v := .pointer p) (Or.inl ⟨by rfl, fun w' hw' => by (rw [hw']; have cc : w6.cell? ⟨W.heap.size, 0, none⟩ = some (.pointer p) := H.out.box.cell 0; go_simp)⟩) rfl ?_
    simp only [AP]
    refine wpSeq_wp rfl ?_
    unfold Oper.wp execOp
    go_simp
    refine (YM.out _ H.out.rm H.out.leB).mono ?_
    rintro _ w7 ⟨⟨vv, rfl, OV⟩, R1, k1⟩
    replace RES := Lib.hid (blk_gb k1 RES.out neR.out)
    replace K5 := Lib.hid (blk_gb k1 K5.out ne5.out)
    replace H := Lib.hid (H.out.step R1 k1)
    clear R1 k1 YM
    go_simp
    refine wpSeq_yield (S := fun w' => w' = w7) (yieldsIf_conv (S := fun w' => w' = w7) rfl _ rfl (vv) rfl xv (fun w' h => h ▸ OV.sb)) rfl ?_
    simp only [AP]
    refine wpSeq_yield (S := fun _ => True) (strN_eq rfl _ _ rfl _ _ rfl rfl (by rw [ver]; exact vers_is)) trivial ?_
    simp only [AP]
    refine wpSeq_nil ?_
    refine (by assumption : ∀ (a : Act) (w : World), _ → _) _ _ ?_
    clear OV
    obtain ⟨c3, hc3⟩ : ∃ c3, cv = c3 := ⟨_, rfl⟩
    rw [hc3] at H
    have E3 := Lib.hid (show c3 = if xv ≠ [0, 0, 0, 1] then failT cv 6 else cv by rw [if_neg (fun e => e ver)]; exact hc3.symm)
    clear hc3 ver bx
    have N1 := Lib.hid (fun w h => name_m B p lv c3 w h)
    obtain ⟨⟨to, l4, c4⟩, hn1⟩ : ∃ q, nameS lv c3 = q := ⟨_, rfl⟩
    rw [hn1] at N1
    have N2 := Lib.hid (fun w h => name_m B p l4 c4 w h)
    obtain ⟨⟨fr, l5, c5⟩, hn2⟩ : ∃ q, nameS l4 c4 = q := ⟨_, rfl⟩
    rw [hn2] at N2
    dsimp only at N1 N2
    have E4 := Lib.hid (And.intro hn1 hn2)
    clear hn1 hn2
    skip
    have bd := below_drew (Below.refl w7.heap.size w7)
    replace H := Lib.hid (H.out.below bd)
    replace RES := Lib.hid (RES.out.below' bd)
    replace K5 := Lib.hid (K5.out.below' bd)
    clear bd
    go_upto_region 11 with fail
    rename_i aK
    refine wp_region_S (S := fun w' => Blk w' W.heap.size 51 #[.pointer p]) (by kernel_rfl) ?_
    generalize World.drew w7 = w8 at *
    have hS := H.out.box
    refine wpAnyS_takeL 0 (v := .agg #[.pointer p]) rfl (by kernel_rfl) (by kernel_rfl) (by kernel_rfl) (fun _ _ _ H => H) (show YieldsIf _ _ _ _ (.agg #[.pointer p]) _ from yieldsIf_load_mid (S := fun w' => Blk w' W.heap.size 51 #[.pointer p]) rfl 51 _ rfl W.heap.size 0 rfl [.pointer p] _ (fun _ h => blk_range h) Try.underlying51 rfl info_rd) hS ?_
    simp only [AP]
    refine wpAnyS_takeL 2 (v := .agg #[.pointer p]) rfl (by kernel_rfl) (by kernel_rfl) (by kernel_rfl) (fun _ _ _ H => H) (show YieldsIf _ _ _ _ (.agg #[.pointer p]) _ from yieldsIf_load_mid (S := fun w' => Blk w' W.heap.size 51 #[.pointer p]) rfl 51 _ rfl W.heap.size 0 rfl [.pointer p] _ (fun _ h => blk_range h) Try.underlying51 rfl info_rd) hS ?_
    simp only [AP]
    refine gstep 1 rfl rfl (by kernel_rfl) ?_
    unfold Oper.wp execOp
    go_simp
    refine (N1.out _ H.out.rm).mono ?_
    rintro _ w9 ⟨⟨vt, rfl, Ot⟩, R1, k1⟩
    replace Ot := Lib.hid (Ot.mono_ (B' := w4.heap.size + 1) K5.out.lt)
    replace RES := Lib.hid (blk_gb k1 RES.out neR.out)
    replace K5 := Lib.hid (blk_gb k1 K5.out ne5.out)
    replace H := Lib.hid (H.out.step R1 k1)
    clear R1 k1 N1
    go_simp
    obtain ⟨pt, ct, ht⟩ := Ot.out.shape
    subst ht
    refine ⟨H.out.box, ?_⟩
    replace hS := H.out.box
    refine wpAnyS_takeL 4 (v := .pointer (some ⟨w4.heap.size, 1, none⟩)) rfl (by kernel_rfl) (by kernel_rfl) (by kernel_rfl) (fun _ _ _ H => H) (Or.inl ⟨by rfl, fun w' hw' => by go_simp⟩) hS ?_
    simp only [AP]
    refine gstep 3 rfl rfl (by kernel_rfl) ?_
    unfold Oper.wp execOp
    go_simp
    refine (N2.out _ H.out.rm).mono ?_
    rintro _ w10 ⟨⟨vf, rfl, Of⟩, R1, k1⟩
    replace Of := Lib.hid (Of.mono_ (B' := w4.heap.size + 1) K5.out.lt)
    replace RES := Lib.hid (blk_gb k1 RES.out neR.out)
    replace K5 := Lib.hid (blk_gb k1 K5.out ne5.out)
    replace Ot := Lib.hid (Ot.out.gb k1 ltB.out)
    replace H := Lib.hid (H.out.step R1 k1)
    clear R1 k1 N2
    go_simp
    obtain ⟨pf, cf, hf⟩ := Of.out.shape
    subst hf
    refine ⟨H.out.box, ?_⟩
    have cs : w10.cell? ⟨w4.heap.size, 1, none⟩ = some (.slice none 0 0) := K5.out.cell 1
    have fz : w10.frozen? ⟨w4.heap.size, 1, none⟩ = false := K5.out.frozen 1
    refine gstep 5 rfl rfl (by kernel_rfl) ?_
    unfold Oper.wp execOp
    go_simp
    have kk := gb_store w10 (w4.heap.size) 1 (.slice pt to.length ct)
    have K6 : Blk (w10.setCell ⟨w4.heap.size, 1, none⟩ (.slice pt to.length ct)) (w4.heap.size) 31 #[.int .i64 1, .slice pt to.length ct, .slice none 0 0] := K5.out.set 1 _
    replace K5 := Lib.hid K6
    replace RES := Lib.hid (RES.out.far (p := ⟨w4.heap.size, 1, none⟩) (Nat.ne_of_lt G5.out) (.slice pt to.length ct))
    replace H := Lib.hid (H.out.own (Nat.lt_of_succ_lt G5.out) kk)
    replace Ot := Lib.hid (Ot.out.gb kk lt5.out)
    replace Of := Lib.hid (Of.out.gb kk lt5.out)
    clear K6 kk cs fz
    generalize World.setCell w10 _ _ = w11 at *
    refine ⟨H.out.box, ?_⟩
    replace hS := H.out.box
    refine wpAnyS_takeL 6 (v := .pointer (some ⟨w4.heap.size, 2, none⟩)) rfl (by kernel_rfl) (by kernel_rfl) (by kernel_rfl) (fun _ _ _ H => H) (Or.inl ⟨by rfl, fun w' hw' => by go_simp⟩) hS ?_
    simp only [AP]
    have cs : w11.cell? ⟨w4.heap.size, 2, none⟩ = some (.slice none 0 0) := K5.out.cell 2
    have fz : w11.frozen? ⟨w4.heap.size, 2, none⟩ = false := K5.out.frozen 2
    refine gstep 7 rfl rfl (by kernel_rfl) ?_
    unfold Oper.wp execOp
    go_simp
    have kk := gb_store w11 (w4.heap.size) 2 (.slice pf fr.length cf)
    have K6 : Blk (w11.setCell ⟨w4.heap.size, 2, none⟩ (.slice pf fr.length cf)) (w4.heap.size) 31 #[.int .i64 1, .slice pt to.length ct, .slice pf fr.length cf] := K5.out.set 2 _
    replace K5 := Lib.hid K6
    replace RES := Lib.hid (RES.out.far (p := ⟨w4.heap.size, 2, none⟩) (Nat.ne_of_lt G5.out) (.slice pf fr.length cf))
    replace H := Lib.hid (H.out.own (Nat.lt_of_succ_lt G5.out) kk)
    replace Ot := Lib.hid (Ot.out.gb kk lt5.out)
    replace Of := Lib.hid (Of.out.gb kk lt5.out)
    clear K6 kk cs fz
    generalize World.setCell w11 _ _ = w12 at *
    refine ⟨H.out.box, ?_⟩
    refine wpAnyS_done (by kernel_rfl) ?_ _
    refine (by assumption : ∀ (a : Act) (w : World), _ → _) _ _ ?_
    clear hS
    go_upto_region 12 with fail
    rename_i aK
    refine wp_region_seq ?_
    refine wpSeq_yield (S := fun _ => True) (v := .pointer (some ⟨w4.heap.size, 0, none⟩)) (Or.inl ⟨by rfl, fun w' hw' => by go_simp⟩) trivial ?_
    simp only [AP]
    refine wpSeq_yield (S := fun w' => w' = w12) (v := .int .i64 1) (Or.inl ⟨by rfl, fun w' hw' => by (rw [hw']; have cc : w12.cell? ⟨w4.heap.size, 0, none⟩ = some (.int .i64 1) := K5.out.cell 0; go_simp)⟩) rfl ?_
    simp only [AP]
    refine wpSeq_yield (S := fun _ => True) (v := .bool false) (Or.inl ⟨by rfl, fun w' hw' => by go_simp⟩) trivial ?_
    simp only [AP]
    refine wpSeq_yield (S := fun _ => True) (yieldsIf_move rfl _ rfl (.bool false) rfl) trivial ?_
    simp only [AP]
    refine wpSeq_yield (S := fun _ => True) (yieldsIf_off rfl) trivial ?_
    simp only [AP]
    refine wpSeq_yield (S := fun _ => True) (yieldsIf_off rfl) trivial ?_
    simp only [AP]
    refine wpSeq_yield (S := fun _ => True) (yieldsIf_off rfl) trivial ?_
    simp only [AP]
    refine wpSeq_yield (S := fun _ => True) (yieldsIf_off rfl) trivial ?_
    simp only [AP]
    refine wpSeq_yield (S := fun _ => True) (yieldsIf_pick rfl _ _ _ rfl false rfl (.bool false) rfl) trivial ?_
    simp only [AP]
    refine wpSeq_nil ?_
    refine (by assumption : ∀ (a : Act) (w : World), _ → _) _ _ ?_
    have ZM := Lib.hid (fun w h => size_m B p l5 c5 w h)
    have E7 := Lib.hid (take_long b x1 l1 xv lv to l4 fr l5 l5 1 c1 c2 cv c3 c4 c5 c5 E1.out.1 (by rw [E1.out.2]; have := HY.out; omega) (by rw [E1.out.2]; have := HY.out; omega) (by rw [E1.out.2, if_pos (by unfold faultF; have := HY.out; omega)]; exact E2.out.symm) EV.out E3.out E4.out.1 E4.out.2 (Or.inr ⟨rfl, rfl, rfl⟩))
    have zl : sizeN (numS l5 c5) ≤ (numS l5 c5).2.1.length := size_le _
    replace zl := Lib.hid zl
    generalize numS l5 c5 = q at *
    clear HY E1 E2 EV E3 E4
    have bd := below_drew (Below.refl w12.heap.size w12)
    replace H := Lib.hid (H.out.below bd)
    replace RES := Lib.hid (RES.out.below' bd)
    replace K5 := Lib.hid (K5.out.below' bd)
    replace Ot := Lib.hid (Ot.out.below bd)
    replace Of := Lib.hid (Of.out.below bd)
    clear bd
    go_upto_region 14 with fail
    rename_i aK
    refine wp_region_S (S := fun w' => Blk w' W.heap.size 51 #[.pointer p] ∧ Blk w' w4.heap.size 31 #[.int .i64 1, .slice pt to.length ct, .slice pf fr.length cf]) (by kernel_rfl) ?_
    generalize World.drew w12 = w13 at *
    have hS := And.intro H.out.box K5.out
    refine wpAnyS_takeL 0 (v := .agg #[.int .i64 1, .slice pt to.length ct, .slice pf fr.length cf]) rfl (by kernel_rfl) (by kernel_rfl) (by kernel_rfl) (fun _ _ _ H => H) (show YieldsIf _ _ _ _ (.agg #[.int .i64 1, .slice pt to.length ct, .slice pf fr.length cf]) _ from yieldsIf_load_mid (S := fun w' => Blk w' W.heap.size 51 #[.pointer p] ∧ Blk w' w4.heap.size 31 #[.int .i64 1, .slice pt to.length ct, .slice pf fr.length cf]) rfl 31 _ rfl (w4.heap.size) 0 rfl [.int .i64 1, .slice pt to.length ct, .slice pf fr.length cf] _ (fun _ h => blk_range h.2) Try.underlying31 rfl info_hd) hS ?_
    simp only [AP]
    refine wpAnyS_takeL 1 (v := .agg #[.pointer p]) rfl (by kernel_rfl) (by kernel_rfl) (by kernel_rfl) (fun _ _ _ H => H) (show YieldsIf _ _ _ _ (.agg #[.pointer p]) _ from yieldsIf_load_mid (S := fun w' => Blk w' W.heap.size 51 #[.pointer p] ∧ Blk w' w4.heap.size 31 #[.int .i64 1, .slice pt to.length ct, .slice pf fr.length cf]) rfl 51 _ rfl W.heap.size 0 rfl [.pointer p] _ (fun _ h => blk_range h.1) Try.underlying51 rfl info_rd) hS ?_
    simp only [AP]
    refine gstep 2 rfl rfl (by kernel_rfl) ?_
    unfold Oper.wp execOp
    go_simp
    refine (ZM.out _ H.out.rm).mono ?_
    rintro _ w14 ⟨rfl, R1, k1, _⟩
    replace RES := Lib.hid (blk_gb k1 RES.out neR.out)
    replace K5 := Lib.hid (blk_gb k1 K5.out ne5.out)
    replace Ot := Lib.hid (Ot.out.gb k1 ltB.out)
    replace Of := Lib.hid (Of.out.gb k1 ltB.out)
    replace H := Lib.hid (H.out.step R1 k1)
    clear R1 k1 ZM
    go_simp
    refine ⟨And.intro H.out.box K5.out, ?_⟩
    refine gstep 3 rfl rfl (by kernel_rfl) (wp_store_row 31 _ _ rfl (W.heap.size + 1) #[.int .i64 1, .slice pt to.length ct, .slice pf fr.length cf] rfl rfl _ _ RES.out info_hd rfl (cell_one _ _ _ _ _ _ _) ⟨And.intro (H.out.box.rowFar (by omega) _) (K5.out.rowFar (Nat.ne_of_gt G5.out) _), ?_⟩)
    simp only [Act.put]
    have kk := gb_row w14 (W.heap.size + 1) #[.int .i64 1, .slice pt to.length ct, .slice pf fr.length cf]
    have RES2 : Blk (w14.setRow (W.heap.size + 1) #[.int .i64 1, .slice pt to.length ct, .slice pf fr.length cf]) (W.heap.size + 1) 31 #[.int .i64 1, .slice pt to.length ct, .slice pf fr.length cf] := RES.out.row _
    replace RES := Lib.hid RES2
    replace H := Lib.hid (H.out.own (by omega) kk)
    have lr := Nat.lt_succ_of_lt G5.out
    replace Ot := Lib.hid (Ot.out.gb kk lr)
    replace Of := Lib.hid (Of.out.gb kk lr)
    replace K5 := Lib.hid (K5.out.rowFar (Nat.ne_of_gt G5.out) #[.int .i64 1, .slice pt to.length ct, .slice pf fr.length cf])
    clear kk RES2
    generalize World.setRow _ _ _ = w15 at *
    replace hS := And.intro H.out.box K5.out
    refine wpAnyS_takeL 4 (v := .int .i64 ((sizeN q : Nat) : Int)) rfl (by kernel_rfl) (by kernel_rfl) (by kernel_rfl) (fun _ _ _ H => H) (yieldsIf_assign rfl _ rfl (.int .i64 ((sizeN q : Nat) : Int)) rfl) hS ?_
    simp only [AP]
    refine wpAnyS_done (by kernel_rfl) ?_ _
    refine (by assumption : ∀ (a : Act) (w : World), _ → _) _ _ ?_
    go_wp2
    refine bodyPost_ret (results_cell1 rfl _ _ _ _ _ _ rfl RES.out Try.underlying31 rfl info_hd) rfl ?_
    unfold HeadPost
    exact ⟨1, _, _, to, fr, sizeN q, q.2.1, lackN q, rfl, Ot.out.mono_ (by have := G5.out; omega), Of.out.mono_ (by have := G5.out; omega), H.out.rm, H.out.gb, E7.out.1, E7.out.2, zl.out⟩
  · skip
    go_upto_region 9 with fail
    rename_i aK
    refine wp_region_seq ?_
    refine wpSeq_yield (S := fun _ => True) (v := .pointer (some ⟨W.heap.size, 0, none⟩)) (Or.inl ⟨by rfl, fun w' hw' => by go_simp⟩) trivial ?_
    simp only [AP]
    refine wpSeq_yield (S := fun w' => w' = w6) (v := .pointer p) (Or.inl ⟨by rfl, fun w' hw' => by (rw [hw']; have cc : w6.cell? ⟨W.heap.size, 0, none⟩ = some (.pointer p) := H.out.box.cell 0; go_simp)⟩) rfl ?_
    simp only [AP]
    refine wpSeq_wp rfl ?_
    unfold Oper.wp execOp
    go_simp
    refine (YM.out _ H.out.rm H.out.leB).mono ?_
    rintro _ w7 ⟨⟨vv, rfl, OV⟩, R1, k1⟩
    replace RES := Lib.hid (blk_gb k1 RES.out neR.out)
    replace K5 := Lib.hid (blk_gb k1 K5.out ne5.out)
    replace H := Lib.hid (H.out.step R1 k1)
    clear R1 k1 YM
    go_simp
    refine wpSeq_yield (S := fun w' => w' = w7) (yieldsIf_conv (S := fun w' => w' = w7) rfl _ rfl (vv) rfl xv (fun w' h => h ▸ OV.sb)) rfl ?_
    simp only [AP]
    refine wpSeq_yield (S := fun _ => True) (strN_ne rfl _ _ rfl _ _ rfl rfl (by rw [← vers_is]; exact strB_ne bx.out vers_bytes ver)) trivial ?_
    simp only [AP]
    refine wpSeq_nil ?_
    refine (by assumption : ∀ (a : Act) (w : World), _ → _) _ _ ?_
    clear OV
    have FM := Lib.hid (fun w h hB => fail_m B p lv cv 6 w h hB)
    rw [show (if cv = 0 then 6 else cv) = failT cv 6 from rfl] at FM
    obtain ⟨c3, hc3⟩ : ∃ c3, failT cv 6 = c3 := ⟨_, rfl⟩
    rw [hc3] at FM
    have E3 := Lib.hid (show c3 = if xv ≠ [0, 0, 0, 1] then failT cv 6 else cv by rw [if_pos ver]; exact hc3.symm)
    clear hc3 ver bx
    go_upto_region 10 with fail
    rename_i aK
    refine wp_region_seq ?_
    refine wpSeq_yield (S := fun _ => True) (v := .pointer (some ⟨W.heap.size, 0, none⟩)) (Or.inl ⟨by rfl, fun w' hw' => by go_simp⟩) trivial ?_
    simp only [AP]
    refine wpSeq_yield (S := fun w' => w' = w7) (v := .pointer p) (Or.inl ⟨by rfl, fun w' hw' => by (rw [hw']; have cc : w7.cell? ⟨W.heap.size, 0, none⟩ = some (.pointer p) := H.out.box.cell 0; go_simp)⟩) rfl ?_
    simp only [AP]
    refine wpSeq_wp rfl ?_
    unfold Oper.wp execOp
    go_simp
    refine (FM.out _ H.out.rm H.out.leB).mono ?_
    rintro _ w8 ⟨⟨vx2, rfl⟩, R1, k1⟩
    replace RES := Lib.hid (blk_gb k1 RES.out neR.out)
    replace K5 := Lib.hid (blk_gb k1 K5.out ne5.out)
    replace H := Lib.hid (H.out.step R1 k1)
    clear R1 k1 FM
    go_simp
    refine wpSeq_nil ?_
    refine (by assumption : ∀ (a : Act) (w : World), _ → _) _ _ ?_
    have N1 := Lib.hid (fun w h => name_m B p lv c3 w h)
    obtain ⟨⟨to, l4, c4⟩, hn1⟩ : ∃ q, nameS lv c3 = q := ⟨_, rfl⟩
    rw [hn1] at N1
    have N2 := Lib.hid (fun w h => name_m B p l4 c4 w h)
    obtain ⟨⟨fr, l5, c5⟩, hn2⟩ : ∃ q, nameS l4 c4 = q := ⟨_, rfl⟩
    rw [hn2] at N2
    dsimp only at N1 N2
    have E4 := Lib.hid (And.intro hn1 hn2)
    clear hn1 hn2
    skip
    have bd := below_drew (Below.refl w8.heap.size w8)
    replace H := Lib.hid (H.out.below bd)
    replace RES := Lib.hid (RES.out.below' bd)
    replace K5 := Lib.hid (K5.out.below' bd)
    clear bd
    go_upto_region 11 with fail
    rename_i aK
    refine wp_region_S (S := fun w' => Blk w' W.heap.size 51 #[.pointer p]) (by kernel_rfl) ?_
    generalize World.drew w8 = w9 at *
    have hS := H.out.box
    refine wpAnyS_takeL 0 (v := .agg #[.pointer p]) rfl (by kernel_rfl) (by kernel_rfl) (by kernel_rfl) (fun _ _ _ H => H) (show YieldsIf _ _ _ _ (.agg #[.pointer p]) _ from yieldsIf_load_mid (S := fun w' => Blk w' W.heap.size 51 #[.pointer p]) rfl 51 _ rfl W.heap.size 0 rfl [.pointer p] _ (fun _ h => blk_range h) Try.underlying51 rfl info_rd) hS ?_
    simp only [AP]
    refine wpAnyS_takeL 2 (v := .agg #[.pointer p]) rfl (by kernel_rfl) (by kernel_rfl) (by kernel_rfl) (fun _ _ _ H => H) (show YieldsIf _ _ _ _ (.agg #[.pointer p]) _ from yieldsIf_load_mid (S := fun w' => Blk w' W.heap.size 51 #[.pointer p]) rfl 51 _ rfl W.heap.size 0 rfl [.pointer p] _ (fun _ h => blk_range h) Try.underlying51 rfl info_rd) hS ?_
    simp only [AP]
    refine gstep 1 rfl rfl (by kernel_rfl) ?_
    unfold Oper.wp execOp
    go_simp
    refine (N1.out _ H.out.rm).mono ?_
    rintro _ w10 ⟨⟨vt, rfl, Ot⟩, R1, k1⟩
    replace Ot := Lib.hid (Ot.mono_ (B' := w4.heap.size + 1) K5.out.lt)
    replace RES := Lib.hid (blk_gb k1 RES.out neR.out)
    replace K5 := Lib.hid (blk_gb k1 K5.out ne5.out)
    replace H := Lib.hid (H.out.step R1 k1)
    clear R1 k1 N1
    go_simp
    obtain ⟨pt, ct, ht⟩ := Ot.out.shape
    subst ht
    refine ⟨H.out.box, ?_⟩
    replace hS := H.out.box
    refine wpAnyS_takeL 4 (v := .pointer (some ⟨w4.heap.size, 1, none⟩)) rfl (by kernel_rfl) (by kernel_rfl) (by kernel_rfl) (fun _ _ _ H => H) (Or.inl ⟨by rfl, fun w' hw' => by go_simp⟩) hS ?_
    simp only [AP]
    refine gstep 3 rfl rfl (by kernel_rfl) ?_
    unfold Oper.wp execOp
    go_simp
    refine (N2.out _ H.out.rm).mono ?_
    rintro _ w11 ⟨⟨vf, rfl, Of⟩, R1, k1⟩
    replace Of := Lib.hid (Of.mono_ (B' := w4.heap.size + 1) K5.out.lt)
    replace RES := Lib.hid (blk_gb k1 RES.out neR.out)
    replace K5 := Lib.hid (blk_gb k1 K5.out ne5.out)
    replace Ot := Lib.hid (Ot.out.gb k1 ltB.out)
    replace H := Lib.hid (H.out.step R1 k1)
    clear R1 k1 N2
    go_simp
    obtain ⟨pf, cf, hf⟩ := Of.out.shape
    subst hf
    refine ⟨H.out.box, ?_⟩
    have cs : w11.cell? ⟨w4.heap.size, 1, none⟩ = some (.slice none 0 0) := K5.out.cell 1
    have fz : w11.frozen? ⟨w4.heap.size, 1, none⟩ = false := K5.out.frozen 1
    refine gstep 5 rfl rfl (by kernel_rfl) ?_
    unfold Oper.wp execOp
    go_simp
    have kk := gb_store w11 (w4.heap.size) 1 (.slice pt to.length ct)
    have K6 : Blk (w11.setCell ⟨w4.heap.size, 1, none⟩ (.slice pt to.length ct)) (w4.heap.size) 31 #[.int .i64 1, .slice pt to.length ct, .slice none 0 0] := K5.out.set 1 _
    replace K5 := Lib.hid K6
    replace RES := Lib.hid (RES.out.far (p := ⟨w4.heap.size, 1, none⟩) (Nat.ne_of_lt G5.out) (.slice pt to.length ct))
    replace H := Lib.hid (H.out.own (Nat.lt_of_succ_lt G5.out) kk)
    replace Ot := Lib.hid (Ot.out.gb kk lt5.out)
    replace Of := Lib.hid (Of.out.gb kk lt5.out)
    clear K6 kk cs fz
    generalize World.setCell w11 _ _ = w12 at *
    refine ⟨H.out.box, ?_⟩
    replace hS := H.out.box
    refine wpAnyS_takeL 6 (v := .pointer (some ⟨w4.heap.size, 2, none⟩)) rfl (by kernel_rfl) (by kernel_rfl) (by kernel_rfl) (fun _ _ _ H => H) (Or.inl ⟨by rfl, fun w' hw' => by go_simp⟩) hS ?_
    simp only [AP]
    have cs : w12.cell? ⟨w4.heap.size, 2, none⟩ = some (.slice none 0 0) := K5.out.cell 2
    have fz : w12.frozen? ⟨w4.heap.size, 2, none⟩ = false := K5.out.frozen 2
    refine gstep 7 rfl rfl (by kernel_rfl) ?_
    unfold Oper.wp execOp
    go_simp
    have kk := gb_store w12 (w4.heap.size) 2 (.slice pf fr.length cf)
    have K6 : Blk (w12.setCell ⟨w4.heap.size, 2, none⟩ (.slice pf fr.length cf)) (w4.heap.size) 31 #[.int .i64 1, .slice pt to.length ct, .slice pf fr.length cf] := K5.out.set 2 _
    replace K5 := Lib.hid K6
    replace RES := Lib.hid (RES.out.far (p := ⟨w4.heap.size, 2, none⟩) (Nat.ne_of_lt G5.out) (.slice pf fr.length cf))
    replace H := Lib.hid (H.out.own (Nat.lt_of_succ_lt G5.out) kk)
    replace Ot := Lib.hid (Ot.out.gb kk lt5.out)
    replace Of := Lib.hid (Of.out.gb kk lt5.out)
    clear K6 kk cs fz
    generalize World.setCell w12 _ _ = w13 at *
    refine ⟨H.out.box, ?_⟩
    refine wpAnyS_done (by kernel_rfl) ?_ _
    refine (by assumption : ∀ (a : Act) (w : World), _ → _) _ _ ?_
    clear hS
    go_upto_region 12 with fail
    rename_i aK
    refine wp_region_seq ?_
    refine wpSeq_yield (S := fun _ => True) (v := .pointer (some ⟨w4.heap.size, 0, none⟩)) (Or.inl ⟨by rfl, fun w' hw' => by go_simp⟩) trivial ?_
    simp only [AP]
    refine wpSeq_yield (S := fun w' => w' = w13) (v := .int .i64 1) (Or.inl ⟨by rfl, fun w' hw' => by (rw [hw']; have cc : w13.cell? ⟨w4.heap.size, 0, none⟩ = some (.int .i64 1) := K5.out.cell 0; go_simp)⟩) rfl ?_
    simp only [AP]
    refine wpSeq_yield (S := fun _ => True) (v := .bool false) (Or.inl ⟨by rfl, fun w' hw' => by go_simp⟩) trivial ?_
    simp only [AP]
    refine wpSeq_yield (S := fun _ => True) (yieldsIf_move rfl _ rfl (.bool false) rfl) trivial ?_
    simp only [AP]
    refine wpSeq_yield (S := fun _ => True) (yieldsIf_off rfl) trivial ?_
    simp only [AP]
    refine wpSeq_yield (S := fun _ => True) (yieldsIf_off rfl) trivial ?_
    simp only [AP]
    refine wpSeq_yield (S := fun _ => True) (yieldsIf_off rfl) trivial ?_
    simp only [AP]
    refine wpSeq_yield (S := fun _ => True) (yieldsIf_off rfl) trivial ?_
    simp only [AP]
    refine wpSeq_yield (S := fun _ => True) (yieldsIf_pick rfl _ _ _ rfl false rfl (.bool false) rfl) trivial ?_
    simp only [AP]
    refine wpSeq_nil ?_
    refine (by assumption : ∀ (a : Act) (w : World), _ → _) _ _ ?_
    have ZM := Lib.hid (fun w h => size_m B p l5 c5 w h)
    have E7 := Lib.hid (take_long b x1 l1 xv lv to l4 fr l5 l5 1 c1 c2 cv c3 c4 c5 c5 E1.out.1 (by rw [E1.out.2]; have := HY.out; omega) (by rw [E1.out.2]; have := HY.out; omega) (by rw [E1.out.2, if_pos (by unfold faultF; have := HY.out; omega)]; exact E2.out.symm) EV.out E3.out E4.out.1 E4.out.2 (Or.inr ⟨rfl, rfl, rfl⟩))
    have zl : sizeN (numS l5 c5) ≤ (numS l5 c5).2.1.length := size_le _
    replace zl := Lib.hid zl
    generalize numS l5 c5 = q at *
    clear HY E1 E2 EV E3 E4
    have bd := below_drew (Below.refl w13.heap.size w13)
    replace H := Lib.hid (H.out.below bd)
    replace RES := Lib.hid (RES.out.below' bd)
    replace K5 := Lib.hid (K5.out.below' bd)
    replace Ot := Lib.hid (Ot.out.below bd)
    replace Of := Lib.hid (Of.out.below bd)
    clear bd
    go_upto_region 14 with fail
    rename_i aK
    refine wp_region_S (S := fun w' => Blk w' W.heap.size 51 #[.pointer p] ∧ Blk w' w4.heap.size 31 #[.int .i64 1, .slice pt to.length ct, .slice pf fr.length cf]) (by kernel_rfl) ?_
    generalize World.drew w13 = w14 at *
    have hS := And.intro H.out.box K5.out
    refine wpAnyS_takeL 0 (v := .agg #[.int .i64 1, .slice pt to.length ct, .slice pf fr.length cf]) rfl (by kernel_rfl) (by kernel_rfl) (by kernel_rfl) (fun _ _ _ H => H) (show YieldsIf _ _ _ _ (.agg #[.int .i64 1, .slice pt to.length ct, .slice pf fr.length cf]) _ from yieldsIf_load_mid (S := fun w' => Blk w' W.heap.size 51 #[.pointer p] ∧ Blk w' w4.heap.size 31 #[.int .i64 1, .slice pt to.length ct, .slice pf fr.length cf]) rfl 31 _ rfl (w4.heap.size) 0 rfl [.int .i64 1, .slice pt to.length ct, .slice pf fr.length cf] _ (fun _ h => blk_range h.2) Try.underlying31 rfl info_hd) hS ?_
    simp only [AP]
    refine wpAnyS_takeL 1 (v := .agg #[.pointer p]) rfl (by kernel_rfl) (by kernel_rfl) (by kernel_rfl) (fun _ _ _ H => H) (show YieldsIf _ _ _ _ (.agg #[.pointer p]) _ from yieldsIf_load_mid (S := fun w' => Blk w' W.heap.size 51 #[.pointer p] ∧ Blk w' w4.heap.size 31 #[.int .i64 1, .slice pt to.length ct, .slice pf fr.length cf]) rfl 51 _ rfl W.heap.size 0 rfl [.pointer p] _ (fun _ h => blk_range h.1) Try.underlying51 rfl info_rd) hS ?_
    simp only [AP]
    refine gstep 2 rfl rfl (by kernel_rfl) ?_
    unfold Oper.wp execOp
    go_simp
    refine (ZM.out _ H.out.rm).mono ?_
    rintro _ w15 ⟨rfl, R1, k1, _⟩
    replace RES := Lib.hid (blk_gb k1 RES.out neR.out)
    replace K5 := Lib.hid (blk_gb k1 K5.out ne5.out)
    replace Ot := Lib.hid (Ot.out.gb k1 ltB.out)
    replace Of := Lib.hid (Of.out.gb k1 ltB.out)
    replace H := Lib.hid (H.out.step R1 k1)
    clear R1 k1 ZM
    go_simp
    refine ⟨And.intro H.out.box K5.out, ?_⟩
    refine gstep 3 rfl rfl (by kernel_rfl) (wp_store_row 31 _ _ rfl (W.heap.size + 1) #[.int .i64 1, .slice pt to.length ct, .slice pf fr.length cf] rfl rfl _ _ RES.out info_hd rfl (cell_one _ _ _ _ _ _ _) ⟨And.intro (H.out.box.rowFar (by omega) _) (K5.out.rowFar (Nat.ne_of_gt G5.out) _), ?_⟩)
    simp only [Act.put]
    have kk := gb_row w15 (W.heap.size + 1) #[.int .i64 1, .slice pt to.length ct, .slice pf fr.length cf]
    have RES2 : Blk (w15.setRow (W.heap.size + 1) #[.int .i64 1, .slice pt to.length ct, .slice pf fr.length cf]) (W.heap.size + 1) 31 #[.int .i64 1, .slice pt to.length ct, .slice pf fr.length cf] := RES.out.row _
    replace RES := Lib.hid RES2
    replace H := Lib.hid (H.out.own (by omega) kk)
    have lr := Nat.lt_succ_of_lt G5.out
    replace Ot := Lib.hid (Ot.out.gb kk lr)
    replace Of := Lib.hid (Of.out.gb kk lr)
    replace K5 := Lib.hid (K5.out.rowFar (Nat.ne_of_gt G5.out) #[.int .i64 1, .slice pt to.length ct, .slice pf fr.length cf])
    clear kk RES2
    generalize World.setRow _ _ _ = w16 at *
    replace hS := And.intro H.out.box K5.out
    refine wpAnyS_takeL 4 (v := .int .i64 ((sizeN q : Nat) : Int)) rfl (by kernel_rfl) (by kernel_rfl) (by kernel_rfl) (fun _ _ _ H => H) (yieldsIf_assign rfl _ rfl (.int .i64 ((sizeN q : Nat) : Int)) rfl) hS ?_
    simp only [AP]
    refine wpAnyS_done (by kernel_rfl) ?_ _
    refine (by assumption : ∀ (a : Act) (w : World), _ → _) _ _ ?_
    go_wp2
    refine bodyPost_ret (results_cell1 rfl _ _ _ _ _ _ rfl RES.out Try.underlying31 rfl info_hd) rfl ?_
    unfold HeadPost
    exact ⟨1, _, _, to, fr, sizeN q, q.2.1, lackN q, rfl, Ot.out.mono_ (by have := G5.out; omega), Of.out.mono_ (by have := G5.out; omega), H.out.rm, H.out.gb, E7.out.1, E7.out.2, zl.out⟩
end Go.Proofs.Ytfhiflakglhneaa
