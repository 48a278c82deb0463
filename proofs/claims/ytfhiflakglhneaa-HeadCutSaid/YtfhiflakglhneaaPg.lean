/- The program's head: short ones (printed by gen12/pg.py). -/
import Derived.Test.YtfhiflakglhneaaPf
namespace Go.Proofs.Ytfhiflakglhneaa
open Go.RowKit

theorem tk_byte (b : List Nat) (hb : ∀ x ∈ b, x < 256) : (tkS 1 b 0).1.getD 0 0 < 256 := by
  cases b with
  | nil =>
    rw [tk_nil 1 (by decide)]
    decide
  | cons x l =>
    rw [tk_one]
    exact hb x (by simp)
/-- What the program's head answers: a head, and how many bytes there are from the number on. -/
def HeadPost (B : Nat) (p : Option Addr) (b : List Nat) (W : World) (e : Ending) (w' : World) : Prop :=
  ∃ (sp : Nat) (vt vf : Value) (to fr : List Nat) (zz : Nat) (rest : List Nat) (code : Nat), e = .returned (.tuple #[hdV (sp : Int) vt vf, .int .i64 (zz : Int)]) ∧ OwL W.heap.size w' vt to ∧ OwL W.heap.size w' vf fr ∧ RM B w' p rest code ∧ W.grownBy w' (some B) ∧ takeF b = outF b.length sp to fr zz rest code ∧ rest.length ≤ b.length ∧ zz ≤ rest.length
set_option maxHeartbeats 8000000 in
set_option maxRecDepth 100000 in
theorem short_a (B : Nat) (p : Option Addr) (b : List Nat) (W : World) (h : RM B W p b 0) (x1 l1 : List Nat) (c1 : Nat) (h1 : tkS 1 b 0 = (x1, l1, c1)) (hy : x1.getD 0 0 < 64) : Calls Try.prog 21 #[.agg #[.pointer p]] W (HeadPost B p b W) := by
  have hB := h.lt
  have bb := rm_bytes h
  have BM := Lib.hid (fun w h hB => byte_m B p b 0 w h hB)
  rw [show tookS 1 b 0 = tkS 1 b 0 from rfl, h1] at BM
  dsimp only at BM
  have y256 : x1.getD 0 0 < 256 := by
    have e : x1 = (tkS 1 b 0).1 := by rw [h1]
    rw [e]
    exact tk_byte b bb
  obtain ⟨y, hyy⟩ : ∃ y, x1.getD 0 0 = y := ⟨_, rfl⟩
  have E1 := Lib.hid (And.intro h1 hyy)
  rw [hyy] at BM y256 hy
  have AB := and_bits y y256
  have A64 : bits BinOp.and IntKind.u8 (y : Int) 64 = 0 := by rw [AB.1]; omega
  have A128 : bits BinOp.and IntKind.u8 (y : Int) 128 = 0 := by rw [AB.2.1]; omega
  have A16 := AB.2.2.1
  have A32 := AB.2.2.2
  have HY := Lib.hid hy
  clear AB h1 hyy bb y256 hy
  go_enter Try.func21, Try.ntmps21
  go_upto_region 0 with fail
  rename_i aK
  refine wp_region_seq ?_
  refine wpSeq_wp rfl ?_
  unfold Oper.wp execOp
  go_simp
  refine wpSeq_wp rfl ?_
  unfold Oper.wp execOp
  go_simp
  refine wpSeq_yield (S := fun _ => True) (yieldsIf_assign rfl _ rfl (.int .i64 0) rfl) trivial ?_
  simp only [AP]
  refine wpSeq_nil ?_
  refine aK _ _ ?_
  clear aK
  have b0 := ((Below.refl W.heap.size W).alloc (Nat.le_refl _) (.cells #[.pointer p] 51)).alloc (by rw [size_alloc1]; omega) (.cells #[.int .i64 0, .slice none 0 0, .slice none 0 0] 31)
  have RES := Blk.new (W.alloc (.cells #[.pointer p] 51)) 31 #[.int .i64 0, .slice none 0 0, .slice none 0 0]
  rw [size_alloc1] at RES
  have H := Lib.hid (HS.mk (h.below b0) hB ((Blk.new W 51 #[.pointer p]).alloc (.cells #[.int .i64 0, .slice none 0 0, .slice none 0 0] 31)) (gb_below b0 _))
  replace RES := Lib.hid RES
  have neR := Lib.hid (show W.heap.size + 1 ≠ B by omega)
  generalize World.alloc (World.alloc W _) _ = w2 at *
  clear b0 hB h
  go_upto_region 1 with fail
  rename_i aK
  refine wp_region_seq ?_
  refine wpSeq_yield (S := fun _ => True) (v := .pointer (some ⟨W.heap.size, 0, none⟩)) (Or.inl ⟨by rfl, fun w' hw' => by go_simp⟩) trivial ?_
  simp only [AP]
  refine wpSeq_yield (S := fun w' => w' = w2) (v := .pointer p) (Or.inl ⟨by rfl, fun w' hw' => by (rw [hw']; have cc : w2.cell? ⟨W.heap.size, 0, none⟩ = some (.pointer p) := H.out.box.cell 0; go_simp)⟩) rfl ?_
  simp only [AP]
  refine wpSeq_wp rfl ?_
  unfold Oper.wp execOp
  go_simp
  refine (BM.out _ H.out.rm H.out.leB).mono ?_
  rintro _ w3 ⟨rfl, R1, k1⟩
  replace RES := Lib.hid (blk_gb k1 RES.out neR.out)
  replace H := Lib.hid (H.out.step R1 k1)
  clear R1 k1 BM
  go_simp
  refine wpSeq_yield (S := fun _ => True) (yieldsIf_assign rfl _ rfl (.int .u8 (y : Int)) rfl) trivial ?_
  simp only [AP]
  refine wpSeq_nil ?_
  refine (by assumption : ∀ (a : Act) (w : World), _ → _) _ _ ?_
  go_upto_region 2 with fail
  rename_i aK
  refine wp_region_seq ?_
  refine wpSeq_yield (S := fun _ => True) (yieldsIf_move rfl _ rfl (.int .u8 (y : Int)) rfl) trivial ?_
  simp only [AP]
  refine wpSeq_yield (S := fun _ => True) (v := .int .u8 0) (Or.inl ⟨by rfl, fun w' hw' => by go_simp⟩) trivial ?_
  simp only [AP]
  refine wpSeq_yield (S := fun _ => True) (v := .bool true) (Or.inl ⟨by rfl, fun w' hw' => by (go_simp; try omega)⟩) trivial ?_
  simp only [AP]
  refine wpSeq_yield (S := fun _ => True) (yieldsIf_move rfl _ rfl (.bool true) rfl) trivial ?_
  simp only [AP]
  refine wpSeq_yield (S := fun _ => True) (yieldsIf_off rfl) trivial ?_
  simp only [AP]
  refine wpSeq_yield (S := fun _ => True) (yieldsIf_off rfl) trivial ?_
  simp only [AP]
  refine wpSeq_yield (S := fun _ => True) (yieldsIf_off rfl) trivial ?_
  simp only [AP]
  refine wpSeq_yield (S := fun _ => True) (yieldsIf_off rfl) trivial ?_
  simp only [AP]
  refine wpSeq_yield (S := fun _ => True) (yieldsIf_off rfl) trivial ?_
  simp only [AP]
  refine wpSeq_yield (S := fun _ => True) (yieldsIf_off rfl) trivial ?_
  simp only [AP]
  refine wpSeq_yield (S := fun _ => True) (yieldsIf_off rfl) trivial ?_
  simp only [AP]
  refine wpSeq_yield (S := fun _ => True) (yieldsIf_off rfl) trivial ?_
  simp only [AP]
  refine wpSeq_yield (S := fun _ => True) (yieldsIf_pick rfl _ _ _ rfl true rfl (.bool true) rfl) trivial ?_
  simp only [AP]
  refine wpSeq_nil ?_
  refine (by assumption : ∀ (a : Act) (w : World), _ → _) _ _ ?_
  have FM := Lib.hid (fun w h hB => fail_m B p l1 c1 5 w h hB)
  rw [show (if c1 = 0 then 5 else c1) = failT c1 5 from rfl] at FM
  obtain ⟨c2, hc2⟩ : ∃ c2, failT c1 5 = c2 := ⟨_, rfl⟩
  rw [hc2] at FM
  have E2 := Lib.hid hc2
  clear hc2
  go_upto_region 3 with fail
  rename_i aK
  refine wp_region_seq ?_
  refine wpSeq_yield (S := fun _ => True) (v := .pointer (some ⟨W.heap.size, 0, none⟩)) (Or.inl ⟨by rfl, fun w' hw' => by go_simp⟩) trivial ?_
  simp only [AP]
  refine wpSeq_yield (S := fun w' => w' = w3) (v := .pointer p) (Or.inl ⟨by rfl, fun w' hw' => by (rw [hw']; have cc : w3.cell? ⟨W.heap.size, 0, none⟩ = some (.pointer p) := H.out.box.cell 0; go_simp)⟩) rfl ?_
  simp only [AP]
  refine wpSeq_wp rfl ?_
  unfold Oper.wp execOp
  go_simp
  refine (FM.out _ H.out.rm H.out.leB).mono ?_
  rintro _ w4 ⟨⟨vx, rfl⟩, R1, k1⟩
  replace RES := Lib.hid (blk_gb k1 RES.out neR.out)
  replace H := Lib.hid (H.out.step R1 k1)
  clear R1 k1 FM
  go_simp
  refine wpSeq_nil ?_
  refine (by assumption : ∀ (a : Act) (w : World), _ → _) _ _ ?_
  go_upto_region 4 with fail
  rename_i aK
  refine wp_region_seq ?_
  refine wpSeq_yield (S := fun _ => True) (yieldsIf_move rfl _ rfl (.int .u8 (y : Int)) rfl) trivial ?_
  simp only [AP]
  refine wpSeq_yield (S := fun _ => True) (v := .int .u8 0) (Or.inl ⟨by rfl, fun w' hw' => by go_simp⟩) trivial ?_
  simp only [AP]
  refine wpSeq_yield (S := fun _ => True) (v := .bool true) (Or.inl ⟨by rfl, fun w' hw' => by (go_simp; try omega)⟩) trivial ?_
  simp only [AP]
  refine wpSeq_nil ?_
  refine (by assumption : ∀ (a : Act) (w : World), _ → _) _ _ ?_
  have YM := Lib.hid (fun w h hB => bytes_m B p l1 8 c2 w h hB)
  obtain ⟨⟨x8, l8, c8⟩, h8⟩ : ∃ q, tkS 8 l1 c2 = q := ⟨_, rfl⟩
  rw [show tookS 8 l1 c2 = tkS 8 l1 c2 from rfl, h8] at YM
  dsimp only at YM
  have LM := Lib.hid (fun w h hB => left_m B p l8 c8 w h hB)
  have E8 := Lib.hid h8
  clear h8
  have bd := below_drew (Below.refl w4.heap.size w4)
  replace H := Lib.hid (H.out.below bd)
  replace RES := Lib.hid (RES.out.below' bd)
  clear bd
  have LT := Lib.hid RES.out.lt
  go_upto_region 5 with fail
  rename_i aK
  refine wp_region_S (S := fun w' => Blk w' W.heap.size 51 #[.pointer p]) (by kernel_rfl) ?_
  generalize World.drew w4 = w5 at *
  have hS := H.out.box
  refine wpAnyS_takeL 0 (v := .pointer (some ⟨W.heap.size, 0, none⟩)) rfl (by kernel_rfl) (by kernel_rfl) (by kernel_rfl) (fun _ _ _ H => H) (Or.inl ⟨by rfl, fun w' hw' => by go_simp⟩) hS ?_
  simp only [AP]
  refine wpAnyS_takeL 1 (v := .pointer p) rfl (by kernel_rfl) (by kernel_rfl) (by kernel_rfl) (fun _ _ _ H => H) (Or.inl ⟨by rfl, fun w' hw' => by (have cc : w'.cell? ⟨W.heap.size, 0, none⟩ = some (.pointer p) := hw'.cell 0; go_simp)⟩) hS ?_
  simp only [AP]
  refine wpAnyS_takeL 4 (v := .pointer (some ⟨W.heap.size, 0, none⟩)) rfl (by kernel_rfl) (by kernel_rfl) (by kernel_rfl) (fun _ _ _ H => H) (Or.inl ⟨by rfl, fun w' hw' => by go_simp⟩) hS ?_
  simp only [AP]
  refine wpAnyS_takeL 5 (v := .pointer p) rfl (by kernel_rfl) (by kernel_rfl) (by kernel_rfl) (fun _ _ _ H => H) (Or.inl ⟨by rfl, fun w' hw' => by (have cc : w'.cell? ⟨W.heap.size, 0, none⟩ = some (.pointer p) := hw'.cell 0; go_simp)⟩) hS ?_
  simp only [AP]
  refine gstep 2 rfl rfl (by kernel_rfl) ?_
  unfold Oper.wp execOp
  go_simp
  refine (YM.out _ H.out.rm H.out.leB).mono ?_
  rintro _ w6 ⟨⟨v8, rfl, O8⟩, R1, k1⟩
  replace RES := Lib.hid (blk_gb k1 RES.out neR.out)
  replace H := Lib.hid (H.out.step R1 k1)
  clear R1 k1 YM
  go_simp
  obtain ⟨pv, cv, hv⟩ := O8.shape
  subst hv
  replace O8 := Lib.hid (O8.mono_ LT.out)
  refine ⟨H.out.box, ?_⟩
  replace hS := H.out.box
  refine wpAnyS_takeL 3 (v := .agg #[.int .i64 2, .slice pv x8.length cv, .slice none 0 0]) rfl (by kernel_rfl) (by kernel_rfl) (by kernel_rfl) (fun _ _ _ H => H) (Or.inl ⟨by rfl, fun w' hw' => by go_simp⟩) hS ?_
  simp only [AP]
  have ltB := Lib.hid (show B < W.heap.size + 2 by have := H.out.hB; omega)
  refine gstep 6 rfl rfl (by kernel_rfl) ?_
  unfold Oper.wp execOp
  go_simp
  refine (LM.out _ H.out.rm H.out.leB).mono ?_
  rintro _ w7 ⟨rfl, R1, k1⟩
  replace RES := Lib.hid (blk_gb k1 RES.out neR.out)
  replace O8 := Lib.hid (O8.out.gb k1 ltB.out)
  replace H := Lib.hid (H.out.step R1 k1)
  clear R1 k1 LM
  go_simp
  refine ⟨H.out.box, ?_⟩
  refine gstep 7 rfl rfl (by kernel_rfl) (wp_store_row 31 _ _ rfl (W.heap.size + 1) #[.int .i64 2, .slice pv x8.length cv, .slice none 0 0] rfl rfl _ _ RES.out info_hd rfl (cell_one _ _ _ _ _ _ _) ⟨H.out.box.rowFar (by omega) _, ?_⟩)
  simp only [Act.put]
  have kk := gb_row w7 (W.heap.size + 1) #[.int .i64 2, .slice pv x8.length cv, .slice none 0 0]
  have RES2 : Blk (w7.setRow (W.heap.size + 1) #[.int .i64 2, .slice pv x8.length cv, .slice none 0 0]) (W.heap.size + 1) 31 #[.int .i64 2, .slice pv x8.length cv, .slice none 0 0] := RES.out.row _
  replace RES := Lib.hid RES2
  replace H := Lib.hid (H.out.own (by omega) kk)
  replace O8 := Lib.hid (O8.out.gb kk (by omega))
  clear kk RES2
  generalize World.setRow _ _ _ = w8 at *
  replace hS := H.out.box
  refine wpAnyS_takeL 8 (v := .int .i64 (l8.length : Int)) rfl (by kernel_rfl) (by kernel_rfl) (by kernel_rfl) (fun _ _ _ H => H) (yieldsIf_assign rfl _ rfl (.int .i64 (l8.length : Int)) rfl) hS ?_
  simp only [AP]
  refine wpAnyS_done (by kernel_rfl) ?_ _
  refine (by assumption : ∀ (a : Act) (w : World), _ → _) _ _ ?_
  go_wp2
  refine bodyPost_ret (results_cell1 rfl _ _ _ _ _ _ rfl RES.out Try.underlying31 rfl info_hd) rfl ?_
  unfold HeadPost
  have t := take_short b x1 l1 x8 l8 c1 c2 c8 E1.out.1 (by rw [E1.out.2]; have := HY.out; omega) (by rw [E1.out.2, if_pos (by have := HY.out; omega)]; exact E2.out.symm) E8.out
  exact ⟨2, _, _, x8, [], l8.length, l8, c8, rfl, O8.out.mono_ (by omega), OwL.nil _ _, H.out.rm, H.out.gb, t.1, t.2, Nat.le_refl _⟩
set_option maxHeartbeats 8000000 in
set_option maxRecDepth 100000 in
theorem short_d (B : Nat) (p : Option Addr) (b : List Nat) (W : World) (h : RM B W p b 0) (x1 l1 : List Nat) (c1 : Nat) (h1 : tkS 1 b 0 = (x1, l1, c1)) (hy : 64 ≤ x1.getD 0 0 ∧ x1.getD 0 0 < 128) : Calls Try.prog 21 #[.agg #[.pointer p]] W (HeadPost B p b W) := by
  have hB := h.lt
  have bb := rm_bytes h
  have BM := Lib.hid (fun w h hB => byte_m B p b 0 w h hB)
  rw [show tookS 1 b 0 = tkS 1 b 0 from rfl, h1] at BM
  dsimp only at BM
  have y256 : x1.getD 0 0 < 256 := by
    have e : x1 = (tkS 1 b 0).1 := by rw [h1]
    rw [e]
    exact tk_byte b bb
  obtain ⟨y, hyy⟩ : ∃ y, x1.getD 0 0 = y := ⟨_, rfl⟩
  have E1 := Lib.hid (And.intro h1 hyy)
  rw [hyy] at BM y256 hy
  have AB := and_bits y y256
  have A64 : bits BinOp.and IntKind.u8 (y : Int) 64 = 64 := by rw [AB.1]; omega
  have A128 : bits BinOp.and IntKind.u8 (y : Int) 128 = 0 := by rw [AB.2.1]; omega
  have A16 := AB.2.2.1
  have A32 := AB.2.2.2
  have HY := Lib.hid hy
  clear AB h1 hyy bb y256 hy
  go_enter Try.func21, Try.ntmps21
  go_upto_region 0 with fail
  rename_i aK
  refine wp_region_seq ?_
  refine wpSeq_wp rfl ?_
  unfold Oper.wp execOp
  go_simp
  refine wpSeq_wp rfl ?_
  unfold Oper.wp execOp
  go_simp
  refine wpSeq_yield (S := fun _ => True) (yieldsIf_assign rfl _ rfl (.int .i64 0) rfl) trivial ?_
  simp only [AP]
  refine wpSeq_nil ?_
  refine aK _ _ ?_
  clear aK
  have b0 := ((Below.refl W.heap.size W).alloc (Nat.le_refl _) (.cells #[.pointer p] 51)).alloc (by rw [size_alloc1]; omega) (.cells #[.int .i64 0, .slice none 0 0, .slice none 0 0] 31)
  have RES := Blk.new (W.alloc (.cells #[.pointer p] 51)) 31 #[.int .i64 0, .slice none 0 0, .slice none 0 0]
  rw [size_alloc1] at RES
  have H := Lib.hid (HS.mk (h.below b0) hB ((Blk.new W 51 #[.pointer p]).alloc (.cells #[.int .i64 0, .slice none 0 0, .slice none 0 0] 31)) (gb_below b0 _))
  replace RES := Lib.hid RES
  have neR := Lib.hid (show W.heap.size + 1 ≠ B by omega)
  generalize World.alloc (World.alloc W _) _ = w2 at *
  clear b0 hB h
  go_upto_region 1 with fail
  rename_i aK
  refine wp_region_seq ?_
  refine wpSeq_yield (S := fun _ => True) (v := .pointer (some ⟨W.heap.size, 0, none⟩)) (Or.inl ⟨by rfl, fun w' hw' => by go_simp⟩) trivial ?_
  simp only [AP]
  refine wpSeq_yield (S := fun w' => w' = w2) (v := .pointer p) (Or.inl ⟨by rfl, fun w' hw' => by (rw [hw']; have cc : w2.cell? ⟨W.heap.size, 0, none⟩ = some (.pointer p) := H.out.box.cell 0; go_simp)⟩) rfl ?_
  simp only [AP]
  refine wpSeq_wp rfl ?_
  unfold Oper.wp execOp
  go_simp
  refine (BM.out _ H.out.rm H.out.leB).mono ?_
  rintro _ w3 ⟨rfl, R1, k1⟩
  replace RES := Lib.hid (blk_gb k1 RES.out neR.out)
  replace H := Lib.hid (H.out.step R1 k1)
  clear R1 k1 BM
  go_simp
  refine wpSeq_yield (S := fun _ => True) (yieldsIf_assign rfl _ rfl (.int .u8 (y : Int)) rfl) trivial ?_
  simp only [AP]
  refine wpSeq_nil ?_
  refine (by assumption : ∀ (a : Act) (w : World), _ → _) _ _ ?_
  go_upto_region 2 with fail
  rename_i aK
  refine wp_region_seq ?_
  refine wpSeq_yield (S := fun _ => True) (yieldsIf_move rfl _ rfl (.int .u8 (y : Int)) rfl) trivial ?_
  simp only [AP]
  refine wpSeq_yield (S := fun _ => True) (v := .int .u8 64) (Or.inl ⟨by rfl, fun w' hw' => by go_simp⟩) trivial ?_
  simp only [AP]
  refine wpSeq_yield (S := fun _ => True) (v := .bool false) (Or.inl ⟨by rfl, fun w' hw' => by (go_simp; try omega)⟩) trivial ?_
  simp only [AP]
  refine wpSeq_yield (S := fun _ => True) (yieldsIf_move rfl _ rfl (.bool false) rfl) trivial ?_
  simp only [AP]
  refine wpSeq_yield (S := fun _ => True) (yieldsIf_move rfl _ rfl (.int .u8 (y : Int)) rfl) trivial ?_
  simp only [AP]
  refine wpSeq_yield (S := fun _ => True) (v := .int .u8 0) (Or.inl ⟨by rfl, fun w' hw' => by go_simp⟩) trivial ?_
  simp only [AP]
  refine wpSeq_yield (S := fun _ => True) (v := .bool false) (Or.inl ⟨by rfl, fun w' hw' => by (go_simp; try omega)⟩) trivial ?_
  simp only [AP]
  refine wpSeq_yield (S := fun _ => True) (yieldsIf_move rfl _ rfl (.bool false) rfl) trivial ?_
  simp only [AP]
  refine wpSeq_yield (S := fun _ => True) (yieldsIf_off rfl) trivial ?_
  simp only [AP]
  refine wpSeq_yield (S := fun _ => True) (yieldsIf_off rfl) trivial ?_
  simp only [AP]
  refine wpSeq_yield (S := fun _ => True) (yieldsIf_off rfl) trivial ?_
  simp only [AP]
  refine wpSeq_yield (S := fun _ => True) (yieldsIf_pick rfl _ _ _ rfl false rfl (.bool false) rfl) trivial ?_
  simp only [AP]
  refine wpSeq_yield (S := fun _ => True) (yieldsIf_pick rfl _ _ _ rfl false rfl (.bool false) rfl) trivial ?_
  simp only [AP]
  refine wpSeq_nil ?_
  refine (by assumption : ∀ (a : Act) (w : World), _ → _) _ _ ?_
  obtain ⟨c2, hc2⟩ : ∃ c2, c1 = c2 := ⟨_, rfl⟩
  have E2 := Lib.hid hc2
  rw [hc2] at H
  clear hc2
  go_upto_region 4 with fail
  rename_i aK
  refine wp_region_seq ?_
  refine wpSeq_yield (S := fun _ => True) (yieldsIf_move rfl _ rfl (.int .u8 (y : Int)) rfl) trivial ?_
  simp only [AP]
  refine wpSeq_yield (S := fun _ => True) (v := .int .u8 0) (Or.inl ⟨by rfl, fun w' hw' => by go_simp⟩) trivial ?_
  simp only [AP]
  refine wpSeq_yield (S := fun _ => True) (v := .bool true) (Or.inl ⟨by rfl, fun w' hw' => by (go_simp; try omega)⟩) trivial ?_
  simp only [AP]
  refine wpSeq_nil ?_
  refine (by assumption : ∀ (a : Act) (w : World), _ → _) _ _ ?_
  have YM := Lib.hid (fun w h hB => bytes_m B p l1 8 c2 w h hB)
  obtain ⟨⟨x8, l8, c8⟩, h8⟩ : ∃ q, tkS 8 l1 c2 = q := ⟨_, rfl⟩
  rw [show tookS 8 l1 c2 = tkS 8 l1 c2 from rfl, h8] at YM
  dsimp only at YM
  have LM := Lib.hid (fun w h hB => left_m B p l8 c8 w h hB)
  have E8 := Lib.hid h8
  clear h8
  have bd := below_drew (Below.refl w3.heap.size w3)
  replace H := Lib.hid (H.out.below bd)
  replace RES := Lib.hid (RES.out.below' bd)
  clear bd
  have LT := Lib.hid RES.out.lt
  go_upto_region 5 with fail
  rename_i aK
  refine wp_region_S (S := fun w' => Blk w' W.heap.size 51 #[.pointer p]) (by kernel_rfl) ?_
  generalize World.drew w3 = w4 at *
  have hS := H.out.box
  refine wpAnyS_takeL 0 (v := .pointer (some ⟨W.heap.size, 0, none⟩)) rfl (by kernel_rfl) (by kernel_rfl) (by kernel_rfl) (fun _ _ _ H => H) (Or.inl ⟨by rfl, fun w' hw' => by go_simp⟩) hS ?_
  simp only [AP]
  refine wpAnyS_takeL 1 (v := .pointer p) rfl (by kernel_rfl) (by kernel_rfl) (by kernel_rfl) (fun _ _ _ H => H) (Or.inl ⟨by rfl, fun w' hw' => by (have cc : w'.cell? ⟨W.heap.size, 0, none⟩ = some (.pointer p) := hw'.cell 0; go_simp)⟩) hS ?_
  simp only [AP]
  refine wpAnyS_takeL 4 (v := .pointer (some ⟨W.heap.size, 0, none⟩)) rfl (by kernel_rfl) (by kernel_rfl) (by kernel_rfl) (fun _ _ _ H => H) (Or.inl ⟨by rfl, fun w' hw' => by go_simp⟩) hS ?_
  simp only [AP]
  refine wpAnyS_takeL 5 (v := .pointer p) rfl (by kernel_rfl) (by kernel_rfl) (by kernel_rfl) (fun _ _ _ H => H) (Or.inl ⟨by rfl, fun w' hw' => by (have cc : w'.cell? ⟨W.heap.size, 0, none⟩ = some (.pointer p) := hw'.cell 0; go_simp)⟩) hS ?_
  simp only [AP]
  refine gstep 2 rfl rfl (by kernel_rfl) ?_
  unfold Oper.wp execOp
  go_simp
  refine (YM.out _ H.out.rm H.out.leB).mono ?_
  rintro _ w5 ⟨⟨v8, rfl, O8⟩, R1, k1⟩
  replace RES := Lib.hid (blk_gb k1 RES.out neR.out)
  replace H := Lib.hid (H.out.step R1 k1)
  clear R1 k1 YM
  go_simp
  obtain ⟨pv, cv, hv⟩ := O8.shape
  subst hv
  replace O8 := Lib.hid (O8.mono_ LT.out)
  refine ⟨H.out.box, ?_⟩
  replace hS := H.out.box
  refine wpAnyS_takeL 3 (v := .agg #[.int .i64 2, .slice pv x8.length cv, .slice none 0 0]) rfl (by kernel_rfl) (by kernel_rfl) (by kernel_rfl) (fun _ _ _ H => H) (Or.inl ⟨by rfl, fun w' hw' => by go_simp⟩) hS ?_
  simp only [AP]
  have ltB := Lib.hid (show B < W.heap.size + 2 by have := H.out.hB; omega)
  refine gstep 6 rfl rfl (by kernel_rfl) ?_
  unfold Oper.wp execOp
  go_simp
  refine (LM.out _ H.out.rm H.out.leB).mono ?_
  rintro _ w6 ⟨rfl, R1, k1⟩
  replace RES := Lib.hid (blk_gb k1 RES.out neR.out)
  replace O8 := Lib.hid (O8.out.gb k1 ltB.out)
  replace H := Lib.hid (H.out.step R1 k1)
  clear R1 k1 LM
  go_simp
  refine ⟨H.out.box, ?_⟩
  refine gstep 7 rfl rfl (by kernel_rfl) (wp_store_row 31 _ _ rfl (W.heap.size + 1) #[.int .i64 2, .slice pv x8.length cv, .slice none 0 0] rfl rfl _ _ RES.out info_hd rfl (cell_one _ _ _ _ _ _ _) ⟨H.out.box.rowFar (by omega) _, ?_⟩)
  simp only [Act.put]
  have kk := gb_row w6 (W.heap.size + 1) #[.int .i64 2, .slice pv x8.length cv, .slice none 0 0]
  have RES2 : Blk (w6.setRow (W.heap.size + 1) #[.int .i64 2, .slice pv x8.length cv, .slice none 0 0]) (W.heap.size + 1) 31 #[.int .i64 2, .slice pv x8.length cv, .slice none 0 0] := RES.out.row _
  replace RES := Lib.hid RES2
  replace H := Lib.hid (H.out.own (by omega) kk)
  replace O8 := Lib.hid (O8.out.gb kk (by omega))
  clear kk RES2
  generalize World.setRow _ _ _ = w7 at *
  replace hS := H.out.box
  refine wpAnyS_takeL 8 (v := .int .i64 (l8.length : Int)) rfl (by kernel_rfl) (by kernel_rfl) (by kernel_rfl) (fun _ _ _ H => H) (yieldsIf_assign rfl _ rfl (.int .i64 (l8.length : Int)) rfl) hS ?_
  simp only [AP]
  refine wpAnyS_done (by kernel_rfl) ?_ _
  refine (by assumption : ∀ (a : Act) (w : World), _ → _) _ _ ?_
  go_wp2
  refine bodyPost_ret (results_cell1 rfl _ _ _ _ _ _ rfl RES.out Try.underlying31 rfl info_hd) rfl ?_
  unfold HeadPost
  have t := take_short b x1 l1 x8 l8 c1 c2 c8 E1.out.1 (by rw [E1.out.2]; have := HY.out; omega) (by rw [E1.out.2, if_neg (by have := HY.out; omega)]; exact E2.out.symm) E8.out
  exact ⟨2, _, _, x8, [], l8.length, l8, c8, rfl, O8.out.mono_ (by omega), OwL.nil _ _, H.out.rm, H.out.gb, t.1, t.2, Nat.le_refl _⟩
end Go.Proofs.Ytfhiflakglhneaa
