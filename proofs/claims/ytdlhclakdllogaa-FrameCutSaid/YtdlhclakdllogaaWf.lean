/- The program's parsing: a frame, of nothing, of one number (printed by gen11/we.py). -/
import Derived.Test.YtdlhclakdllogaaWe
namespace Go.Proofs.Ytdlhclakdllogaa
open Go.RowKit

set_option maxHeartbeats 16000000 in
set_option maxRecDepth 100000 in
theorem fr0 (B : Nat) (p : Option Addr) (l : List Nat) (l1 : List Nat) (c1 : Nat) (hz1 : numS l 0 = (0, l1, c1)) (W : World) (h : RM B W p l 0) (_hB : B ≤ W.heap.size) :
    Calls Try.prog 27 #[.agg #[.pointer p]] W fun e w' => (∃ vd va, e = .returned (.agg #[.int .u64 0, .int .u64 0, .int .u64 0, .int .u64 0, .int .u64 0, .bool false, vd, va]) ∧ OwL W.heap.size w' vd [] ∧ OwS W.heap.size w' va []) ∧ RM B w' p l1 c1 ∧ W.grownBy w' (some B) := by
  have N1 := Lib.hid (fun w h hB => num_m B p l 0 w h hB)
  rw [hz1] at N1
  dsimp only at N1 
  have BC := Lib.hid (fun q m w (hd : SB w (.slice q 0 m) []) => (show Calls Try.prog 33 #[.agg #[.int .u64 0, .int .u64 0, .int .u64 0, .int .u64 0, .int .u64 0, .bool false, .slice q 0 m, .slice none 0 0]] w fun e w' => e = .returned (.bool false) ∧ Below w.heap.size w w' by
    have := beyond_c ⟨0, 0, 0, 0, 0, false, [], []⟩ (show (0 : Nat) < 18446744073709551616 by decide) (Nat.zero_le _) (.slice q 0 m) (.slice none 0 0) w hd
    rw [show beyondF ⟨0, 0, 0, 0, 0, false, [], []⟩ = false from rfl] at this
    exact this))
  clear hz1
  have hlt : B < W.heap.size := by
    obtain ⟨g, pb, cb, _, hg, KB, _⟩ := h
    have := KB.lt
    omega
  clear _hB
  go_enter Try.func27, Try.ntmps27
  go_upto_region 0 with fail
  rename_i aK
  refine wp_region_seq ?_
  refine wpSeq_wp rfl ?_
  unfold Oper.wp execOp
  go_simp
  have b0 := (Below.refl W.heap.size W).alloc (Nat.le_refl _) (.cells #[.pointer p] 58)
  have KR := Blk.new W 58 #[.pointer p]
  replace h := h.below b0
  have G := gb_below b0 (some B)
  have o1 := KR.lt
  clear b0
  generalize World.alloc W _ = W1 at *
  refine wpSeq_alloc 26 zeroFr rfl (fun W => by go_simp; rfl) ?_
  simp only [AP]
  have b0 := (Below.refl W1.heap.size W1).alloc (Nat.le_refl _) (.cells zeroFr 26)
  have KQ := Blk.new W1 26 zeroFr
  replace KR := KR.below' b0
  replace h := h.below b0
  replace G := G.trans (gb_below b0 (some B))
  have o2 := KQ.lt
  clear b0
  generalize World.alloc W1 _ = W2 at *
  generalize W1.heap.size = RB at *
  refine wpSeq_nil ?_
  refine aK _ _ ?_
  clear aK
  go_upto_region 1 with fail
  rename_i aK
  refine wp_region_seq ?_
  refine wpSeq_yield (S := fun _ => True) (v := .pointer (some ⟨W.heap.size, 0, none⟩)) (Or.inl ⟨by rfl, fun w' hw' => by go_simp⟩) trivial ?_
  simp only [AP]
  refine wpSeq_yield (S := fun w' => w' = W2) (v := .pointer p) (Or.inl ⟨by rfl, fun w' hw' => by (rw [hw']; have cc : W2.cell? ⟨W.heap.size, 0, none⟩ = some (.pointer p) := KR.cell 0; go_simp)⟩) rfl ?_
  simp only [AP]
  refine wpSeq_wp rfl ?_
  unfold Oper.wp execOp
  go_simp
  refine (N1.out _ h (by omega)).mono ?_
  rintro _ W3 ⟨rfl, h1, b1⟩
  replace KR := blk_gb b1 KR (by omega)
  replace KQ := blk_gb b1 KQ (by omega)
  replace G := G.trans b1
  replace h := h1
  replace o2 := Nat.lt_of_lt_of_le o2 b1.size
  clear h1 b1 N1
  go_simp
  refine wpSeq_wp rfl ?_
  unfold Oper.wp execOp
  go_simp
  refine wpSeq_alloc 26 zeroFr rfl (fun W => by go_simp; rfl) ?_
  simp only [AP]
  refine wpSeq_store_row rfl 26 _ _ rfl (W3.heap.size) #[.int .u64 0, .int .u64 0, .int .u64 0, .int .u64 0, .int .u64 0, .bool false, .slice none 0 0, .slice none 0 0] rfl rfl _ _ (Blk.new _ _ _) info_fr rfl frame_one ?_
  try simp only [Act.put]
  have b1 := below_setRow ((Below.refl W3.heap.size W3).alloc (Nat.le_refl _) (.cells zeroFr 26)) (Nat.le_refl W3.heap.size) #[.int .u64 0, .int .u64 0, .int .u64 0, .int .u64 0, .int .u64 0, .bool false, .slice none 0 0, .slice none 0 0]
  have K := (Blk.new W3 26 zeroFr).row #[.int .u64 0, .int .u64 0, .int .u64 0, .int .u64 0, .int .u64 0, .bool false, .slice none 0 0, .slice none 0 0]
  replace KR := Lib.hid (KR.below' b1)
  replace KQ := Lib.hid (KQ.below' b1)
  replace h := Lib.hid (h.below b1)
  replace G := G.trans (gb_below b1 (some B))
  have o3 := K.lt
  clear b1
  generalize World.setRow _ _ _ = W4 at *
  generalize W3.heap.size = gf at *
  obtain ⟨H, hH⟩ : ∃ H, W4.heap.size = H := ⟨_, rfl⟩
  have ord := Lib.hid (show B < W.heap.size ∧ W.heap.size < RB ∧ RB < gf ∧ gf < H by omega)
  have hs2 : H ≤ W4.heap.size := by omega
  replace K := Lib.hid K
  clear hH o1 o2 o3 hlt
  refine wpSeq_nil ?_
  refine aK _ _ ?_
  clear aK
  go_upto_region 2 with fail
  rename_i aK
  refine wp_region_seq ?_
  refine wpSeq_yield (S := fun _ => True) (v := .pointer (some ⟨gf, 0, none⟩)) (Or.inl ⟨by rfl, fun w' hw' => by go_simp⟩) trivial ?_
  simp only [AP]
  refine wpSeq_yield (S := fun w' => w' = W4) (v := .int .u64 0) (Or.inl ⟨by rfl, fun w' hw' => by (rw [hw']; have cc : W4.cell? ⟨gf, 0, none⟩ = some (.int .u64 0) := K.out.cell 0; go_simp)⟩) rfl ?_
  simp only [AP]
  refine wpSeq_nil ?_
  refine (by assumption : ∀ (a : Act) (w : World), _ → _) _ _ ?_
  go_upto_region 29 with fail
  rename_i aK
  refine wp_region_seq ?_
  refine wpSeq_yield (S := fun w' => w' = W4) (show YieldsIf _ _ _ _ (.agg #[.int .u64 0, .int .u64 0, .int .u64 0, .int .u64 0, .int .u64 0, .bool false, .slice none 0 0, .slice none 0 0]) _ from yieldsIf_load_mid (S := fun w' => w' = W4) rfl 26 _ rfl gf 0 rfl [.int .u64 0, .int .u64 0, .int .u64 0, .int .u64 0, .int .u64 0, .bool false, .slice none 0 0, .slice none 0 0] _ (fun _ h => h ▸ blk_range K.out) Try.underlying26 rfl info_fr) rfl ?_
  simp only [AP]
  have sb := OwL.sb (OwL.nil H W4)
  refine wpSeq_wp rfl ?_
  unfold Oper.wp execOp
  go_simp
  refine (BC.out _ _ _ sb).mono ?_
  rintro _ W5 ⟨rfl, b1⟩
  replace K := Lib.hid (K.out.below' b1)
  replace KR := Lib.hid (KR.out.below' b1)
  replace KQ := Lib.hid (KQ.out.below' b1)
  replace h := Lib.hid (h.out.below b1)
  replace G := G.trans (gb_below b1 _)
  have O := OwL.below (OwL.nil H W4) b1
  have OS := OwS.below (OwS.nil H W4) b1
  replace hs2 := Nat.le_trans hs2 b1.size
  clear b1 BC sb
  go_simp
  refine wpSeq_nil ?_
  refine (by assumption : ∀ (a : Act) (w : World), _ → _) _ _ ?_
  go_upto_region 31 with fail
  rename_i aK
  refine wp_region_seq ?_
  refine wpSeq_yield (S := fun w' => w' = W5) (show YieldsIf _ _ _ _ (.agg #[.int .u64 0, .int .u64 0, .int .u64 0, .int .u64 0, .int .u64 0, .bool false, .slice none 0 0, .slice none 0 0]) _ from yieldsIf_load_mid (S := fun w' => w' = W5) rfl 26 _ rfl gf 0 rfl [.int .u64 0, .int .u64 0, .int .u64 0, .int .u64 0, .int .u64 0, .bool false, .slice none 0 0, .slice none 0 0] _ (fun _ h => h ▸ blk_range K.out) Try.underlying26 rfl info_fr) rfl ?_
  simp only [AP]
  refine wpSeq_store_row rfl 26 _ _ rfl RB #[.int .u64 0, .int .u64 0, .int .u64 0, .int .u64 0, .int .u64 0, .bool false, .slice none 0 0, .slice none 0 0] rfl rfl _ _ KQ.out info_fr rfl frame_one ?_
  try simp only [Act.put]
  refine wpSeq_nil ?_
  have KQ2 := KQ.out.row #[.int .u64 0, .int .u64 0, .int .u64 0, .int .u64 0, .int .u64 0, .bool false, .slice none 0 0, .slice none 0 0]
  have h2 := h.out.row_far (gf := RB) (by have := ord.out; omega) #[.int .u64 0, .int .u64 0, .int .u64 0, .int .u64 0, .int .u64 0, .bool false, .slice none 0 0, .slice none 0 0]
  have G2 := gb_row G (g := RB) (by have := ord.out; omega) #[.int .u64 0, .int .u64 0, .int .u64 0, .int .u64 0, .int .u64 0, .bool false, .slice none 0 0, .slice none 0 0]
  have O2 := O.of_block (w' := World.setRow W5 RB #[.int .u64 0, .int .u64 0, .int .u64 0, .int .u64 0, .int .u64 0, .bool false, .slice none 0 0, .slice none 0 0]) fun g hg => setRow_other _ _ _ _ (by have := (O.lt g hg).1; have := ord.out; omega)
  have OS2 := OS.of_block (w' := World.setRow W5 RB #[.int .u64 0, .int .u64 0, .int .u64 0, .int .u64 0, .int .u64 0, .bool false, .slice none 0 0, .slice none 0 0]) fun g hg => setRow_other _ _ _ _ (by have := (OS.lt g hg).1; have := ord.out; omega)
  clear K KR KQ h G O OS hs2
  generalize World.setRow _ _ _ = WE at *
  go_wp2
  refine bodyPost_ret (results_cell_row rfl _ _ RB 26 _ (0, 0) _ rfl KQ2 Try.underlying26 rfl info_fr) rfl ?_
  exact ⟨⟨_, _, rfl, O2.mono (by have := ord.out; omega), OS2.mono (by have := ord.out; omega)⟩, h2, G2⟩
set_option maxHeartbeats 16000000 in
set_option maxRecDepth 100000 in
theorem fr1 (B : Nat) (p : Option Addr) (l : List Nat) (l1 : List Nat) (c1 : Nat) (hz1 : numS l 0 = (1, l1, c1)) (W : World) (h : RM B W p l 0) (_hB : B ≤ W.heap.size) :
    Calls Try.prog 27 #[.agg #[.pointer p]] W fun e w' => (∃ vd va, e = .returned (.agg #[.int .u64 1, .int .u64 0, .int .u64 0, .int .u64 0, .int .u64 0, .bool false, vd, va]) ∧ OwL W.heap.size w' vd [] ∧ OwS W.heap.size w' va []) ∧ RM B w' p l1 c1 ∧ W.grownBy w' (some B) := by
  have N1 := Lib.hid (fun w h hB => num_m B p l 0 w h hB)
  rw [hz1] at N1
  dsimp only at N1 
  have BC := Lib.hid (fun q m w (hd : SB w (.slice q 0 m) []) => (show Calls Try.prog 33 #[.agg #[.int .u64 1, .int .u64 0, .int .u64 0, .int .u64 0, .int .u64 0, .bool false, .slice q 0 m, .slice none 0 0]] w fun e w' => e = .returned (.bool false) ∧ Below w.heap.size w w' by
    have := beyond_c ⟨1, 0, 0, 0, 0, false, [], []⟩ (show (0 : Nat) < 18446744073709551616 by decide) (Nat.zero_le _) (.slice q 0 m) (.slice none 0 0) w hd
    rw [show beyondF ⟨1, 0, 0, 0, 0, false, [], []⟩ = false from rfl] at this
    exact this))
  clear hz1
  have hlt : B < W.heap.size := by
    obtain ⟨g, pb, cb, _, hg, KB, _⟩ := h
    have := KB.lt
    omega
  clear _hB
  go_enter Try.func27, Try.ntmps27
  go_upto_region 0 with fail
  rename_i aK
  refine wp_region_seq ?_
  refine wpSeq_wp rfl ?_
  unfold Oper.wp execOp
  go_simp
  have b0 := (Below.refl W.heap.size W).alloc (Nat.le_refl _) (.cells #[.pointer p] 58)
  have KR := Blk.new W 58 #[.pointer p]
  replace h := h.below b0
  have G := gb_below b0 (some B)
  have o1 := KR.lt
  clear b0
  generalize World.alloc W _ = W1 at *
  refine wpSeq_alloc 26 zeroFr rfl (fun W => by go_simp; rfl) ?_
  simp only [AP]
  have b0 := (Below.refl W1.heap.size W1).alloc (Nat.le_refl _) (.cells zeroFr 26)
  have KQ := Blk.new W1 26 zeroFr
  replace KR := KR.below' b0
  replace h := h.below b0
  replace G := G.trans (gb_below b0 (some B))
  have o2 := KQ.lt
  clear b0
  generalize World.alloc W1 _ = W2 at *
  generalize W1.heap.size = RB at *
  refine wpSeq_nil ?_
  refine aK _ _ ?_
  clear aK
  go_upto_region 1 with fail
  rename_i aK
  refine wp_region_seq ?_
  refine wpSeq_yield (S := fun _ => True) (v := .pointer (some ⟨W.heap.size, 0, none⟩)) (Or.inl ⟨by rfl, fun w' hw' => by go_simp⟩) trivial ?_
  simp only [AP]
  refine wpSeq_yield (S := fun w' => w' = W2) (v := .pointer p) (Or.inl ⟨by rfl, fun w' hw' => by (rw [hw']; have cc : W2.cell? ⟨W.heap.size, 0, none⟩ = some (.pointer p) := KR.cell 0; go_simp)⟩) rfl ?_
  simp only [AP]
  refine wpSeq_wp rfl ?_
  unfold Oper.wp execOp
  go_simp
  refine (N1.out _ h (by omega)).mono ?_
  rintro _ W3 ⟨rfl, h1, b1⟩
  replace KR := blk_gb b1 KR (by omega)
  replace KQ := blk_gb b1 KQ (by omega)
  replace G := G.trans b1
  replace h := h1
  replace o2 := Nat.lt_of_lt_of_le o2 b1.size
  clear h1 b1 N1
  go_simp
  refine wpSeq_wp rfl ?_
  unfold Oper.wp execOp
  go_simp
  refine wpSeq_alloc 26 zeroFr rfl (fun W => by go_simp; rfl) ?_
  simp only [AP]
  refine wpSeq_store_row rfl 26 _ _ rfl (W3.heap.size) #[.int .u64 1, .int .u64 0, .int .u64 0, .int .u64 0, .int .u64 0, .bool false, .slice none 0 0, .slice none 0 0] rfl rfl _ _ (Blk.new _ _ _) info_fr rfl frame_one ?_
  try simp only [Act.put]
  have b1 := below_setRow ((Below.refl W3.heap.size W3).alloc (Nat.le_refl _) (.cells zeroFr 26)) (Nat.le_refl W3.heap.size) #[.int .u64 1, .int .u64 0, .int .u64 0, .int .u64 0, .int .u64 0, .bool false, .slice none 0 0, .slice none 0 0]
  have K := (Blk.new W3 26 zeroFr).row #[.int .u64 1, .int .u64 0, .int .u64 0, .int .u64 0, .int .u64 0, .bool false, .slice none 0 0, .slice none 0 0]
  replace KR := Lib.hid (KR.below' b1)
  replace KQ := Lib.hid (KQ.below' b1)
  replace h := Lib.hid (h.below b1)
  replace G := G.trans (gb_below b1 (some B))
  have o3 := K.lt
  clear b1
  generalize World.setRow _ _ _ = W4 at *
  generalize W3.heap.size = gf at *
  obtain ⟨H, hH⟩ : ∃ H, W4.heap.size = H := ⟨_, rfl⟩
  have ord := Lib.hid (show B < W.heap.size ∧ W.heap.size < RB ∧ RB < gf ∧ gf < H by omega)
  have hs2 : H ≤ W4.heap.size := by omega
  replace K := Lib.hid K
  clear hH o1 o2 o3 hlt
  refine wpSeq_nil ?_
  refine aK _ _ ?_
  clear aK
  go_upto_region 2 with fail
  rename_i aK
  refine wp_region_seq ?_
  refine wpSeq_yield (S := fun _ => True) (v := .pointer (some ⟨gf, 0, none⟩)) (Or.inl ⟨by rfl, fun w' hw' => by go_simp⟩) trivial ?_
  simp only [AP]
  refine wpSeq_yield (S := fun w' => w' = W4) (v := .int .u64 1) (Or.inl ⟨by rfl, fun w' hw' => by (rw [hw']; have cc : W4.cell? ⟨gf, 0, none⟩ = some (.int .u64 1) := K.out.cell 0; go_simp)⟩) rfl ?_
  simp only [AP]
  refine wpSeq_nil ?_
  refine (by assumption : ∀ (a : Act) (w : World), _ → _) _ _ ?_
  go_upto_region 29 with fail
  rename_i aK
  refine wp_region_seq ?_
  refine wpSeq_yield (S := fun w' => w' = W4) (show YieldsIf _ _ _ _ (.agg #[.int .u64 1, .int .u64 0, .int .u64 0, .int .u64 0, .int .u64 0, .bool false, .slice none 0 0, .slice none 0 0]) _ from yieldsIf_load_mid (S := fun w' => w' = W4) rfl 26 _ rfl gf 0 rfl [.int .u64 1, .int .u64 0, .int .u64 0, .int .u64 0, .int .u64 0, .bool false, .slice none 0 0, .slice none 0 0] _ (fun _ h => h ▸ blk_range K.out) Try.underlying26 rfl info_fr) rfl ?_
  simp only [AP]
  have sb := OwL.sb (OwL.nil H W4)
  refine wpSeq_wp rfl ?_
  unfold Oper.wp execOp
  go_simp
  refine (BC.out _ _ _ sb).mono ?_
  rintro _ W5 ⟨rfl, b1⟩
  replace K := Lib.hid (K.out.below' b1)
  replace KR := Lib.hid (KR.out.below' b1)
  replace KQ := Lib.hid (KQ.out.below' b1)
  replace h := Lib.hid (h.out.below b1)
  replace G := G.trans (gb_below b1 _)
  have O := OwL.below (OwL.nil H W4) b1
  have OS := OwS.below (OwS.nil H W4) b1
  replace hs2 := Nat.le_trans hs2 b1.size
  clear b1 BC sb
  go_simp
  refine wpSeq_nil ?_
  refine (by assumption : ∀ (a : Act) (w : World), _ → _) _ _ ?_
  go_upto_region 31 with fail
  rename_i aK
  refine wp_region_seq ?_
  refine wpSeq_yield (S := fun w' => w' = W5) (show YieldsIf _ _ _ _ (.agg #[.int .u64 1, .int .u64 0, .int .u64 0, .int .u64 0, .int .u64 0, .bool false, .slice none 0 0, .slice none 0 0]) _ from yieldsIf_load_mid (S := fun w' => w' = W5) rfl 26 _ rfl gf 0 rfl [.int .u64 1, .int .u64 0, .int .u64 0, .int .u64 0, .int .u64 0, .bool false, .slice none 0 0, .slice none 0 0] _ (fun _ h => h ▸ blk_range K.out) Try.underlying26 rfl info_fr) rfl ?_
  simp only [AP]
  refine wpSeq_store_row rfl 26 _ _ rfl RB #[.int .u64 1, .int .u64 0, .int .u64 0, .int .u64 0, .int .u64 0, .bool false, .slice none 0 0, .slice none 0 0] rfl rfl _ _ KQ.out info_fr rfl frame_one ?_
  try simp only [Act.put]
  refine wpSeq_nil ?_
  have KQ2 := KQ.out.row #[.int .u64 1, .int .u64 0, .int .u64 0, .int .u64 0, .int .u64 0, .bool false, .slice none 0 0, .slice none 0 0]
  have h2 := h.out.row_far (gf := RB) (by have := ord.out; omega) #[.int .u64 1, .int .u64 0, .int .u64 0, .int .u64 0, .int .u64 0, .bool false, .slice none 0 0, .slice none 0 0]
  have G2 := gb_row G (g := RB) (by have := ord.out; omega) #[.int .u64 1, .int .u64 0, .int .u64 0, .int .u64 0, .int .u64 0, .bool false, .slice none 0 0, .slice none 0 0]
  have O2 := O.of_block (w' := World.setRow W5 RB #[.int .u64 1, .int .u64 0, .int .u64 0, .int .u64 0, .int .u64 0, .bool false, .slice none 0 0, .slice none 0 0]) fun g hg => setRow_other _ _ _ _ (by have := (O.lt g hg).1; have := ord.out; omega)
  have OS2 := OS.of_block (w' := World.setRow W5 RB #[.int .u64 1, .int .u64 0, .int .u64 0, .int .u64 0, .int .u64 0, .bool false, .slice none 0 0, .slice none 0 0]) fun g hg => setRow_other _ _ _ _ (by have := (OS.lt g hg).1; have := ord.out; omega)
  clear K KR KQ h G O OS hs2
  generalize World.setRow _ _ _ = WE at *
  go_wp2
  refine bodyPost_ret (results_cell_row rfl _ _ RB 26 _ (0, 0) _ rfl KQ2 Try.underlying26 rfl info_fr) rfl ?_
  exact ⟨⟨_, _, rfl, O2.mono (by have := ord.out; omega), OS2.mono (by have := ord.out; omega)⟩, h2, G2⟩
set_option maxHeartbeats 16000000 in
set_option maxRecDepth 100000 in
theorem fr30 (B : Nat) (p : Option Addr) (l : List Nat) (l1 : List Nat) (c1 : Nat) (hz1 : numS l 0 = (30, l1, c1)) (W : World) (h : RM B W p l 0) (_hB : B ≤ W.heap.size) :
    Calls Try.prog 27 #[.agg #[.pointer p]] W fun e w' => (∃ vd va, e = .returned (.agg #[.int .u64 30, .int .u64 0, .int .u64 0, .int .u64 0, .int .u64 0, .bool false, vd, va]) ∧ OwL W.heap.size w' vd [] ∧ OwS W.heap.size w' va []) ∧ RM B w' p l1 c1 ∧ W.grownBy w' (some B) := by
  have N1 := Lib.hid (fun w h hB => num_m B p l 0 w h hB)
  rw [hz1] at N1
  dsimp only at N1 
  have BC := Lib.hid (fun q m w (hd : SB w (.slice q 0 m) []) => (show Calls Try.prog 33 #[.agg #[.int .u64 30, .int .u64 0, .int .u64 0, .int .u64 0, .int .u64 0, .bool false, .slice q 0 m, .slice none 0 0]] w fun e w' => e = .returned (.bool false) ∧ Below w.heap.size w w' by
    have := beyond_c ⟨30, 0, 0, 0, 0, false, [], []⟩ (show (0 : Nat) < 18446744073709551616 by decide) (Nat.zero_le _) (.slice q 0 m) (.slice none 0 0) w hd
    rw [show beyondF ⟨30, 0, 0, 0, 0, false, [], []⟩ = false from rfl] at this
    exact this))
  clear hz1
  have hlt : B < W.heap.size := by
    obtain ⟨g, pb, cb, _, hg, KB, _⟩ := h
    have := KB.lt
    omega
  clear _hB
  go_enter Try.func27, Try.ntmps27
  go_upto_region 0 with fail
  rename_i aK
  refine wp_region_seq ?_
  refine wpSeq_wp rfl ?_
  unfold Oper.wp execOp
  go_simp
  have b0 := (Below.refl W.heap.size W).alloc (Nat.le_refl _) (.cells #[.pointer p] 58)
  have KR := Blk.new W 58 #[.pointer p]
  replace h := h.below b0
  have G := gb_below b0 (some B)
  have o1 := KR.lt
  clear b0
  generalize World.alloc W _ = W1 at *
  refine wpSeq_alloc 26 zeroFr rfl (fun W => by go_simp; rfl) ?_
  simp only [AP]
  have b0 := (Below.refl W1.heap.size W1).alloc (Nat.le_refl _) (.cells zeroFr 26)
  have KQ := Blk.new W1 26 zeroFr
  replace KR := KR.below' b0
  replace h := h.below b0
  replace G := G.trans (gb_below b0 (some B))
  have o2 := KQ.lt
  clear b0
  generalize World.alloc W1 _ = W2 at *
  generalize W1.heap.size = RB at *
  refine wpSeq_nil ?_
  refine aK _ _ ?_
  clear aK
  go_upto_region 1 with fail
  rename_i aK
  refine wp_region_seq ?_
  refine wpSeq_yield (S := fun _ => True) (v := .pointer (some ⟨W.heap.size, 0, none⟩)) (Or.inl ⟨by rfl, fun w' hw' => by go_simp⟩) trivial ?_
  simp only [AP]
  refine wpSeq_yield (S := fun w' => w' = W2) (v := .pointer p) (Or.inl ⟨by rfl, fun w' hw' => by (rw [hw']; have cc : W2.cell? ⟨W.heap.size, 0, none⟩ = some (.pointer p) := KR.cell 0; go_simp)⟩) rfl ?_
  simp only [AP]
  refine wpSeq_wp rfl ?_
  unfold Oper.wp execOp
  go_simp
  refine (N1.out _ h (by omega)).mono ?_
  rintro _ W3 ⟨rfl, h1, b1⟩
  replace KR := blk_gb b1 KR (by omega)
  replace KQ := blk_gb b1 KQ (by omega)
  replace G := G.trans b1
  replace h := h1
  replace o2 := Nat.lt_of_lt_of_le o2 b1.size
  clear h1 b1 N1
  go_simp
  refine wpSeq_wp rfl ?_
  unfold Oper.wp execOp
  go_simp
  refine wpSeq_alloc 26 zeroFr rfl (fun W => by go_simp; rfl) ?_
  simp only [AP]
  refine wpSeq_store_row rfl 26 _ _ rfl (W3.heap.size) #[.int .u64 30, .int .u64 0, .int .u64 0, .int .u64 0, .int .u64 0, .bool false, .slice none 0 0, .slice none 0 0] rfl rfl _ _ (Blk.new _ _ _) info_fr rfl frame_one ?_
  try simp only [Act.put]
  have b1 := below_setRow ((Below.refl W3.heap.size W3).alloc (Nat.le_refl _) (.cells zeroFr 26)) (Nat.le_refl W3.heap.size) #[.int .u64 30, .int .u64 0, .int .u64 0, .int .u64 0, .int .u64 0, .bool false, .slice none 0 0, .slice none 0 0]
  have K := (Blk.new W3 26 zeroFr).row #[.int .u64 30, .int .u64 0, .int .u64 0, .int .u64 0, .int .u64 0, .bool false, .slice none 0 0, .slice none 0 0]
  replace KR := Lib.hid (KR.below' b1)
  replace KQ := Lib.hid (KQ.below' b1)
  replace h := Lib.hid (h.below b1)
  replace G := G.trans (gb_below b1 (some B))
  have o3 := K.lt
  clear b1
  generalize World.setRow _ _ _ = W4 at *
  generalize W3.heap.size = gf at *
  obtain ⟨H, hH⟩ : ∃ H, W4.heap.size = H := ⟨_, rfl⟩
  have ord := Lib.hid (show B < W.heap.size ∧ W.heap.size < RB ∧ RB < gf ∧ gf < H by omega)
  have hs2 : H ≤ W4.heap.size := by omega
  replace K := Lib.hid K
  clear hH o1 o2 o3 hlt
  refine wpSeq_nil ?_
  refine aK _ _ ?_
  clear aK
  go_upto_region 2 with fail
  rename_i aK
  refine wp_region_seq ?_
  refine wpSeq_yield (S := fun _ => True) (v := .pointer (some ⟨gf, 0, none⟩)) (Or.inl ⟨by rfl, fun w' hw' => by go_simp⟩) trivial ?_
  simp only [AP]
  refine wpSeq_yield (S := fun w' => w' = W4) (v := .int .u64 30) (Or.inl ⟨by rfl, fun w' hw' => by (rw [hw']; have cc : W4.cell? ⟨gf, 0, none⟩ = some (.int .u64 30) := K.out.cell 0; go_simp)⟩) rfl ?_
  simp only [AP]
  refine wpSeq_nil ?_
  refine (by assumption : ∀ (a : Act) (w : World), _ → _) _ _ ?_
  go_upto_region 29 with fail
  rename_i aK
  refine wp_region_seq ?_
  refine wpSeq_yield (S := fun w' => w' = W4) (show YieldsIf _ _ _ _ (.agg #[.int .u64 30, .int .u64 0, .int .u64 0, .int .u64 0, .int .u64 0, .bool false, .slice none 0 0, .slice none 0 0]) _ from yieldsIf_load_mid (S := fun w' => w' = W4) rfl 26 _ rfl gf 0 rfl [.int .u64 30, .int .u64 0, .int .u64 0, .int .u64 0, .int .u64 0, .bool false, .slice none 0 0, .slice none 0 0] _ (fun _ h => h ▸ blk_range K.out) Try.underlying26 rfl info_fr) rfl ?_
  simp only [AP]
  have sb := OwL.sb (OwL.nil H W4)
  refine wpSeq_wp rfl ?_
  unfold Oper.wp execOp
  go_simp
  refine (BC.out _ _ _ sb).mono ?_
  rintro _ W5 ⟨rfl, b1⟩
  replace K := Lib.hid (K.out.below' b1)
  replace KR := Lib.hid (KR.out.below' b1)
  replace KQ := Lib.hid (KQ.out.below' b1)
  replace h := Lib.hid (h.out.below b1)
  replace G := G.trans (gb_below b1 _)
  have O := OwL.below (OwL.nil H W4) b1
  have OS := OwS.below (OwS.nil H W4) b1
  replace hs2 := Nat.le_trans hs2 b1.size
  clear b1 BC sb
  go_simp
  refine wpSeq_nil ?_
  refine (by assumption : ∀ (a : Act) (w : World), _ → _) _ _ ?_
  go_upto_region 31 with fail
  rename_i aK
  refine wp_region_seq ?_
  refine wpSeq_yield (S := fun w' => w' = W5) (show YieldsIf _ _ _ _ (.agg #[.int .u64 30, .int .u64 0, .int .u64 0, .int .u64 0, .int .u64 0, .bool false, .slice none 0 0, .slice none 0 0]) _ from yieldsIf_load_mid (S := fun w' => w' = W5) rfl 26 _ rfl gf 0 rfl [.int .u64 30, .int .u64 0, .int .u64 0, .int .u64 0, .int .u64 0, .bool false, .slice none 0 0, .slice none 0 0] _ (fun _ h => h ▸ blk_range K.out) Try.underlying26 rfl info_fr) rfl ?_
  simp only [AP]
  refine wpSeq_store_row rfl 26 _ _ rfl RB #[.int .u64 30, .int .u64 0, .int .u64 0, .int .u64 0, .int .u64 0, .bool false, .slice none 0 0, .slice none 0 0] rfl rfl _ _ KQ.out info_fr rfl frame_one ?_
  try simp only [Act.put]
  refine wpSeq_nil ?_
  have KQ2 := KQ.out.row #[.int .u64 30, .int .u64 0, .int .u64 0, .int .u64 0, .int .u64 0, .bool false, .slice none 0 0, .slice none 0 0]
  have h2 := h.out.row_far (gf := RB) (by have := ord.out; omega) #[.int .u64 30, .int .u64 0, .int .u64 0, .int .u64 0, .int .u64 0, .bool false, .slice none 0 0, .slice none 0 0]
  have G2 := gb_row G (g := RB) (by have := ord.out; omega) #[.int .u64 30, .int .u64 0, .int .u64 0, .int .u64 0, .int .u64 0, .bool false, .slice none 0 0, .slice none 0 0]
  have O2 := O.of_block (w' := World.setRow W5 RB #[.int .u64 30, .int .u64 0, .int .u64 0, .int .u64 0, .int .u64 0, .bool false, .slice none 0 0, .slice none 0 0]) fun g hg => setRow_other _ _ _ _ (by have := (O.lt g hg).1; have := ord.out; omega)
  have OS2 := OS.of_block (w' := World.setRow W5 RB #[.int .u64 30, .int .u64 0, .int .u64 0, .int .u64 0, .int .u64 0, .bool false, .slice none 0 0, .slice none 0 0]) fun g hg => setRow_other _ _ _ _ (by have := (OS.lt g hg).1; have := ord.out; omega)
  clear K KR KQ h G O OS hs2
  generalize World.setRow _ _ _ = WE at *
  go_wp2
  refine bodyPost_ret (results_cell_row rfl _ _ RB 26 _ (0, 0) _ rfl KQ2 Try.underlying26 rfl info_fr) rfl ?_
  exact ⟨⟨_, _, rfl, O2.mono (by have := ord.out; omega), OS2.mono (by have := ord.out; omega)⟩, h2, G2⟩
set_option maxHeartbeats 16000000 in
set_option maxRecDepth 100000 in
theorem fr16 (B : Nat) (p : Option Addr) (l : List Nat) (l1 : List Nat) (c1 : Nat) (hz1 : numS l 0 = (16, l1, c1)) (z2 : Nat) (lz2 : List Nat) (cz2 : Nat) (hz2 : numS l1 c1 = (z2, lz2, cz2)) (W : World) (h : RM B W p l 0) (_hB : B ≤ W.heap.size) :
    Calls Try.prog 27 #[.agg #[.pointer p]] W fun e w' => (∃ vd va, e = .returned (.agg #[.int .u64 16, .int .u64 0, .int .u64 0, .int .u64 (z2 : Int), .int .u64 0, .bool false, vd, va]) ∧ OwL W.heap.size w' vd [] ∧ OwS W.heap.size w' va []) ∧ RM B w' p lz2 cz2 ∧ W.grownBy w' (some B) := by
  have N1 := Lib.hid (fun w h hB => num_m B p l 0 w h hB)
  rw [hz1] at N1
  have Nz2 := Lib.hid (fun w h hB => num_m B p l1 c1 w h hB)
  rw [hz2] at Nz2
  dsimp only at N1 Nz2
  have BC := Lib.hid (fun q m w (hd : SB w (.slice q 0 m) []) => (show Calls Try.prog 33 #[.agg #[.int .u64 16, .int .u64 0, .int .u64 0, .int .u64 (z2 : Int), .int .u64 0, .bool false, .slice q 0 m, .slice none 0 0]] w fun e w' => e = .returned (.bool false) ∧ Below w.heap.size w w' by
    have := beyond_c ⟨16, 0, 0, z2, 0, false, [], []⟩ (show (0 : Nat) < 18446744073709551616 by decide) (Nat.zero_le _) (.slice q 0 m) (.slice none 0 0) w hd
    rw [show beyondF ⟨16, 0, 0, z2, 0, false, [], []⟩ = false from rfl] at this
    exact this))
  clear hz1 hz2
  have hlt : B < W.heap.size := by
    obtain ⟨g, pb, cb, _, hg, KB, _⟩ := h
    have := KB.lt
    omega
  clear _hB
  go_enter Try.func27, Try.ntmps27
  go_upto_region 0 with fail
  rename_i aK
  refine wp_region_seq ?_
  refine wpSeq_wp rfl ?_
  unfold Oper.wp execOp
  go_simp
  have b0 := (Below.refl W.heap.size W).alloc (Nat.le_refl _) (.cells #[.pointer p] 58)
  have KR := Blk.new W 58 #[.pointer p]
  replace h := h.below b0
  have G := gb_below b0 (some B)
  have o1 := KR.lt
  clear b0
  generalize World.alloc W _ = W1 at *
  refine wpSeq_alloc 26 zeroFr rfl (fun W => by go_simp; rfl) ?_
  simp only [AP]
  have b0 := (Below.refl W1.heap.size W1).alloc (Nat.le_refl _) (.cells zeroFr 26)
  have KQ := Blk.new W1 26 zeroFr
  replace KR := KR.below' b0
  replace h := h.below b0
  replace G := G.trans (gb_below b0 (some B))
  have o2 := KQ.lt
  clear b0
  generalize World.alloc W1 _ = W2 at *
  generalize W1.heap.size = RB at *
  refine wpSeq_nil ?_
  refine aK _ _ ?_
  clear aK
  go_upto_region 1 with fail
  rename_i aK
  refine wp_region_seq ?_
  refine wpSeq_yield (S := fun _ => True) (v := .pointer (some ⟨W.heap.size, 0, none⟩)) (Or.inl ⟨by rfl, fun w' hw' => by go_simp⟩) trivial ?_
  simp only [AP]
  refine wpSeq_yield (S := fun w' => w' = W2) (v := .pointer p) (Or.inl ⟨by rfl, fun w' hw' => by (rw [hw']; have cc : W2.cell? ⟨W.heap.size, 0, none⟩ = some (.pointer p) := KR.cell 0; go_simp)⟩) rfl ?_
  simp only [AP]
  refine wpSeq_wp rfl ?_
  unfold Oper.wp execOp
  go_simp
  refine (N1.out _ h (by omega)).mono ?_
  rintro _ W3 ⟨rfl, h1, b1⟩
  replace KR := blk_gb b1 KR (by omega)
  replace KQ := blk_gb b1 KQ (by omega)
  replace G := G.trans b1
  replace h := h1
  replace o2 := Nat.lt_of_lt_of_le o2 b1.size
  clear h1 b1 N1
  go_simp
  refine wpSeq_wp rfl ?_
  unfold Oper.wp execOp
  go_simp
  refine wpSeq_alloc 26 zeroFr rfl (fun W => by go_simp; rfl) ?_
  simp only [AP]
  refine wpSeq_store_row rfl 26 _ _ rfl (W3.heap.size) #[.int .u64 16, .int .u64 0, .int .u64 0, .int .u64 0, .int .u64 0, .bool false, .slice none 0 0, .slice none 0 0] rfl rfl _ _ (Blk.new _ _ _) info_fr rfl frame_one ?_
  try simp only [Act.put]
  have b1 := below_setRow ((Below.refl W3.heap.size W3).alloc (Nat.le_refl _) (.cells zeroFr 26)) (Nat.le_refl W3.heap.size) #[.int .u64 16, .int .u64 0, .int .u64 0, .int .u64 0, .int .u64 0, .bool false, .slice none 0 0, .slice none 0 0]
  have K := (Blk.new W3 26 zeroFr).row #[.int .u64 16, .int .u64 0, .int .u64 0, .int .u64 0, .int .u64 0, .bool false, .slice none 0 0, .slice none 0 0]
  replace KR := Lib.hid (KR.below' b1)
  replace KQ := Lib.hid (KQ.below' b1)
  replace h := Lib.hid (h.below b1)
  replace G := G.trans (gb_below b1 (some B))
  have o3 := K.lt
  clear b1
  generalize World.setRow _ _ _ = W4 at *
  generalize W3.heap.size = gf at *
  obtain ⟨H, hH⟩ : ∃ H, W4.heap.size = H := ⟨_, rfl⟩
  have ord := Lib.hid (show B < W.heap.size ∧ W.heap.size < RB ∧ RB < gf ∧ gf < H by omega)
  have hs2 : H ≤ W4.heap.size := by omega
  replace K := Lib.hid K
  clear hH o1 o2 o3 hlt
  refine wpSeq_nil ?_
  refine aK _ _ ?_
  clear aK
  go_upto_region 2 with fail
  rename_i aK
  refine wp_region_seq ?_
  refine wpSeq_yield (S := fun _ => True) (v := .pointer (some ⟨gf, 0, none⟩)) (Or.inl ⟨by rfl, fun w' hw' => by go_simp⟩) trivial ?_
  simp only [AP]
  refine wpSeq_yield (S := fun w' => w' = W4) (v := .int .u64 16) (Or.inl ⟨by rfl, fun w' hw' => by (rw [hw']; have cc : W4.cell? ⟨gf, 0, none⟩ = some (.int .u64 16) := K.out.cell 0; go_simp)⟩) rfl ?_
  simp only [AP]
  refine wpSeq_nil ?_
  refine (by assumption : ∀ (a : Act) (w : World), _ → _) _ _ ?_
  go_upto_region 23 with fail
  rename_i aK
  refine wp_region_seq ?_
  refine wpSeq_yield (S := fun _ => True) (v := .pointer (some ⟨W.heap.size, 0, none⟩)) (Or.inl ⟨by rfl, fun w' hw' => by go_simp⟩) trivial ?_
  simp only [AP]
  refine wpSeq_yield (S := fun w' => w' = W4) (v := .pointer p) (Or.inl ⟨by rfl, fun w' hw' => by (rw [hw']; have cc : W4.cell? ⟨W.heap.size, 0, none⟩ = some (.pointer p) := KR.out.cell 0; go_simp)⟩) rfl ?_
  simp only [AP]
  refine wpSeq_wp rfl ?_
  unfold Oper.wp execOp
  go_simp
  refine (Nz2.out _ h.out (by have := ord.out; omega)).mono ?_
  rintro _ W5 ⟨rfl, h1, b1⟩
  replace K := Lib.hid (blk_gb b1 K.out (by have := ord.out; omega))
  replace KR := Lib.hid (blk_gb b1 KR.out (by have := ord.out; omega))
  replace KQ := Lib.hid (blk_gb b1 KQ.out (by have := ord.out; omega))
  replace h := Lib.hid h1
  replace G := G.trans b1
  replace hs2 := Nat.le_trans hs2 b1.size
  clear h1 b1 Nz2
  go_simp
  refine wpSeq_yield (S := fun _ => True) (v := .pointer (some ⟨gf, 3, none⟩)) (Or.inl ⟨by rfl, fun w' hw' => by go_simp⟩) trivial ?_
  simp only [AP]
  have cs : W5.cell? ⟨gf, 3, none⟩ = some (.int .u64 0) := K.out.cell 3
  have fz := K.out.frozen 3
  refine wpSeq_wp rfl ?_
  unfold Oper.wp execOp
  go_simp
  have K2 : Blk (W5.setCell ⟨gf, 3, none⟩ (.int .u64 (z2 : Int))) gf 26 #[.int .u64 16, .int .u64 0, .int .u64 0, .int .u64 (z2 : Int), .int .u64 0, .bool false, .slice none 0 0, .slice none 0 0] := K.out.set 3 _
  have h2 := RM.far h.out K.out (by have := ord.out; omega) (nu8_at rfl) 3 (.int .u64 (z2 : Int))
  have KR2 := KR.out.far (p := ⟨gf, 3, none⟩) (show W.heap.size ≠ gf by have := ord.out; omega) (.int .u64 (z2 : Int))
  have KQ2 := KQ.out.far (p := ⟨gf, 3, none⟩) (show RB ≠ gf by have := ord.out; omega) (.int .u64 (z2 : Int))
  have G2 := gb_cell G (g := gf) (by have := ord.out; omega) 3 (.int .u64 (z2 : Int))
  have hs3 : H ≤ (W5.setCell ⟨gf, 3, none⟩ (.int .u64 (z2 : Int))).heap.size := by simpa using hs2
  replace K := Lib.hid K2
  replace h := Lib.hid h2
  replace KR := Lib.hid KR2
  replace KQ := Lib.hid KQ2
  replace G := G2
  replace hs2 := hs3
  clear cs fz K2 h2 KR2 KQ2 G2 hs3
  generalize World.setCell _ _ _ = W6 at *
  refine wpSeq_nil ?_
  refine (by assumption : ∀ (a : Act) (w : World), _ → _) _ _ ?_
  go_upto_region 29 with fail
  rename_i aK
  refine wp_region_seq ?_
  refine wpSeq_yield (S := fun w' => w' = W6) (show YieldsIf _ _ _ _ (.agg #[.int .u64 16, .int .u64 0, .int .u64 0, .int .u64 (z2 : Int), .int .u64 0, .bool false, .slice none 0 0, .slice none 0 0]) _ from yieldsIf_load_mid (S := fun w' => w' = W6) rfl 26 _ rfl gf 0 rfl [.int .u64 16, .int .u64 0, .int .u64 0, .int .u64 (z2 : Int), .int .u64 0, .bool false, .slice none 0 0, .slice none 0 0] _ (fun _ h => h ▸ blk_range K.out) Try.underlying26 rfl info_fr) rfl ?_
  simp only [AP]
  have sb := OwL.sb (OwL.nil H W6)
  refine wpSeq_wp rfl ?_
  unfold Oper.wp execOp
  go_simp
  refine (BC.out _ _ _ sb).mono ?_
  rintro _ W7 ⟨rfl, b1⟩
  replace K := Lib.hid (K.out.below' b1)
  replace KR := Lib.hid (KR.out.below' b1)
  replace KQ := Lib.hid (KQ.out.below' b1)
  replace h := Lib.hid (h.out.below b1)
  replace G := G.trans (gb_below b1 _)
  have O := OwL.below (OwL.nil H W6) b1
  have OS := OwS.below (OwS.nil H W6) b1
  replace hs2 := Nat.le_trans hs2 b1.size
  clear b1 BC sb
  go_simp
  refine wpSeq_nil ?_
  refine (by assumption : ∀ (a : Act) (w : World), _ → _) _ _ ?_
  go_upto_region 31 with fail
  rename_i aK
  refine wp_region_seq ?_
  refine wpSeq_yield (S := fun w' => w' = W7) (show YieldsIf _ _ _ _ (.agg #[.int .u64 16, .int .u64 0, .int .u64 0, .int .u64 (z2 : Int), .int .u64 0, .bool false, .slice none 0 0, .slice none 0 0]) _ from yieldsIf_load_mid (S := fun w' => w' = W7) rfl 26 _ rfl gf 0 rfl [.int .u64 16, .int .u64 0, .int .u64 0, .int .u64 (z2 : Int), .int .u64 0, .bool false, .slice none 0 0, .slice none 0 0] _ (fun _ h => h ▸ blk_range K.out) Try.underlying26 rfl info_fr) rfl ?_
  simp only [AP]
  refine wpSeq_store_row rfl 26 _ _ rfl RB #[.int .u64 16, .int .u64 0, .int .u64 0, .int .u64 (z2 : Int), .int .u64 0, .bool false, .slice none 0 0, .slice none 0 0] rfl rfl _ _ KQ.out info_fr rfl frame_one ?_
  try simp only [Act.put]
  refine wpSeq_nil ?_
  have KQ2 := KQ.out.row #[.int .u64 16, .int .u64 0, .int .u64 0, .int .u64 (z2 : Int), .int .u64 0, .bool false, .slice none 0 0, .slice none 0 0]
  have h2 := h.out.row_far (gf := RB) (by have := ord.out; omega) #[.int .u64 16, .int .u64 0, .int .u64 0, .int .u64 (z2 : Int), .int .u64 0, .bool false, .slice none 0 0, .slice none 0 0]
  have G2 := gb_row G (g := RB) (by have := ord.out; omega) #[.int .u64 16, .int .u64 0, .int .u64 0, .int .u64 (z2 : Int), .int .u64 0, .bool false, .slice none 0 0, .slice none 0 0]
  have O2 := O.of_block (w' := World.setRow W7 RB #[.int .u64 16, .int .u64 0, .int .u64 0, .int .u64 (z2 : Int), .int .u64 0, .bool false, .slice none 0 0, .slice none 0 0]) fun g hg => setRow_other _ _ _ _ (by have := (O.lt g hg).1; have := ord.out; omega)
  have OS2 := OS.of_block (w' := World.setRow W7 RB #[.int .u64 16, .int .u64 0, .int .u64 0, .int .u64 (z2 : Int), .int .u64 0, .bool false, .slice none 0 0, .slice none 0 0]) fun g hg => setRow_other _ _ _ _ (by have := (OS.lt g hg).1; have := ord.out; omega)
  clear K KR KQ h G O OS hs2
  generalize World.setRow _ _ _ = WE at *
  go_wp2
  refine bodyPost_ret (results_cell_row rfl _ _ RB 26 _ (0, 0) _ rfl KQ2 Try.underlying26 rfl info_fr) rfl ?_
  exact ⟨⟨_, _, rfl, O2.mono (by have := ord.out; omega), OS2.mono (by have := ord.out; omega)⟩, h2, G2⟩
set_option maxHeartbeats 16000000 in
set_option maxRecDepth 100000 in
theorem fr18 (B : Nat) (p : Option Addr) (l : List Nat) (l1 : List Nat) (c1 : Nat) (hz1 : numS l 0 = (18, l1, c1)) (z2 : Nat) (lz2 : List Nat) (cz2 : Nat) (hz2 : numS l1 c1 = (z2, lz2, cz2)) (W : World) (h : RM B W p l 0) (_hB : B ≤ W.heap.size) :
    Calls Try.prog 27 #[.agg #[.pointer p]] W fun e w' => (∃ vd va, e = .returned (.agg #[.int .u64 18, .int .u64 0, .int .u64 0, .int .u64 (z2 : Int), .int .u64 0, .bool false, vd, va]) ∧ OwL W.heap.size w' vd [] ∧ OwS W.heap.size w' va []) ∧ RM B w' p lz2 cz2 ∧ W.grownBy w' (some B) := by
  have N1 := Lib.hid (fun w h hB => num_m B p l 0 w h hB)
  rw [hz1] at N1
  have Nz2 := Lib.hid (fun w h hB => num_m B p l1 c1 w h hB)
  rw [hz2] at Nz2
  dsimp only at N1 Nz2
  have BC := Lib.hid (fun q m w (hd : SB w (.slice q 0 m) []) => (show Calls Try.prog 33 #[.agg #[.int .u64 18, .int .u64 0, .int .u64 0, .int .u64 (z2 : Int), .int .u64 0, .bool false, .slice q 0 m, .slice none 0 0]] w fun e w' => e = .returned (.bool false) ∧ Below w.heap.size w w' by
    have := beyond_c ⟨18, 0, 0, z2, 0, false, [], []⟩ (show (0 : Nat) < 18446744073709551616 by decide) (Nat.zero_le _) (.slice q 0 m) (.slice none 0 0) w hd
    rw [show beyondF ⟨18, 0, 0, z2, 0, false, [], []⟩ = false from rfl] at this
    exact this))
  clear hz1 hz2
  have hlt : B < W.heap.size := by
    obtain ⟨g, pb, cb, _, hg, KB, _⟩ := h
    have := KB.lt
    omega
  clear _hB
  go_enter Try.func27, Try.ntmps27
  go_upto_region 0 with fail
  rename_i aK
  refine wp_region_seq ?_
  refine wpSeq_wp rfl ?_
  unfold Oper.wp execOp
  go_simp
  have b0 := (Below.refl W.heap.size W).alloc (Nat.le_refl _) (.cells #[.pointer p] 58)
  have KR := Blk.new W 58 #[.pointer p]
  replace h := h.below b0
  have G := gb_below b0 (some B)
  have o1 := KR.lt
  clear b0
  generalize World.alloc W _ = W1 at *
  refine wpSeq_alloc 26 zeroFr rfl (fun W => by go_simp; rfl) ?_
  simp only [AP]
  have b0 := (Below.refl W1.heap.size W1).alloc (Nat.le_refl _) (.cells zeroFr 26)
  have KQ := Blk.new W1 26 zeroFr
  replace KR := KR.below' b0
  replace h := h.below b0
  replace G := G.trans (gb_below b0 (some B))
  have o2 := KQ.lt
  clear b0
  generalize World.alloc W1 _ = W2 at *
  generalize W1.heap.size = RB at *
  refine wpSeq_nil ?_
  refine aK _ _ ?_
  clear aK
  go_upto_region 1 with fail
  rename_i aK
  refine wp_region_seq ?_
  refine wpSeq_yield (S := fun _ => True) (v := .pointer (some ⟨W.heap.size, 0, none⟩)) (Or.inl ⟨by rfl, fun w' hw' => by go_simp⟩) trivial ?_
  simp only [AP]
  refine wpSeq_yield (S := fun w' => w' = W2) (v := .pointer p) (Or.inl ⟨by rfl, fun w' hw' => by (rw [hw']; have cc : W2.cell? ⟨W.heap.size, 0, none⟩ = some (.pointer p) := KR.cell 0; go_simp)⟩) rfl ?_
  simp only [AP]
  refine wpSeq_wp rfl ?_
  unfold Oper.wp execOp
  go_simp
  refine (N1.out _ h (by omega)).mono ?_
  rintro _ W3 ⟨rfl, h1, b1⟩
  replace KR := blk_gb b1 KR (by omega)
  replace KQ := blk_gb b1 KQ (by omega)
  replace G := G.trans b1
  replace h := h1
  replace o2 := Nat.lt_of_lt_of_le o2 b1.size
  clear h1 b1 N1
  go_simp
  refine wpSeq_wp rfl ?_
  unfold Oper.wp execOp
  go_simp
  refine wpSeq_alloc 26 zeroFr rfl (fun W => by go_simp; rfl) ?_
  simp only [AP]
  refine wpSeq_store_row rfl 26 _ _ rfl (W3.heap.size) #[.int .u64 18, .int .u64 0, .int .u64 0, .int .u64 0, .int .u64 0, .bool false, .slice none 0 0, .slice none 0 0] rfl rfl _ _ (Blk.new _ _ _) info_fr rfl frame_one ?_
  try simp only [Act.put]
  have b1 := below_setRow ((Below.refl W3.heap.size W3).alloc (Nat.le_refl _) (.cells zeroFr 26)) (Nat.le_refl W3.heap.size) #[.int .u64 18, .int .u64 0, .int .u64 0, .int .u64 0, .int .u64 0, .bool false, .slice none 0 0, .slice none 0 0]
  have K := (Blk.new W3 26 zeroFr).row #[.int .u64 18, .int .u64 0, .int .u64 0, .int .u64 0, .int .u64 0, .bool false, .slice none 0 0, .slice none 0 0]
  replace KR := Lib.hid (KR.below' b1)
  replace KQ := Lib.hid (KQ.below' b1)
  replace h := Lib.hid (h.below b1)
  replace G := G.trans (gb_below b1 (some B))
  have o3 := K.lt
  clear b1
  generalize World.setRow _ _ _ = W4 at *
  generalize W3.heap.size = gf at *
  obtain ⟨H, hH⟩ : ∃ H, W4.heap.size = H := ⟨_, rfl⟩
  have ord := Lib.hid (show B < W.heap.size ∧ W.heap.size < RB ∧ RB < gf ∧ gf < H by omega)
  have hs2 : H ≤ W4.heap.size := by omega
  replace K := Lib.hid K
  clear hH o1 o2 o3 hlt
  refine wpSeq_nil ?_
  refine aK _ _ ?_
  clear aK
  go_upto_region 2 with fail
  rename_i aK
  refine wp_region_seq ?_
  refine wpSeq_yield (S := fun _ => True) (v := .pointer (some ⟨gf, 0, none⟩)) (Or.inl ⟨by rfl, fun w' hw' => by go_simp⟩) trivial ?_
  simp only [AP]
  refine wpSeq_yield (S := fun w' => w' = W4) (v := .int .u64 18) (Or.inl ⟨by rfl, fun w' hw' => by (rw [hw']; have cc : W4.cell? ⟨gf, 0, none⟩ = some (.int .u64 18) := K.out.cell 0; go_simp)⟩) rfl ?_
  simp only [AP]
  refine wpSeq_nil ?_
  refine (by assumption : ∀ (a : Act) (w : World), _ → _) _ _ ?_
  go_upto_region 23 with fail
  rename_i aK
  refine wp_region_seq ?_
  refine wpSeq_yield (S := fun _ => True) (v := .pointer (some ⟨W.heap.size, 0, none⟩)) (Or.inl ⟨by rfl, fun w' hw' => by go_simp⟩) trivial ?_
  simp only [AP]
  refine wpSeq_yield (S := fun w' => w' = W4) (v := .pointer p) (Or.inl ⟨by rfl, fun w' hw' => by (rw [hw']; have cc : W4.cell? ⟨W.heap.size, 0, none⟩ = some (.pointer p) := KR.out.cell 0; go_simp)⟩) rfl ?_
  simp only [AP]
  refine wpSeq_wp rfl ?_
  unfold Oper.wp execOp
  go_simp
  refine (Nz2.out _ h.out (by have := ord.out; omega)).mono ?_
  rintro _ W5 ⟨rfl, h1, b1⟩
  replace K := Lib.hid (blk_gb b1 K.out (by have := ord.out; omega))
  replace KR := Lib.hid (blk_gb b1 KR.out (by have := ord.out; omega))
  replace KQ := Lib.hid (blk_gb b1 KQ.out (by have := ord.out; omega))
  replace h := Lib.hid h1
  replace G := G.trans b1
  replace hs2 := Nat.le_trans hs2 b1.size
  clear h1 b1 Nz2
  go_simp
  refine wpSeq_yield (S := fun _ => True) (v := .pointer (some ⟨gf, 3, none⟩)) (Or.inl ⟨by rfl, fun w' hw' => by go_simp⟩) trivial ?_
  simp only [AP]
  have cs : W5.cell? ⟨gf, 3, none⟩ = some (.int .u64 0) := K.out.cell 3
  have fz := K.out.frozen 3
  refine wpSeq_wp rfl ?_
  unfold Oper.wp execOp
  go_simp
  have K2 : Blk (W5.setCell ⟨gf, 3, none⟩ (.int .u64 (z2 : Int))) gf 26 #[.int .u64 18, .int .u64 0, .int .u64 0, .int .u64 (z2 : Int), .int .u64 0, .bool false, .slice none 0 0, .slice none 0 0] := K.out.set 3 _
  have h2 := RM.far h.out K.out (by have := ord.out; omega) (nu8_at rfl) 3 (.int .u64 (z2 : Int))
  have KR2 := KR.out.far (p := ⟨gf, 3, none⟩) (show W.heap.size ≠ gf by have := ord.out; omega) (.int .u64 (z2 : Int))
  have KQ2 := KQ.out.far (p := ⟨gf, 3, none⟩) (show RB ≠ gf by have := ord.out; omega) (.int .u64 (z2 : Int))
  have G2 := gb_cell G (g := gf) (by have := ord.out; omega) 3 (.int .u64 (z2 : Int))
  have hs3 : H ≤ (W5.setCell ⟨gf, 3, none⟩ (.int .u64 (z2 : Int))).heap.size := by simpa using hs2
  replace K := Lib.hid K2
  replace h := Lib.hid h2
  replace KR := Lib.hid KR2
  replace KQ := Lib.hid KQ2
  replace G := G2
  replace hs2 := hs3
  clear cs fz K2 h2 KR2 KQ2 G2 hs3
  generalize World.setCell _ _ _ = W6 at *
  refine wpSeq_nil ?_
  refine (by assumption : ∀ (a : Act) (w : World), _ → _) _ _ ?_
  go_upto_region 29 with fail
  rename_i aK
  refine wp_region_seq ?_
  refine wpSeq_yield (S := fun w' => w' = W6) (show YieldsIf _ _ _ _ (.agg #[.int .u64 18, .int .u64 0, .int .u64 0, .int .u64 (z2 : Int), .int .u64 0, .bool false, .slice none 0 0, .slice none 0 0]) _ from yieldsIf_load_mid (S := fun w' => w' = W6) rfl 26 _ rfl gf 0 rfl [.int .u64 18, .int .u64 0, .int .u64 0, .int .u64 (z2 : Int), .int .u64 0, .bool false, .slice none 0 0, .slice none 0 0] _ (fun _ h => h ▸ blk_range K.out) Try.underlying26 rfl info_fr) rfl ?_
  simp only [AP]
  have sb := OwL.sb (OwL.nil H W6)
  refine wpSeq_wp rfl ?_
  unfold Oper.wp execOp
  go_simp
  refine (BC.out _ _ _ sb).mono ?_
  rintro _ W7 ⟨rfl, b1⟩
  replace K := Lib.hid (K.out.below' b1)
  replace KR := Lib.hid (KR.out.below' b1)
  replace KQ := Lib.hid (KQ.out.below' b1)
  replace h := Lib.hid (h.out.below b1)
  replace G := G.trans (gb_below b1 _)
  have O := OwL.below (OwL.nil H W6) b1
  have OS := OwS.below (OwS.nil H W6) b1
  replace hs2 := Nat.le_trans hs2 b1.size
  clear b1 BC sb
  go_simp
  refine wpSeq_nil ?_
  refine (by assumption : ∀ (a : Act) (w : World), _ → _) _ _ ?_
  go_upto_region 31 with fail
  rename_i aK
  refine wp_region_seq ?_
  refine wpSeq_yield (S := fun w' => w' = W7) (show YieldsIf _ _ _ _ (.agg #[.int .u64 18, .int .u64 0, .int .u64 0, .int .u64 (z2 : Int), .int .u64 0, .bool false, .slice none 0 0, .slice none 0 0]) _ from yieldsIf_load_mid (S := fun w' => w' = W7) rfl 26 _ rfl gf 0 rfl [.int .u64 18, .int .u64 0, .int .u64 0, .int .u64 (z2 : Int), .int .u64 0, .bool false, .slice none 0 0, .slice none 0 0] _ (fun _ h => h ▸ blk_range K.out) Try.underlying26 rfl info_fr) rfl ?_
  simp only [AP]
  refine wpSeq_store_row rfl 26 _ _ rfl RB #[.int .u64 18, .int .u64 0, .int .u64 0, .int .u64 (z2 : Int), .int .u64 0, .bool false, .slice none 0 0, .slice none 0 0] rfl rfl _ _ KQ.out info_fr rfl frame_one ?_
  try simp only [Act.put]
  refine wpSeq_nil ?_
  have KQ2 := KQ.out.row #[.int .u64 18, .int .u64 0, .int .u64 0, .int .u64 (z2 : Int), .int .u64 0, .bool false, .slice none 0 0, .slice none 0 0]
  have h2 := h.out.row_far (gf := RB) (by have := ord.out; omega) #[.int .u64 18, .int .u64 0, .int .u64 0, .int .u64 (z2 : Int), .int .u64 0, .bool false, .slice none 0 0, .slice none 0 0]
  have G2 := gb_row G (g := RB) (by have := ord.out; omega) #[.int .u64 18, .int .u64 0, .int .u64 0, .int .u64 (z2 : Int), .int .u64 0, .bool false, .slice none 0 0, .slice none 0 0]
  have O2 := O.of_block (w' := World.setRow W7 RB #[.int .u64 18, .int .u64 0, .int .u64 0, .int .u64 (z2 : Int), .int .u64 0, .bool false, .slice none 0 0, .slice none 0 0]) fun g hg => setRow_other _ _ _ _ (by have := (O.lt g hg).1; have := ord.out; omega)
  have OS2 := OS.of_block (w' := World.setRow W7 RB #[.int .u64 18, .int .u64 0, .int .u64 0, .int .u64 (z2 : Int), .int .u64 0, .bool false, .slice none 0 0, .slice none 0 0]) fun g hg => setRow_other _ _ _ _ (by have := (OS.lt g hg).1; have := ord.out; omega)
  clear K KR KQ h G O OS hs2
  generalize World.setRow _ _ _ = WE at *
  go_wp2
  refine bodyPost_ret (results_cell_row rfl _ _ RB 26 _ (0, 0) _ rfl KQ2 Try.underlying26 rfl info_fr) rfl ?_
  exact ⟨⟨_, _, rfl, O2.mono (by have := ord.out; omega), OS2.mono (by have := ord.out; omega)⟩, h2, G2⟩
end Go.Proofs.Ytdlhclakdllogaa
