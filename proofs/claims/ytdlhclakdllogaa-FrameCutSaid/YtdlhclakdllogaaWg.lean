/- The program's parsing: a frame, of several numbers (printed by gen11/we.py). -/
import Derived.Test.YtdlhclakdllogaaWe
namespace Go.Proofs.Ytdlhclakdllogaa
open Go.RowKit

set_option maxHeartbeats 16000000 in
set_option maxRecDepth 100000 in
theorem fr4 (B : Nat) (p : Option Addr) (l : List Nat) (l1 : List Nat) (c1 : Nat) (hz1 : numS l 0 = (4, l1, c1)) (z2 : Nat) (lz2 : List Nat) (cz2 : Nat) (hz2 : numS l1 c1 = (z2, lz2, cz2)) (z3 : Nat) (lz3 : List Nat) (cz3 : Nat) (hz3 : numS lz2 cz2 = (z3, lz3, cz3)) (z4 : Nat) (lz4 : List Nat) (cz4 : Nat) (hz4 : numS lz3 cz3 = (z4, lz4, cz4)) (W : World) (h : RM B W p l 0) (_hB : B ≤ W.heap.size) :
    Calls Try.prog 27 #[.agg #[.pointer p]] W fun e w' => (∃ vd va, e = .returned (.agg #[.int .u64 4, .int .u64 (z2 : Int), .int .u64 0, .int .u64 (z4 : Int), .int .u64 (z3 : Int), .bool false, vd, va]) ∧ OwL W.heap.size w' vd [] ∧ OwS W.heap.size w' va []) ∧ RM B w' p lz4 cz4 ∧ W.grownBy w' (some B) := by
  have N1 := Lib.hid (fun w h hB => num_m B p l 0 w h hB)
  rw [hz1] at N1
  have Nz2 := Lib.hid (fun w h hB => num_m B p l1 c1 w h hB)
  rw [hz2] at Nz2
  have Nz3 := Lib.hid (fun w h hB => num_m B p lz2 cz2 w h hB)
  rw [hz3] at Nz3
  have Nz4 := Lib.hid (fun w h hB => num_m B p lz3 cz3 w h hB)
  rw [hz4] at Nz4
  dsimp only at N1 Nz2 Nz3 Nz4
  have BC := Lib.hid (fun q m w (hd : SB w (.slice q 0 m) []) => (show Calls Try.prog 33 #[.agg #[.int .u64 4, .int .u64 (z2 : Int), .int .u64 0, .int .u64 (z4 : Int), .int .u64 (z3 : Int), .bool false, .slice q 0 m, .slice none 0 0]] w fun e w' => e = .returned (.bool false) ∧ Below w.heap.size w w' by
    have := beyond_c ⟨4, z2, 0, z4, z3, false, [], []⟩ (show (0 : Nat) < 18446744073709551616 by decide) (Nat.zero_le _) (.slice q 0 m) (.slice none 0 0) w hd
    rw [show beyondF ⟨4, z2, 0, z4, z3, false, [], []⟩ = false from rfl] at this
    exact this))
  clear hz1 hz2 hz3 hz4
  have hlt : B < W.heap.size := by
    obtain ⟨g, pb, cb, _, hg, KB, _⟩ := h
    have := KB.lt
    omega
  clear _hB
  go_enter Try.func27, Try.ntmps27
  go_upto_region 0 with fail
  rename_i aK
  refine wp_region_seq ?_
  refine wpSeq_wp rfl ?_
  unfold Oper.wp execOp
  go_simp
  have b0 := (Below.refl W.heap.size W).alloc (Nat.le_refl _) (.cells #[.pointer p] 58)
  have KR := Blk.new W 58 #[.pointer p]
  replace h := h.below b0
  have G := gb_below b0 (some B)
  have o1 := KR.lt
  clear b0
  generalize World.alloc W _ = W1 at *
  refine wpSeq_alloc 26 zeroFr rfl (fun W => by go_simp; rfl) ?_
  simp only [AP]
  have b0 := (Below.refl W1.heap.size W1).alloc (Nat.le_refl _) (.cells zeroFr 26)
  have KQ := Blk.new W1 26 zeroFr
  replace KR := KR.below' b0
  replace h := h.below b0
  replace G := G.trans (gb_below b0 (some B))
  have o2 := KQ.lt
  clear b0
  generalize World.alloc W1 _ = W2 at *
  generalize W1.heap.size = RB at *
  refine wpSeq_nil ?_
  refine aK _ _ ?_
  clear aK
  go_upto_region 1 with fail
  rename_i aK
  refine wp_region_seq ?_
  refine wpSeq_yield (S := fun _ => True) (v := .pointer (some ⟨W.heap.size, 0, none⟩)) (Or.inl ⟨by rfl, fun w' hw' => by go_simp⟩) trivial ?_
  simp only [AP]
  refine wpSeq_yield (S := fun w' => w' = W2) (v := .pointer p) (Or.inl ⟨by rfl, fun w' hw' => by (rw [hw']; have cc : W2.cell? ⟨W.heap.size, 0, none⟩ = some (.pointer p) := KR.cell 0; go_simp)⟩) rfl ?_
  simp only [AP]
  refine wpSeq_wp rfl ?_
  unfold Oper.wp execOp
  go_simp
  refine (N1.out _ h (by omega)).mono ?_
  rintro _ W3 ⟨rfl, h1, b1⟩
  replace KR := blk_gb b1 KR (by omega)
  replace KQ := blk_gb b1 KQ (by omega)
  replace G := G.trans b1
  replace h := h1
  replace o2 := Nat.lt_of_lt_of_le o2 b1.size
  clear h1 b1 N1
  go_simp
  refine wpSeq_wp rfl ?_
  unfold Oper.wp execOp
  go_simp
  refine wpSeq_alloc 26 zeroFr rfl (fun W => by go_simp; rfl) ?_
  simp only [AP]
  refine wpSeq_store_row rfl 26 _ _ rfl (W3.heap.size) #[.int .u64 4, .int .u64 0, .int .u64 0, .int .u64 0, .int .u64 0, .bool false, .slice none 0 0, .slice none 0 0] rfl rfl _ _ (Blk.new _ _ _) info_fr rfl frame_one ?_
  try simp only [Act.put]
  have b1 := below_setRow ((Below.refl W3.heap.size W3).alloc (Nat.le_refl _) (.cells zeroFr 26)) (Nat.le_refl W3.heap.size) #[.int .u64 4, .int .u64 0, .int .u64 0, .int .u64 0, .int .u64 0, .bool false, .slice none 0 0, .slice none 0 0]
  have K := (Blk.new W3 26 zeroFr).row #[.int .u64 4, .int .u64 0, .int .u64 0, .int .u64 0, .int .u64 0, .bool false, .slice none 0 0, .slice none 0 0]
  replace KR := Lib.hid (KR.below' b1)
  replace KQ := Lib.hid (KQ.below' b1)
  replace h := Lib.hid (h.below b1)
  replace G := G.trans (gb_below b1 (some B))
  have o3 := K.lt
  clear b1
  generalize World.setRow _ _ _ = W4 at *
  generalize W3.heap.size = gf at *
  obtain ⟨H, hH⟩ : ∃ H, W4.heap.size = H := ⟨_, rfl⟩
  have ord := Lib.hid (show B < W.heap.size ∧ W.heap.size < RB ∧ RB < gf ∧ gf < H by omega)
  have hs2 : H ≤ W4.heap.size := by omega
  replace K := Lib.hid K
  clear hH o1 o2 o3 hlt
  refine wpSeq_nil ?_
  refine aK _ _ ?_
  clear aK
  go_upto_region 2 with fail
  rename_i aK
  refine wp_region_seq ?_
  refine wpSeq_yield (S := fun _ => True) (v := .pointer (some ⟨gf, 0, none⟩)) (Or.inl ⟨by rfl, fun w' hw' => by go_simp⟩) trivial ?_
  simp only [AP]
  refine wpSeq_yield (S := fun w' => w' = W4) (v := .int .u64 4) (Or.inl ⟨by rfl, fun w' hw' => by (rw [hw']; have cc : W4.cell? ⟨gf, 0, none⟩ = some (.int .u64 4) := K.out.cell 0; go_simp)⟩) rfl ?_
  simp only [AP]
  refine wpSeq_nil ?_
  refine (by assumption : ∀ (a : Act) (w : World), _ → _) _ _ ?_
  go_upto_region 10 with fail
  rename_i aK
  refine wp_region_S (S := fun w' => Blk w' W.heap.size 58 #[.pointer p]) (by kernel_rfl) ?_
  have bd := fun {w0 : World} => below_drew (Below.refl w0.heap.size w0)
  replace h := Lib.hid (h.out.below bd)
  replace K := Lib.hid (K.out.drew)
  have hS := KR.out.drew
  replace KR := Lib.hid (KR.out.drew)
  replace KQ := Lib.hid (KQ.out.drew)
  replace G := G.trans (gb_below bd _)
  replace hs2 := (show H ≤ W4.drew.heap.size from hs2)
  clear bd
  generalize World.drew _ = W5 at *
  refine wpAnyS_takeL 0 (v := .pointer (some ⟨W.heap.size, 0, none⟩)) rfl (by kernel_rfl) (by kernel_rfl) (by kernel_rfl) (fun _ _ _ H => H) (Or.inl ⟨by rfl, fun w' hw' => by go_simp⟩) hS ?_
  simp only [AP]
  refine wpAnyS_takeL 1 (v := .pointer p) rfl (by kernel_rfl) (by kernel_rfl) (by kernel_rfl) (fun _ _ _ H => H) (Or.inl ⟨by rfl, fun w' hw' => by (have cc := (show Blk w' W.heap.size 58 #[.pointer p] from hw').cell 0; rw [show (#[.pointer p] : Array Value)[0]? = some (.pointer p) from rfl] at cc; go_simp)⟩) hS ?_
  simp only [AP]
  refine wpAnyS_takeL 3 (v := .pointer (some ⟨W.heap.size, 0, none⟩)) rfl (by kernel_rfl) (by kernel_rfl) (by kernel_rfl) (fun _ _ _ H => H) (Or.inl ⟨by rfl, fun w' hw' => by go_simp⟩) hS ?_
  simp only [AP]
  refine wpAnyS_takeL 4 (v := .pointer p) rfl (by kernel_rfl) (by kernel_rfl) (by kernel_rfl) (fun _ _ _ H => H) (Or.inl ⟨by rfl, fun w' hw' => by (have cc := (show Blk w' W.heap.size 58 #[.pointer p] from hw').cell 0; rw [show (#[.pointer p] : Array Value)[0]? = some (.pointer p) from rfl] at cc; go_simp)⟩) hS ?_
  simp only [AP]
  refine wpAnyS_takeL 6 (v := .pointer (some ⟨W.heap.size, 0, none⟩)) rfl (by kernel_rfl) (by kernel_rfl) (by kernel_rfl) (fun _ _ _ H => H) (Or.inl ⟨by rfl, fun w' hw' => by go_simp⟩) hS ?_
  simp only [AP]
  refine wpAnyS_takeL 7 (v := .pointer p) rfl (by kernel_rfl) (by kernel_rfl) (by kernel_rfl) (fun _ _ _ H => H) (Or.inl ⟨by rfl, fun w' hw' => by (have cc := (show Blk w' W.heap.size 58 #[.pointer p] from hw').cell 0; rw [show (#[.pointer p] : Array Value)[0]? = some (.pointer p) from rfl] at cc; go_simp)⟩) hS ?_
  simp only [AP]
  refine gstep 2 rfl rfl (by kernel_rfl) ?_
  unfold Oper.wp execOp
  go_simp
  refine (Nz2.out _ h.out (by have := ord.out; omega)).mono ?_
  rintro _ W6 ⟨rfl, h1, b1⟩
  replace K := Lib.hid (blk_gb b1 K.out (by have := ord.out; omega))
  replace KR := Lib.hid (blk_gb b1 KR.out (by have := ord.out; omega))
  replace KQ := Lib.hid (blk_gb b1 KQ.out (by have := ord.out; omega))
  replace h := Lib.hid h1
  replace G := G.trans b1
  replace hs2 := Nat.le_trans hs2 b1.size
  replace hS := blk_gb b1 hS (by have := ord.out; omega)
  clear h1 b1 Nz2
  refine ⟨hS, ?_⟩
  refine gstep 5 rfl rfl (by kernel_rfl) ?_
  unfold Oper.wp execOp
  go_simp
  refine (Nz3.out _ h.out (by have := ord.out; omega)).mono ?_
  rintro _ W7 ⟨rfl, h1, b1⟩
  replace K := Lib.hid (blk_gb b1 K.out (by have := ord.out; omega))
  replace KR := Lib.hid (blk_gb b1 KR.out (by have := ord.out; omega))
  replace KQ := Lib.hid (blk_gb b1 KQ.out (by have := ord.out; omega))
  replace h := Lib.hid h1
  replace G := G.trans b1
  replace hs2 := Nat.le_trans hs2 b1.size
  replace hS := blk_gb b1 hS (by have := ord.out; omega)
  clear h1 b1 Nz3
  refine ⟨hS, ?_⟩
  refine gstep 8 rfl rfl (by kernel_rfl) ?_
  unfold Oper.wp execOp
  go_simp
  refine (Nz4.out _ h.out (by have := ord.out; omega)).mono ?_
  rintro _ W8 ⟨rfl, h1, b1⟩
  replace K := Lib.hid (blk_gb b1 K.out (by have := ord.out; omega))
  replace KR := Lib.hid (blk_gb b1 KR.out (by have := ord.out; omega))
  replace KQ := Lib.hid (blk_gb b1 KQ.out (by have := ord.out; omega))
  replace h := Lib.hid h1
  replace G := G.trans b1
  replace hs2 := Nat.le_trans hs2 b1.size
  replace hS := blk_gb b1 hS (by have := ord.out; omega)
  clear h1 b1 Nz4
  refine ⟨hS, ?_⟩
  refine wpAnyS_takeL 9 (v := .pointer (some ⟨gf, 1, none⟩)) rfl (by kernel_rfl) (by kernel_rfl) (by kernel_rfl) (fun _ _ _ H => H) (Or.inl ⟨by rfl, fun w' hw' => by go_simp⟩) hS ?_
  simp only [AP]
  have cs : W8.cell? ⟨gf, 1, none⟩ = some (.int .u64 0) := K.out.cell 1
  have fz := K.out.frozen 1
  refine gstep 10 rfl rfl (by kernel_rfl) ?_
  unfold Oper.wp execOp
  go_simp
  have K2 : Blk (W8.setCell ⟨gf, 1, none⟩ (.int .u64 (z2 : Int))) gf 26 #[.int .u64 4, .int .u64 (z2 : Int), .int .u64 0, .int .u64 0, .int .u64 0, .bool false, .slice none 0 0, .slice none 0 0] := K.out.set 1 _
  have h2 := RM.far h.out K.out (by have := ord.out; omega) (nu8_at rfl) 1 (.int .u64 (z2 : Int))
  have KR2 := KR.out.far (p := ⟨gf, 1, none⟩) (show W.heap.size ≠ gf by have := ord.out; omega) (.int .u64 (z2 : Int))
  have KQ2 := KQ.out.far (p := ⟨gf, 1, none⟩) (show RB ≠ gf by have := ord.out; omega) (.int .u64 (z2 : Int))
  have G2 := gb_cell G (g := gf) (by have := ord.out; omega) 1 (.int .u64 (z2 : Int))
  have hs3 : H ≤ (W8.setCell ⟨gf, 1, none⟩ (.int .u64 (z2 : Int))).heap.size := by simpa using hs2
  replace hS := hS.far (p := ⟨gf, 1, none⟩) (show W.heap.size ≠ gf by have := ord.out; omega) (.int .u64 (z2 : Int))
  replace K := Lib.hid K2
  replace h := Lib.hid h2
  replace KR := Lib.hid KR2
  replace KQ := Lib.hid KQ2
  replace G := G2
  replace hs2 := hs3
  clear cs fz K2 h2 KR2 KQ2 G2 hs3
  generalize World.setCell _ _ _ = W9 at *
  refine ⟨hS, ?_⟩
  refine wpAnyS_takeL 11 (v := .pointer (some ⟨gf, 4, none⟩)) rfl (by kernel_rfl) (by kernel_rfl) (by kernel_rfl) (fun _ _ _ H => H) (Or.inl ⟨by rfl, fun w' hw' => by go_simp⟩) hS ?_
  simp only [AP]
  have cs : W9.cell? ⟨gf, 4, none⟩ = some (.int .u64 0) := K.out.cell 4
  have fz := K.out.frozen 4
  refine gstep 12 rfl rfl (by kernel_rfl) ?_
  unfold Oper.wp execOp
  go_simp
  have K2 : Blk (W9.setCell ⟨gf, 4, none⟩ (.int .u64 (z3 : Int))) gf 26 #[.int .u64 4, .int .u64 (z2 : Int), .int .u64 0, .int .u64 0, .int .u64 (z3 : Int), .bool false, .slice none 0 0, .slice none 0 0] := K.out.set 4 _
  have h2 := RM.far h.out K.out (by have := ord.out; omega) (nu8_at rfl) 4 (.int .u64 (z3 : Int))
  have KR2 := KR.out.far (p := ⟨gf, 4, none⟩) (show W.heap.size ≠ gf by have := ord.out; omega) (.int .u64 (z3 : Int))
  have KQ2 := KQ.out.far (p := ⟨gf, 4, none⟩) (show RB ≠ gf by have := ord.out; omega) (.int .u64 (z3 : Int))
  have G2 := gb_cell G (g := gf) (by have := ord.out; omega) 4 (.int .u64 (z3 : Int))
  have hs3 : H ≤ (W9.setCell ⟨gf, 4, none⟩ (.int .u64 (z3 : Int))).heap.size := by simpa using hs2
  replace hS := hS.far (p := ⟨gf, 4, none⟩) (show W.heap.size ≠ gf by have := ord.out; omega) (.int .u64 (z3 : Int))
  replace K := Lib.hid K2
  replace h := Lib.hid h2
  replace KR := Lib.hid KR2
  replace KQ := Lib.hid KQ2
  replace G := G2
  replace hs2 := hs3
  clear cs fz K2 h2 KR2 KQ2 G2 hs3
  generalize World.setCell _ _ _ = W10 at *
  refine ⟨hS, ?_⟩
  refine wpAnyS_takeL 13 (v := .pointer (some ⟨gf, 3, none⟩)) rfl (by kernel_rfl) (by kernel_rfl) (by kernel_rfl) (fun _ _ _ H => H) (Or.inl ⟨by rfl, fun w' hw' => by go_simp⟩) hS ?_
  simp only [AP]
  have cs : W10.cell? ⟨gf, 3, none⟩ = some (.int .u64 0) := K.out.cell 3
  have fz := K.out.frozen 3
  refine gstep 14 rfl rfl (by kernel_rfl) ?_
  unfold Oper.wp execOp
  go_simp
  have K2 : Blk (W10.setCell ⟨gf, 3, none⟩ (.int .u64 (z4 : Int))) gf 26 #[.int .u64 4, .int .u64 (z2 : Int), .int .u64 0, .int .u64 (z4 : Int), .int .u64 (z3 : Int), .bool false, .slice none 0 0, .slice none 0 0] := K.out.set 3 _
  have h2 := RM.far h.out K.out (by have := ord.out; omega) (nu8_at rfl) 3 (.int .u64 (z4 : Int))
  have KR2 := KR.out.far (p := ⟨gf, 3, none⟩) (show W.heap.size ≠ gf by have := ord.out; omega) (.int .u64 (z4 : Int))
  have KQ2 := KQ.out.far (p := ⟨gf, 3, none⟩) (show RB ≠ gf by have := ord.out; omega) (.int .u64 (z4 : Int))
  have G2 := gb_cell G (g := gf) (by have := ord.out; omega) 3 (.int .u64 (z4 : Int))
  have hs3 : H ≤ (W10.setCell ⟨gf, 3, none⟩ (.int .u64 (z4 : Int))).heap.size := by simpa using hs2
  replace hS := hS.far (p := ⟨gf, 3, none⟩) (show W.heap.size ≠ gf by have := ord.out; omega) (.int .u64 (z4 : Int))
  replace K := Lib.hid K2
  replace h := Lib.hid h2
  replace KR := Lib.hid KR2
  replace KQ := Lib.hid KQ2
  replace G := G2
  replace hs2 := hs3
  clear cs fz K2 h2 KR2 KQ2 G2 hs3
  generalize World.setCell _ _ _ = W11 at *
  refine ⟨hS, ?_⟩
  refine wpAnyS_done (by kernel_rfl) ?_ _
  refine (by assumption : ∀ (a : Act) (w : World), _ → _) _ _ ?_
  replace KR := Lib.hid hS
  clear hS
  go_upto_region 29 with fail
  rename_i aK
  refine wp_region_seq ?_
  refine wpSeq_yield (S := fun w' => w' = W11) (show YieldsIf _ _ _ _ (.agg #[.int .u64 4, .int .u64 (z2 : Int), .int .u64 0, .int .u64 (z4 : Int), .int .u64 (z3 : Int), .bool false, .slice none 0 0, .slice none 0 0]) _ from yieldsIf_load_mid (S := fun w' => w' = W11) rfl 26 _ rfl gf 0 rfl [.int .u64 4, .int .u64 (z2 : Int), .int .u64 0, .int .u64 (z4 : Int), .int .u64 (z3 : Int), .bool false, .slice none 0 0, .slice none 0 0] _ (fun _ h => h ▸ blk_range K.out) Try.underlying26 rfl info_fr) rfl ?_
  simp only [AP]
  have sb := OwL.sb (OwL.nil H W11)
  refine wpSeq_wp rfl ?_
  unfold Oper.wp execOp
  go_simp
  refine (BC.out _ _ _ sb).mono ?_
  rintro _ W12 ⟨rfl, b1⟩
  replace K := Lib.hid (K.out.below' b1)
  replace KR := Lib.hid (KR.out.below' b1)
  replace KQ := Lib.hid (KQ.out.below' b1)
  replace h := Lib.hid (h.out.below b1)
  replace G := G.trans (gb_below b1 _)
  have O := OwL.below (OwL.nil H W11) b1
  have OS := OwS.below (OwS.nil H W11) b1
  replace hs2 := Nat.le_trans hs2 b1.size
  clear b1 BC sb
  go_simp
  refine wpSeq_nil ?_
  refine (by assumption : ∀ (a : Act) (w : World), _ → _) _ _ ?_
  go_upto_region 31 with fail
  rename_i aK
  refine wp_region_seq ?_
  refine wpSeq_yield (S := fun w' => w' = W12) (show YieldsIf _ _ _ _ (.agg #[.int .u64 4, .int .u64 (z2 : Int), .int .u64 0, .int .u64 (z4 : Int), .int .u64 (z3 : Int), .bool false, .slice none 0 0, .slice none 0 0]) _ from yieldsIf_load_mid (S := fun w' => w' = W12) rfl 26 _ rfl gf 0 rfl [.int .u64 4, .int .u64 (z2 : Int), .int .u64 0, .int .u64 (z4 : Int), .int .u64 (z3 : Int), .bool false, .slice none 0 0, .slice none 0 0] _ (fun _ h => h ▸ blk_range K.out) Try.underlying26 rfl info_fr) rfl ?_
  simp only [AP]
  refine wpSeq_store_row rfl 26 _ _ rfl RB #[.int .u64 4, .int .u64 (z2 : Int), .int .u64 0, .int .u64 (z4 : Int), .int .u64 (z3 : Int), .bool false, .slice none 0 0, .slice none 0 0] rfl rfl _ _ KQ.out info_fr rfl frame_one ?_
  try simp only [Act.put]
  refine wpSeq_nil ?_
  have KQ2 := KQ.out.row #[.int .u64 4, .int .u64 (z2 : Int), .int .u64 0, .int .u64 (z4 : Int), .int .u64 (z3 : Int), .bool false, .slice none 0 0, .slice none 0 0]
  have h2 := h.out.row_far (gf := RB) (by have := ord.out; omega) #[.int .u64 4, .int .u64 (z2 : Int), .int .u64 0, .int .u64 (z4 : Int), .int .u64 (z3 : Int), .bool false, .slice none 0 0, .slice none 0 0]
  have G2 := gb_row G (g := RB) (by have := ord.out; omega) #[.int .u64 4, .int .u64 (z2 : Int), .int .u64 0, .int .u64 (z4 : Int), .int .u64 (z3 : Int), .bool false, .slice none 0 0, .slice none 0 0]
  have O2 := O.of_block (w' := World.setRow W12 RB #[.int .u64 4, .int .u64 (z2 : Int), .int .u64 0, .int .u64 (z4 : Int), .int .u64 (z3 : Int), .bool false, .slice none 0 0, .slice none 0 0]) fun g hg => setRow_other _ _ _ _ (by have := (O.lt g hg).1; have := ord.out; omega)
  have OS2 := OS.of_block (w' := World.setRow W12 RB #[.int .u64 4, .int .u64 (z2 : Int), .int .u64 0, .int .u64 (z4 : Int), .int .u64 (z3 : Int), .bool false, .slice none 0 0, .slice none 0 0]) fun g hg => setRow_other _ _ _ _ (by have := (OS.lt g hg).1; have := ord.out; omega)
  clear K KR KQ h G O OS hs2
  generalize World.setRow _ _ _ = WE at *
  go_wp2
  refine bodyPost_ret (results_cell_row rfl _ _ RB 26 _ (0, 0) _ rfl KQ2 Try.underlying26 rfl info_fr) rfl ?_
  exact ⟨⟨_, _, rfl, O2.mono (by have := ord.out; omega), OS2.mono (by have := ord.out; omega)⟩, h2, G2⟩
set_option maxHeartbeats 16000000 in
set_option maxRecDepth 100000 in
theorem fr5 (B : Nat) (p : Option Addr) (l : List Nat) (l1 : List Nat) (c1 : Nat) (hz1 : numS l 0 = (5, l1, c1)) (z2 : Nat) (lz2 : List Nat) (cz2 : Nat) (hz2 : numS l1 c1 = (z2, lz2, cz2)) (z3 : Nat) (lz3 : List Nat) (cz3 : Nat) (hz3 : numS lz2 cz2 = (z3, lz3, cz3)) (W : World) (h : RM B W p l 0) (_hB : B ≤ W.heap.size) :
    Calls Try.prog 27 #[.agg #[.pointer p]] W fun e w' => (∃ vd va, e = .returned (.agg #[.int .u64 5, .int .u64 (z2 : Int), .int .u64 0, .int .u64 0, .int .u64 (z3 : Int), .bool false, vd, va]) ∧ OwL W.heap.size w' vd [] ∧ OwS W.heap.size w' va []) ∧ RM B w' p lz3 cz3 ∧ W.grownBy w' (some B) := by
  have N1 := Lib.hid (fun w h hB => num_m B p l 0 w h hB)
  rw [hz1] at N1
  have Nz2 := Lib.hid (fun w h hB => num_m B p l1 c1 w h hB)
  rw [hz2] at Nz2
  have Nz3 := Lib.hid (fun w h hB => num_m B p lz2 cz2 w h hB)
  rw [hz3] at Nz3
  dsimp only at N1 Nz2 Nz3
  have BC := Lib.hid (fun q m w (hd : SB w (.slice q 0 m) []) => (show Calls Try.prog 33 #[.agg #[.int .u64 5, .int .u64 (z2 : Int), .int .u64 0, .int .u64 0, .int .u64 (z3 : Int), .bool false, .slice q 0 m, .slice none 0 0]] w fun e w' => e = .returned (.bool false) ∧ Below w.heap.size w w' by
    have := beyond_c ⟨5, z2, 0, 0, z3, false, [], []⟩ (show (0 : Nat) < 18446744073709551616 by decide) (Nat.zero_le _) (.slice q 0 m) (.slice none 0 0) w hd
    rw [show beyondF ⟨5, z2, 0, 0, z3, false, [], []⟩ = false from rfl] at this
    exact this))
  clear hz1 hz2 hz3
  have hlt : B < W.heap.size := by
    obtain ⟨g, pb, cb, _, hg, KB, _⟩ := h
    have := KB.lt
    omega
  clear _hB
  go_enter Try.func27, Try.ntmps27
  go_upto_region 0 with fail
  rename_i aK
  refine wp_region_seq ?_
  refine wpSeq_wp rfl ?_
  unfold Oper.wp execOp
  go_simp
  have b0 := (Below.refl W.heap.size W).alloc (Nat.le_refl _) (.cells #[.pointer p] 58)
  have KR := Blk.new W 58 #[.pointer p]
  replace h := h.below b0
  have G := gb_below b0 (some B)
  have o1 := KR.lt
  clear b0
  generalize World.alloc W _ = W1 at *
  refine wpSeq_alloc 26 zeroFr rfl (fun W => by go_simp; rfl) ?_
  simp only [AP]
  have b0 := (Below.refl W1.heap.size W1).alloc (Nat.le_refl _) (.cells zeroFr 26)
  have KQ := Blk.new W1 26 zeroFr
  replace KR := KR.below' b0
  replace h := h.below b0
  replace G := G.trans (gb_below b0 (some B))
  have o2 := KQ.lt
  clear b0
  generalize World.alloc W1 _ = W2 at *
  generalize W1.heap.size = RB at *
  refine wpSeq_nil ?_
  refine aK _ _ ?_
  clear aK
  go_upto_region 1 with fail
  rename_i aK
  refine wp_region_seq ?_
  refine wpSeq_yield (S := fun _ => True) (v := .pointer (some ⟨W.heap.size, 0, none⟩)) (Or.inl ⟨by rfl, fun w' hw' => by go_simp⟩) trivial ?_
  simp only [AP]
  refine wpSeq_yield (S := fun w' => w' = W2) (v := .pointer p) (Or.inl ⟨by rfl, fun w' hw' => by (rw [hw']; have cc : W2.cell? ⟨W.heap.size, 0, none⟩ = some (.pointer p) := KR.cell 0; go_simp)⟩) rfl ?_
  simp only [AP]
  refine wpSeq_wp rfl ?_
  unfold Oper.wp execOp
  go_simp
  refine (N1.out _ h (by omega)).mono ?_
  rintro _ W3 ⟨rfl, h1, b1⟩
  replace KR := blk_gb b1 KR (by omega)
  replace KQ := blk_gb b1 KQ (by omega)
  replace G := G.trans b1
  replace h := h1
  replace o2 := Nat.lt_of_lt_of_le o2 b1.size
  clear h1 b1 N1
  go_simp
  refine wpSeq_wp rfl ?_
  unfold Oper.wp execOp
  go_simp
  refine wpSeq_alloc 26 zeroFr rfl (fun W => by go_simp; rfl) ?_
  simp only [AP]
  refine wpSeq_store_row rfl 26 _ _ rfl (W3.heap.size) #[.int .u64 5, .int .u64 0, .int .u64 0, .int .u64 0, .int .u64 0, .bool false, .slice none 0 0, .slice none 0 0] rfl rfl _ _ (Blk.new _ _ _) info_fr rfl frame_one ?_
  try simp only [Act.put]
  have b1 := below_setRow ((Below.refl W3.heap.size W3).alloc (Nat.le_refl _) (.cells zeroFr 26)) (Nat.le_refl W3.heap.size) #[.int .u64 5, .int .u64 0, .int .u64 0, .int .u64 0, .int .u64 0, .bool false, .slice none 0 0, .slice none 0 0]
  have K := (Blk.new W3 26 zeroFr).row #[.int .u64 5, .int .u64 0, .int .u64 0, .int .u64 0, .int .u64 0, .bool false, .slice none 0 0, .slice none 0 0]
  replace KR := Lib.hid (KR.below' b1)
  replace KQ := Lib.hid (KQ.below' b1)
  replace h := Lib.hid (h.below b1)
  replace G := G.trans (gb_below b1 (some B))
  have o3 := K.lt
  clear b1
  generalize World.setRow _ _ _ = W4 at *
  generalize W3.heap.size = gf at *
  obtain ⟨H, hH⟩ : ∃ H, W4.heap.size = H := ⟨_, rfl⟩
  have ord := Lib.hid (show B < W.heap.size ∧ W.heap.size < RB ∧ RB < gf ∧ gf < H by omega)
  have hs2 : H ≤ W4.heap.size := by omega
  replace K := Lib.hid K
  clear hH o1 o2 o3 hlt
  refine wpSeq_nil ?_
  refine aK _ _ ?_
  clear aK
  go_upto_region 2 with fail
  rename_i aK
  refine wp_region_seq ?_
  refine wpSeq_yield (S := fun _ => True) (v := .pointer (some ⟨gf, 0, none⟩)) (Or.inl ⟨by rfl, fun w' hw' => by go_simp⟩) trivial ?_
  simp only [AP]
  refine wpSeq_yield (S := fun w' => w' = W4) (v := .int .u64 5) (Or.inl ⟨by rfl, fun w' hw' => by (rw [hw']; have cc : W4.cell? ⟨gf, 0, none⟩ = some (.int .u64 5) := K.out.cell 0; go_simp)⟩) rfl ?_
  simp only [AP]
  refine wpSeq_nil ?_
  refine (by assumption : ∀ (a : Act) (w : World), _ → _) _ _ ?_
  go_upto_region 12 with fail
  rename_i aK
  refine wp_region_S (S := fun w' => Blk w' W.heap.size 58 #[.pointer p]) (by kernel_rfl) ?_
  have bd := fun {w0 : World} => below_drew (Below.refl w0.heap.size w0)
  replace h := Lib.hid (h.out.below bd)
  replace K := Lib.hid (K.out.drew)
  have hS := KR.out.drew
  replace KR := Lib.hid (KR.out.drew)
  replace KQ := Lib.hid (KQ.out.drew)
  replace G := G.trans (gb_below bd _)
  replace hs2 := (show H ≤ W4.drew.heap.size from hs2)
  clear bd
  generalize World.drew _ = W5 at *
  refine wpAnyS_takeL 0 (v := .pointer (some ⟨W.heap.size, 0, none⟩)) rfl (by kernel_rfl) (by kernel_rfl) (by kernel_rfl) (fun _ _ _ H => H) (Or.inl ⟨by rfl, fun w' hw' => by go_simp⟩) hS ?_
  simp only [AP]
  refine wpAnyS_takeL 1 (v := .pointer p) rfl (by kernel_rfl) (by kernel_rfl) (by kernel_rfl) (fun _ _ _ H => H) (Or.inl ⟨by rfl, fun w' hw' => by (have cc := (show Blk w' W.heap.size 58 #[.pointer p] from hw').cell 0; rw [show (#[.pointer p] : Array Value)[0]? = some (.pointer p) from rfl] at cc; go_simp)⟩) hS ?_
  simp only [AP]
  refine wpAnyS_takeL 3 (v := .pointer (some ⟨W.heap.size, 0, none⟩)) rfl (by kernel_rfl) (by kernel_rfl) (by kernel_rfl) (fun _ _ _ H => H) (Or.inl ⟨by rfl, fun w' hw' => by go_simp⟩) hS ?_
  simp only [AP]
  refine wpAnyS_takeL 4 (v := .pointer p) rfl (by kernel_rfl) (by kernel_rfl) (by kernel_rfl) (fun _ _ _ H => H) (Or.inl ⟨by rfl, fun w' hw' => by (have cc := (show Blk w' W.heap.size 58 #[.pointer p] from hw').cell 0; rw [show (#[.pointer p] : Array Value)[0]? = some (.pointer p) from rfl] at cc; go_simp)⟩) hS ?_
  simp only [AP]
  refine gstep 2 rfl rfl (by kernel_rfl) ?_
  unfold Oper.wp execOp
  go_simp
  refine (Nz2.out _ h.out (by have := ord.out; omega)).mono ?_
  rintro _ W6 ⟨rfl, h1, b1⟩
  replace K := Lib.hid (blk_gb b1 K.out (by have := ord.out; omega))
  replace KR := Lib.hid (blk_gb b1 KR.out (by have := ord.out; omega))
  replace KQ := Lib.hid (blk_gb b1 KQ.out (by have := ord.out; omega))
  replace h := Lib.hid h1
  replace G := G.trans b1
  replace hs2 := Nat.le_trans hs2 b1.size
  replace hS := blk_gb b1 hS (by have := ord.out; omega)
  clear h1 b1 Nz2
  refine ⟨hS, ?_⟩
  refine gstep 5 rfl rfl (by kernel_rfl) ?_
  unfold Oper.wp execOp
  go_simp
  refine (Nz3.out _ h.out (by have := ord.out; omega)).mono ?_
  rintro _ W7 ⟨rfl, h1, b1⟩
  replace K := Lib.hid (blk_gb b1 K.out (by have := ord.out; omega))
  replace KR := Lib.hid (blk_gb b1 KR.out (by have := ord.out; omega))
  replace KQ := Lib.hid (blk_gb b1 KQ.out (by have := ord.out; omega))
  replace h := Lib.hid h1
  replace G := G.trans b1
  replace hs2 := Nat.le_trans hs2 b1.size
  replace hS := blk_gb b1 hS (by have := ord.out; omega)
  clear h1 b1 Nz3
  refine ⟨hS, ?_⟩
  refine wpAnyS_takeL 6 (v := .pointer (some ⟨gf, 1, none⟩)) rfl (by kernel_rfl) (by kernel_rfl) (by kernel_rfl) (fun _ _ _ H => H) (Or.inl ⟨by rfl, fun w' hw' => by go_simp⟩) hS ?_
  simp only [AP]
  have cs : W7.cell? ⟨gf, 1, none⟩ = some (.int .u64 0) := K.out.cell 1
  have fz := K.out.frozen 1
  refine gstep 7 rfl rfl (by kernel_rfl) ?_
  unfold Oper.wp execOp
  go_simp
  have K2 : Blk (W7.setCell ⟨gf, 1, none⟩ (.int .u64 (z2 : Int))) gf 26 #[.int .u64 5, .int .u64 (z2 : Int), .int .u64 0, .int .u64 0, .int .u64 0, .bool false, .slice none 0 0, .slice none 0 0] := K.out.set 1 _
  have h2 := RM.far h.out K.out (by have := ord.out; omega) (nu8_at rfl) 1 (.int .u64 (z2 : Int))
  have KR2 := KR.out.far (p := ⟨gf, 1, none⟩) (show W.heap.size ≠ gf by have := ord.out; omega) (.int .u64 (z2 : Int))
  have KQ2 := KQ.out.far (p := ⟨gf, 1, none⟩) (show RB ≠ gf by have := ord.out; omega) (.int .u64 (z2 : Int))
  have G2 := gb_cell G (g := gf) (by have := ord.out; omega) 1 (.int .u64 (z2 : Int))
  have hs3 : H ≤ (W7.setCell ⟨gf, 1, none⟩ (.int .u64 (z2 : Int))).heap.size := by simpa using hs2
  replace hS := hS.far (p := ⟨gf, 1, none⟩) (show W.heap.size ≠ gf by have := ord.out; omega) (.int .u64 (z2 : Int))
  replace K := Lib.hid K2
  replace h := Lib.hid h2
  replace KR := Lib.hid KR2
  replace KQ := Lib.hid KQ2
  replace G := G2
  replace hs2 := hs3
  clear cs fz K2 h2 KR2 KQ2 G2 hs3
  generalize World.setCell _ _ _ = W8 at *
  refine ⟨hS, ?_⟩
  refine wpAnyS_takeL 8 (v := .pointer (some ⟨gf, 4, none⟩)) rfl (by kernel_rfl) (by kernel_rfl) (by kernel_rfl) (fun _ _ _ H => H) (Or.inl ⟨by rfl, fun w' hw' => by go_simp⟩) hS ?_
  simp only [AP]
  have cs : W8.cell? ⟨gf, 4, none⟩ = some (.int .u64 0) := K.out.cell 4
  have fz := K.out.frozen 4
  refine gstep 9 rfl rfl (by kernel_rfl) ?_
  unfold Oper.wp execOp
  go_simp
  have K2 : Blk (W8.setCell ⟨gf, 4, none⟩ (.int .u64 (z3 : Int))) gf 26 #[.int .u64 5, .int .u64 (z2 : Int), .int .u64 0, .int .u64 0, .int .u64 (z3 : Int), .bool false, .slice none 0 0, .slice none 0 0] := K.out.set 4 _
  have h2 := RM.far h.out K.out (by have := ord.out; omega) (nu8_at rfl) 4 (.int .u64 (z3 : Int))
  have KR2 := KR.out.far (p := ⟨gf, 4, none⟩) (show W.heap.size ≠ gf by have := ord.out; omega) (.int .u64 (z3 : Int))
  have KQ2 := KQ.out.far (p := ⟨gf, 4, none⟩) (show RB ≠ gf by have := ord.out; omega) (.int .u64 (z3 : Int))
  have G2 := gb_cell G (g := gf) (by have := ord.out; omega) 4 (.int .u64 (z3 : Int))
  have hs3 : H ≤ (W8.setCell ⟨gf, 4, none⟩ (.int .u64 (z3 : Int))).heap.size := by simpa using hs2
  replace hS := hS.far (p := ⟨gf, 4, none⟩) (show W.heap.size ≠ gf by have := ord.out; omega) (.int .u64 (z3 : Int))
  replace K := Lib.hid K2
  replace h := Lib.hid h2
  replace KR := Lib.hid KR2
  replace KQ := Lib.hid KQ2
  replace G := G2
  replace hs2 := hs3
  clear cs fz K2 h2 KR2 KQ2 G2 hs3
  generalize World.setCell _ _ _ = W9 at *
  refine ⟨hS, ?_⟩
  refine wpAnyS_done (by kernel_rfl) ?_ _
  refine (by assumption : ∀ (a : Act) (w : World), _ → _) _ _ ?_
  replace KR := Lib.hid hS
  clear hS
  go_upto_region 29 with fail
  rename_i aK
  refine wp_region_seq ?_
  refine wpSeq_yield (S := fun w' => w' = W9) (show YieldsIf _ _ _ _ (.agg #[.int .u64 5, .int .u64 (z2 : Int), .int .u64 0, .int .u64 0, .int .u64 (z3 : Int), .bool false, .slice none 0 0, .slice none 0 0]) _ from yieldsIf_load_mid (S := fun w' => w' = W9) rfl 26 _ rfl gf 0 rfl [.int .u64 5, .int .u64 (z2 : Int), .int .u64 0, .int .u64 0, .int .u64 (z3 : Int), .bool false, .slice none 0 0, .slice none 0 0] _ (fun _ h => h ▸ blk_range K.out) Try.underlying26 rfl info_fr) rfl ?_
  simp only [AP]
  have sb := OwL.sb (OwL.nil H W9)
  refine wpSeq_wp rfl ?_
  unfold Oper.wp execOp
  go_simp
  refine (BC.out _ _ _ sb).mono ?_
  rintro _ W10 ⟨rfl, b1⟩
  replace K := Lib.hid (K.out.below' b1)
  replace KR := Lib.hid (KR.out.below' b1)
  replace KQ := Lib.hid (KQ.out.below' b1)
  replace h := Lib.hid (h.out.below b1)
  replace G := G.trans (gb_below b1 _)
  have O := OwL.below (OwL.nil H W9) b1
  have OS := OwS.below (OwS.nil H W9) b1
  replace hs2 := Nat.le_trans hs2 b1.size
  clear b1 BC sb
  go_simp
  refine wpSeq_nil ?_
  refine (by assumption : ∀ (a : Act) (w : World), _ → _) _ _ ?_
  go_upto_region 31 with fail
  rename_i aK
  refine wp_region_seq ?_
  refine wpSeq_yield (S := fun w' => w' = W10) (show YieldsIf _ _ _ _ (.agg #[.int .u64 5, .int .u64 (z2 : Int), .int .u64 0, .int .u64 0, .int .u64 (z3 : Int), .bool false, .slice none 0 0, .slice none 0 0]) _ from yieldsIf_load_mid (S := fun w' => w' = W10) rfl 26 _ rfl gf 0 rfl [.int .u64 5, .int .u64 (z2 : Int), .int .u64 0, .int .u64 0, .int .u64 (z3 : Int), .bool false, .slice none 0 0, .slice none 0 0] _ (fun _ h => h ▸ blk_range K.out) Try.underlying26 rfl info_fr) rfl ?_
  simp only [AP]
  refine wpSeq_store_row rfl 26 _ _ rfl RB #[.int .u64 5, .int .u64 (z2 : Int), .int .u64 0, .int .u64 0, .int .u64 (z3 : Int), .bool false, .slice none 0 0, .slice none 0 0] rfl rfl _ _ KQ.out info_fr rfl frame_one ?_
  try simp only [Act.put]
  refine wpSeq_nil ?_
  have KQ2 := KQ.out.row #[.int .u64 5, .int .u64 (z2 : Int), .int .u64 0, .int .u64 0, .int .u64 (z3 : Int), .bool false, .slice none 0 0, .slice none 0 0]
  have h2 := h.out.row_far (gf := RB) (by have := ord.out; omega) #[.int .u64 5, .int .u64 (z2 : Int), .int .u64 0, .int .u64 0, .int .u64 (z3 : Int), .bool false, .slice none 0 0, .slice none 0 0]
  have G2 := gb_row G (g := RB) (by have := ord.out; omega) #[.int .u64 5, .int .u64 (z2 : Int), .int .u64 0, .int .u64 0, .int .u64 (z3 : Int), .bool false, .slice none 0 0, .slice none 0 0]
  have O2 := O.of_block (w' := World.setRow W10 RB #[.int .u64 5, .int .u64 (z2 : Int), .int .u64 0, .int .u64 0, .int .u64 (z3 : Int), .bool false, .slice none 0 0, .slice none 0 0]) fun g hg => setRow_other _ _ _ _ (by have := (O.lt g hg).1; have := ord.out; omega)
  have OS2 := OS.of_block (w' := World.setRow W10 RB #[.int .u64 5, .int .u64 (z2 : Int), .int .u64 0, .int .u64 0, .int .u64 (z3 : Int), .bool false, .slice none 0 0, .slice none 0 0]) fun g hg => setRow_other _ _ _ _ (by have := (OS.lt g hg).1; have := ord.out; omega)
  clear K KR KQ h G O OS hs2
  generalize World.setRow _ _ _ = WE at *
  go_wp2
  refine bodyPost_ret (results_cell_row rfl _ _ RB 26 _ (0, 0) _ rfl KQ2 Try.underlying26 rfl info_fr) rfl ?_
  exact ⟨⟨_, _, rfl, O2.mono (by have := ord.out; omega), OS2.mono (by have := ord.out; omega)⟩, h2, G2⟩
set_option maxHeartbeats 16000000 in
set_option maxRecDepth 100000 in
theorem fr17 (B : Nat) (p : Option Addr) (l : List Nat) (l1 : List Nat) (c1 : Nat) (hz1 : numS l 0 = (17, l1, c1)) (z2 : Nat) (lz2 : List Nat) (cz2 : Nat) (hz2 : numS l1 c1 = (z2, lz2, cz2)) (z3 : Nat) (lz3 : List Nat) (cz3 : Nat) (hz3 : numS lz2 cz2 = (z3, lz3, cz3)) (W : World) (h : RM B W p l 0) (_hB : B ≤ W.heap.size) :
    Calls Try.prog 27 #[.agg #[.pointer p]] W fun e w' => (∃ vd va, e = .returned (.agg #[.int .u64 17, .int .u64 (z2 : Int), .int .u64 0, .int .u64 (z3 : Int), .int .u64 0, .bool false, vd, va]) ∧ OwL W.heap.size w' vd [] ∧ OwS W.heap.size w' va []) ∧ RM B w' p lz3 cz3 ∧ W.grownBy w' (some B) := by
  have N1 := Lib.hid (fun w h hB => num_m B p l 0 w h hB)
  rw [hz1] at N1
  have Nz2 := Lib.hid (fun w h hB => num_m B p l1 c1 w h hB)
  rw [hz2] at Nz2
  have Nz3 := Lib.hid (fun w h hB => num_m B p lz2 cz2 w h hB)
  rw [hz3] at Nz3
  dsimp only at N1 Nz2 Nz3
  have BC := Lib.hid (fun q m w (hd : SB w (.slice q 0 m) []) => (show Calls Try.prog 33 #[.agg #[.int .u64 17, .int .u64 (z2 : Int), .int .u64 0, .int .u64 (z3 : Int), .int .u64 0, .bool false, .slice q 0 m, .slice none 0 0]] w fun e w' => e = .returned (.bool false) ∧ Below w.heap.size w w' by
    have := beyond_c ⟨17, z2, 0, z3, 0, false, [], []⟩ (show (0 : Nat) < 18446744073709551616 by decide) (Nat.zero_le _) (.slice q 0 m) (.slice none 0 0) w hd
    rw [show beyondF ⟨17, z2, 0, z3, 0, false, [], []⟩ = false from rfl] at this
    exact this))
  clear hz1 hz2 hz3
  have hlt : B < W.heap.size := by
    obtain ⟨g, pb, cb, _, hg, KB, _⟩ := h
    have := KB.lt
    omega
  clear _hB
  go_enter Try.func27, Try.ntmps27
  go_upto_region 0 with fail
  rename_i aK
  refine wp_region_seq ?_
  refine wpSeq_wp rfl ?_
  unfold Oper.wp execOp
  go_simp
  have b0 := (Below.refl W.heap.size W).alloc (Nat.le_refl _) (.cells #[.pointer p] 58)
  have KR := Blk.new W 58 #[.pointer p]
  replace h := h.below b0
  have G := gb_below b0 (some B)
  have o1 := KR.lt
  clear b0
  generalize World.alloc W _ = W1 at *
  refine wpSeq_alloc 26 zeroFr rfl (fun W => by go_simp; rfl) ?_
  simp only [AP]
  have b0 := (Below.refl W1.heap.size W1).alloc (Nat.le_refl _) (.cells zeroFr 26)
  have KQ := Blk.new W1 26 zeroFr
  replace KR := KR.below' b0
  replace h := h.below b0
  replace G := G.trans (gb_below b0 (some B))
  have o2 := KQ.lt
  clear b0
  generalize World.alloc W1 _ = W2 at *
  generalize W1.heap.size = RB at *
  refine wpSeq_nil ?_
  refine aK _ _ ?_
  clear aK
  go_upto_region 1 with fail
  rename_i aK
  refine wp_region_seq ?_
  refine wpSeq_yield (S := fun _ => True) (v := .pointer (some ⟨W.heap.size, 0, none⟩)) (Or.inl ⟨by rfl, fun w' hw' => by go_simp⟩) trivial ?_
  simp only [AP]
  refine wpSeq_yield (S := fun w' => w' = W2) (v := .pointer p) (Or.inl ⟨by rfl, fun w' hw' => by (rw [hw']; have cc : W2.cell? ⟨W.heap.size, 0, none⟩ = some (.pointer p) := KR.cell 0; go_simp)⟩) rfl ?_
  simp only [AP]
  refine wpSeq_wp rfl ?_
  unfold Oper.wp execOp
  go_simp
  refine (N1.out _ h (by omega)).mono ?_
  rintro _ W3 ⟨rfl, h1, b1⟩
  replace KR := blk_gb b1 KR (by omega)
  replace KQ := blk_gb b1 KQ (by omega)
  replace G := G.trans b1
  replace h := h1
  replace o2 := Nat.lt_of_lt_of_le o2 b1.size
  clear h1 b1 N1
  go_simp
  refine wpSeq_wp rfl ?_
  unfold Oper.wp execOp
  go_simp
  refine wpSeq_alloc 26 zeroFr rfl (fun W => by go_simp; rfl) ?_
  simp only [AP]
  refine wpSeq_store_row rfl 26 _ _ rfl (W3.heap.size) #[.int .u64 17, .int .u64 0, .int .u64 0, .int .u64 0, .int .u64 0, .bool false, .slice none 0 0, .slice none 0 0] rfl rfl _ _ (Blk.new _ _ _) info_fr rfl frame_one ?_
  try simp only [Act.put]
  have b1 := below_setRow ((Below.refl W3.heap.size W3).alloc (Nat.le_refl _) (.cells zeroFr 26)) (Nat.le_refl W3.heap.size) #[.int .u64 17, .int .u64 0, .int .u64 0, .int .u64 0, .int .u64 0, .bool false, .slice none 0 0, .slice none 0 0]
  have K := (Blk.new W3 26 zeroFr).row #[.int .u64 17, .int .u64 0, .int .u64 0, .int .u64 0, .int .u64 0, .bool false, .slice none 0 0, .slice none 0 0]
  replace KR := Lib.hid (KR.below' b1)
  replace KQ := Lib.hid (KQ.below' b1)
  replace h := Lib.hid (h.below b1)
  replace G := G.trans (gb_below b1 (some B))
  have o3 := K.lt
  clear b1
  generalize World.setRow _ _ _ = W4 at *
  generalize W3.heap.size = gf at *
  obtain ⟨H, hH⟩ : ∃ H, W4.heap.size = H := ⟨_, rfl⟩
  have ord := Lib.hid (show B < W.heap.size ∧ W.heap.size < RB ∧ RB < gf ∧ gf < H by omega)
  have hs2 : H ≤ W4.heap.size := by omega
  replace K := Lib.hid K
  clear hH o1 o2 o3 hlt
  refine wpSeq_nil ?_
  refine aK _ _ ?_
  clear aK
  go_upto_region 2 with fail
  rename_i aK
  refine wp_region_seq ?_
  refine wpSeq_yield (S := fun _ => True) (v := .pointer (some ⟨gf, 0, none⟩)) (Or.inl ⟨by rfl, fun w' hw' => by go_simp⟩) trivial ?_
  simp only [AP]
  refine wpSeq_yield (S := fun w' => w' = W4) (v := .int .u64 17) (Or.inl ⟨by rfl, fun w' hw' => by (rw [hw']; have cc : W4.cell? ⟨gf, 0, none⟩ = some (.int .u64 17) := K.out.cell 0; go_simp)⟩) rfl ?_
  simp only [AP]
  refine wpSeq_nil ?_
  refine (by assumption : ∀ (a : Act) (w : World), _ → _) _ _ ?_
  go_upto_region 25 with fail
  rename_i aK
  refine wp_region_S (S := fun w' => Blk w' W.heap.size 58 #[.pointer p]) (by kernel_rfl) ?_
  have bd := fun {w0 : World} => below_drew (Below.refl w0.heap.size w0)
  replace h := Lib.hid (h.out.below bd)
  replace K := Lib.hid (K.out.drew)
  have hS := KR.out.drew
  replace KR := Lib.hid (KR.out.drew)
  replace KQ := Lib.hid (KQ.out.drew)
  replace G := G.trans (gb_below bd _)
  replace hs2 := (show H ≤ W4.drew.heap.size from hs2)
  clear bd
  generalize World.drew _ = W5 at *
  refine wpAnyS_takeL 0 (v := .pointer (some ⟨W.heap.size, 0, none⟩)) rfl (by kernel_rfl) (by kernel_rfl) (by kernel_rfl) (fun _ _ _ H => H) (Or.inl ⟨by rfl, fun w' hw' => by go_simp⟩) hS ?_
  simp only [AP]
  refine wpAnyS_takeL 1 (v := .pointer p) rfl (by kernel_rfl) (by kernel_rfl) (by kernel_rfl) (fun _ _ _ H => H) (Or.inl ⟨by rfl, fun w' hw' => by (have cc := (show Blk w' W.heap.size 58 #[.pointer p] from hw').cell 0; rw [show (#[.pointer p] : Array Value)[0]? = some (.pointer p) from rfl] at cc; go_simp)⟩) hS ?_
  simp only [AP]
  refine wpAnyS_takeL 3 (v := .pointer (some ⟨W.heap.size, 0, none⟩)) rfl (by kernel_rfl) (by kernel_rfl) (by kernel_rfl) (fun _ _ _ H => H) (Or.inl ⟨by rfl, fun w' hw' => by go_simp⟩) hS ?_
  simp only [AP]
  refine wpAnyS_takeL 4 (v := .pointer p) rfl (by kernel_rfl) (by kernel_rfl) (by kernel_rfl) (fun _ _ _ H => H) (Or.inl ⟨by rfl, fun w' hw' => by (have cc := (show Blk w' W.heap.size 58 #[.pointer p] from hw').cell 0; rw [show (#[.pointer p] : Array Value)[0]? = some (.pointer p) from rfl] at cc; go_simp)⟩) hS ?_
  simp only [AP]
  refine gstep 2 rfl rfl (by kernel_rfl) ?_
  unfold Oper.wp execOp
  go_simp
  refine (Nz2.out _ h.out (by have := ord.out; omega)).mono ?_
  rintro _ W6 ⟨rfl, h1, b1⟩
  replace K := Lib.hid (blk_gb b1 K.out (by have := ord.out; omega))
  replace KR := Lib.hid (blk_gb b1 KR.out (by have := ord.out; omega))
  replace KQ := Lib.hid (blk_gb b1 KQ.out (by have := ord.out; omega))
  replace h := Lib.hid h1
  replace G := G.trans b1
  replace hs2 := Nat.le_trans hs2 b1.size
  replace hS := blk_gb b1 hS (by have := ord.out; omega)
  clear h1 b1 Nz2
  refine ⟨hS, ?_⟩
  refine gstep 5 rfl rfl (by kernel_rfl) ?_
  unfold Oper.wp execOp
  go_simp
  refine (Nz3.out _ h.out (by have := ord.out; omega)).mono ?_
  rintro _ W7 ⟨rfl, h1, b1⟩
  replace K := Lib.hid (blk_gb b1 K.out (by have := ord.out; omega))
  replace KR := Lib.hid (blk_gb b1 KR.out (by have := ord.out; omega))
  replace KQ := Lib.hid (blk_gb b1 KQ.out (by have := ord.out; omega))
  replace h := Lib.hid h1
  replace G := G.trans b1
  replace hs2 := Nat.le_trans hs2 b1.size
  replace hS := blk_gb b1 hS (by have := ord.out; omega)
  clear h1 b1 Nz3
  refine ⟨hS, ?_⟩
  refine wpAnyS_takeL 6 (v := .pointer (some ⟨gf, 1, none⟩)) rfl (by kernel_rfl) (by kernel_rfl) (by kernel_rfl) (fun _ _ _ H => H) (Or.inl ⟨by rfl, fun w' hw' => by go_simp⟩) hS ?_
  simp only [AP]
  have cs : W7.cell? ⟨gf, 1, none⟩ = some (.int .u64 0) := K.out.cell 1
  have fz := K.out.frozen 1
  refine gstep 7 rfl rfl (by kernel_rfl) ?_
  unfold Oper.wp execOp
  go_simp
  have K2 : Blk (W7.setCell ⟨gf, 1, none⟩ (.int .u64 (z2 : Int))) gf 26 #[.int .u64 17, .int .u64 (z2 : Int), .int .u64 0, .int .u64 0, .int .u64 0, .bool false, .slice none 0 0, .slice none 0 0] := K.out.set 1 _
  have h2 := RM.far h.out K.out (by have := ord.out; omega) (nu8_at rfl) 1 (.int .u64 (z2 : Int))
  have KR2 := KR.out.far (p := ⟨gf, 1, none⟩) (show W.heap.size ≠ gf by have := ord.out; omega) (.int .u64 (z2 : Int))
  have KQ2 := KQ.out.far (p := ⟨gf, 1, none⟩) (show RB ≠ gf by have := ord.out; omega) (.int .u64 (z2 : Int))
  have G2 := gb_cell G (g := gf) (by have := ord.out; omega) 1 (.int .u64 (z2 : Int))
  have hs3 : H ≤ (W7.setCell ⟨gf, 1, none⟩ (.int .u64 (z2 : Int))).heap.size := by simpa using hs2
  replace hS := hS.far (p := ⟨gf, 1, none⟩) (show W.heap.size ≠ gf by have := ord.out; omega) (.int .u64 (z2 : Int))
  replace K := Lib.hid K2
  replace h := Lib.hid h2
  replace KR := Lib.hid KR2
  replace KQ := Lib.hid KQ2
  replace G := G2
  replace hs2 := hs3
  clear cs fz K2 h2 KR2 KQ2 G2 hs3
  generalize World.setCell _ _ _ = W8 at *
  refine ⟨hS, ?_⟩
  refine wpAnyS_takeL 8 (v := .pointer (some ⟨gf, 3, none⟩)) rfl (by kernel_rfl) (by kernel_rfl) (by kernel_rfl) (fun _ _ _ H => H) (Or.inl ⟨by rfl, fun w' hw' => by go_simp⟩) hS ?_
  simp only [AP]
  have cs : W8.cell? ⟨gf, 3, none⟩ = some (.int .u64 0) := K.out.cell 3
  have fz := K.out.frozen 3
  refine gstep 9 rfl rfl (by kernel_rfl) ?_
  unfold Oper.wp execOp
  go_simp
  have K2 : Blk (W8.setCell ⟨gf, 3, none⟩ (.int .u64 (z3 : Int))) gf 26 #[.int .u64 17, .int .u64 (z2 : Int), .int .u64 0, .int .u64 (z3 : Int), .int .u64 0, .bool false, .slice none 0 0, .slice none 0 0] := K.out.set 3 _
  have h2 := RM.far h.out K.out (by have := ord.out; omega) (nu8_at rfl) 3 (.int .u64 (z3 : Int))
  have KR2 := KR.out.far (p := ⟨gf, 3, none⟩) (show W.heap.size ≠ gf by have := ord.out; omega) (.int .u64 (z3 : Int))
  have KQ2 := KQ.out.far (p := ⟨gf, 3, none⟩) (show RB ≠ gf by have := ord.out; omega) (.int .u64 (z3 : Int))
  have G2 := gb_cell G (g := gf) (by have := ord.out; omega) 3 (.int .u64 (z3 : Int))
  have hs3 : H ≤ (W8.setCell ⟨gf, 3, none⟩ (.int .u64 (z3 : Int))).heap.size := by simpa using hs2
  replace hS := hS.far (p := ⟨gf, 3, none⟩) (show W.heap.size ≠ gf by have := ord.out; omega) (.int .u64 (z3 : Int))
  replace K := Lib.hid K2
  replace h := Lib.hid h2
  replace KR := Lib.hid KR2
  replace KQ := Lib.hid KQ2
  replace G := G2
  replace hs2 := hs3
  clear cs fz K2 h2 KR2 KQ2 G2 hs3
  generalize World.setCell _ _ _ = W9 at *
  refine ⟨hS, ?_⟩
  refine wpAnyS_done (by kernel_rfl) ?_ _
  refine (by assumption : ∀ (a : Act) (w : World), _ → _) _ _ ?_
  replace KR := Lib.hid hS
  clear hS
  go_upto_region 29 with fail
  rename_i aK
  refine wp_region_seq ?_
  refine wpSeq_yield (S := fun w' => w' = W9) (show YieldsIf _ _ _ _ (.agg #[.int .u64 17, .int .u64 (z2 : Int), .int .u64 0, .int .u64 (z3 : Int), .int .u64 0, .bool false, .slice none 0 0, .slice none 0 0]) _ from yieldsIf_load_mid (S := fun w' => w' = W9) rfl 26 _ rfl gf 0 rfl [.int .u64 17, .int .u64 (z2 : Int), .int .u64 0, .int .u64 (z3 : Int), .int .u64 0, .bool false, .slice none 0 0, .slice none 0 0] _ (fun _ h => h ▸ blk_range K.out) Try.underlying26 rfl info_fr) rfl ?_
  simp only [AP]
  have sb := OwL.sb (OwL.nil H W9)
  refine wpSeq_wp rfl ?_
  unfold Oper.wp execOp
  go_simp
  refine (BC.out _ _ _ sb).mono ?_
  rintro _ W10 ⟨rfl, b1⟩
  replace K := Lib.hid (K.out.below' b1)
  replace KR := Lib.hid (KR.out.below' b1)
  replace KQ := Lib.hid (KQ.out.below' b1)
  replace h := Lib.hid (h.out.below b1)
  replace G := G.trans (gb_below b1 _)
  have O := OwL.below (OwL.nil H W9) b1
  have OS := OwS.below (OwS.nil H W9) b1
  replace hs2 := Nat.le_trans hs2 b1.size
  clear b1 BC sb
  go_simp
  refine wpSeq_nil ?_
  refine (by assumption : ∀ (a : Act) (w : World), _ → _) _ _ ?_
  go_upto_region 31 with fail
  rename_i aK
  refine wp_region_seq ?_
  refine wpSeq_yield (S := fun w' => w' = W10) (show YieldsIf _ _ _ _ (.agg #[.int .u64 17, .int .u64 (z2 : Int), .int .u64 0, .int .u64 (z3 : Int), .int .u64 0, .bool false, .slice none 0 0, .slice none 0 0]) _ from yieldsIf_load_mid (S := fun w' => w' = W10) rfl 26 _ rfl gf 0 rfl [.int .u64 17, .int .u64 (z2 : Int), .int .u64 0, .int .u64 (z3 : Int), .int .u64 0, .bool false, .slice none 0 0, .slice none 0 0] _ (fun _ h => h ▸ blk_range K.out) Try.underlying26 rfl info_fr) rfl ?_
  simp only [AP]
  refine wpSeq_store_row rfl 26 _ _ rfl RB #[.int .u64 17, .int .u64 (z2 : Int), .int .u64 0, .int .u64 (z3 : Int), .int .u64 0, .bool false, .slice none 0 0, .slice none 0 0] rfl rfl _ _ KQ.out info_fr rfl frame_one ?_
  try simp only [Act.put]
  refine wpSeq_nil ?_
  have KQ2 := KQ.out.row #[.int .u64 17, .int .u64 (z2 : Int), .int .u64 0, .int .u64 (z3 : Int), .int .u64 0, .bool false, .slice none 0 0, .slice none 0 0]
  have h2 := h.out.row_far (gf := RB) (by have := ord.out; omega) #[.int .u64 17, .int .u64 (z2 : Int), .int .u64 0, .int .u64 (z3 : Int), .int .u64 0, .bool false, .slice none 0 0, .slice none 0 0]
  have G2 := gb_row G (g := RB) (by have := ord.out; omega) #[.int .u64 17, .int .u64 (z2 : Int), .int .u64 0, .int .u64 (z3 : Int), .int .u64 0, .bool false, .slice none 0 0, .slice none 0 0]
  have O2 := O.of_block (w' := World.setRow W10 RB #[.int .u64 17, .int .u64 (z2 : Int), .int .u64 0, .int .u64 (z3 : Int), .int .u64 0, .bool false, .slice none 0 0, .slice none 0 0]) fun g hg => setRow_other _ _ _ _ (by have := (O.lt g hg).1; have := ord.out; omega)
  have OS2 := OS.of_block (w' := World.setRow W10 RB #[.int .u64 17, .int .u64 (z2 : Int), .int .u64 0, .int .u64 (z3 : Int), .int .u64 0, .bool false, .slice none 0 0, .slice none 0 0]) fun g hg => setRow_other _ _ _ _ (by have := (OS.lt g hg).1; have := ord.out; omega)
  clear K KR KQ h G O OS hs2
  generalize World.setRow _ _ _ = WE at *
  go_wp2
  refine bodyPost_ret (results_cell_row rfl _ _ RB 26 _ (0, 0) _ rfl KQ2 Try.underlying26 rfl info_fr) rfl ?_
  exact ⟨⟨_, _, rfl, O2.mono (by have := ord.out; omega), OS2.mono (by have := ord.out; omega)⟩, h2, G2⟩
end Go.Proofs.Ytdlhclakdllogaa
