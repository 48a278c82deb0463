/- The program's parsing: a frame, another kind (printed by gen11/we.py). -/
import Derived.Test.YtdlhclakdllogaaWe
namespace Go.Proofs.Ytdlhclakdllogaa
open Go.RowKit

set_option maxHeartbeats 16000000 in
set_option maxRecDepth 100000 in
theorem frx (B : Nat) (p : Option Addr) (l : List Nat) (k : Nat) (l1 : List Nat) (c1 : Nat) (hz1 : numS l 0 = (k, l1, c1)) (_hk : k < 18446744073709551616) (kn : ¬ (k = 0 ∨ k = 1 ∨ k = 30) ∧ k ≠ 2 ∧ k ≠ 4 ∧ k ≠ 5 ∧ k ≠ 6 ∧ ¬ (k = 10 ∨ k = 11) ∧ ¬ (k = 14 ∨ k = 15) ∧ ¬ (k = 16 ∨ k = 18) ∧ k ≠ 17 ∧ k ≠ 28) (W : World) (h : RM B W p l 0) (_hB : B ≤ W.heap.size) :
    Calls Try.prog 27 #[.agg #[.pointer p]] W fun e w' => (∃ vd va, e = .returned (.agg #[.int .u64 (k : Int), .int .u64 0, .int .u64 0, .int .u64 0, .int .u64 0, .bool false, vd, va]) ∧ OwL W.heap.size w' vd [] ∧ OwS W.heap.size w' va []) ∧ RM B w' p l1 (failS c1 6) ∧ W.grownBy w' (some B) := by
  have N1 := Lib.hid (fun w h hB => num_m B p l 0 w h hB)
  rw [hz1] at N1
  dsimp only at N1
  have BC := Lib.hid (fun q m w (hd : SB w (.slice q 0 m) []) => (show Calls Try.prog 33 #[.agg #[.int .u64 (k : Int), .int .u64 0, .int .u64 0, .int .u64 0, .int .u64 0, .bool false, .slice q 0 m, .slice none 0 0]] w fun e w' => e = .returned (.bool false) ∧ Below w.heap.size w w' by
    have := beyond_c ⟨k, 0, 0, 0, 0, false, [], []⟩ (show (0 : Nat) < 18446744073709551616 by decide) (Nat.zero_le _) (.slice q 0 m) (.slice none 0 0) w hd
    rw [show beyondF ⟨k, 0, 0, 0, 0, false, [], []⟩ = false from rfl] at this
    exact this))
  have FK := Lib.hid (fun w h hB => fail_m B p l1 c1 6 w h hB)
  rw [failS_eq] at FK
  have n0 : ¬ (k : Int) = 0 := by omega
  have n1 : ¬ (k : Int) = 1 := by omega
  have n30 : ¬ (k : Int) = 30 := by omega
  have n2 : ¬ (k : Int) = 2 := by omega
  have n4 : ¬ (k : Int) = 4 := by omega
  have n5 : ¬ (k : Int) = 5 := by omega
  have n6 : ¬ (k : Int) = 6 := by omega
  have n10 : ¬ (k : Int) = 10 := by omega
  have n11 : ¬ (k : Int) = 11 := by omega
  have n14 : ¬ (k : Int) = 14 := by omega
  have n15 : ¬ (k : Int) = 15 := by omega
  have n16 : ¬ (k : Int) = 16 := by omega
  have n18 : ¬ (k : Int) = 18 := by omega
  have n17 : ¬ (k : Int) = 17 := by omega
  have n28 : ¬ (k : Int) = 28 := by omega
  clear hz1 kn _hk
  have hlt : B < W.heap.size := by
    obtain ⟨g, pb, cb, _, hg, KB, _⟩ := h
    have := KB.lt
    omega
  clear _hB
  go_enter Try.func27, Try.ntmps27
  go_upto_region 0 with fail
  rename_i aK
  refine wp_region_seq ?_
  refine wpSeq_wp rfl ?_
  unfold Oper.wp execOp
  go_simp
  have b0 := (Below.refl W.heap.size W).alloc (Nat.le_refl _) (.cells #[.pointer p] 58)
  have KR := Blk.new W 58 #[.pointer p]
  replace h := h.below b0
  have G := gb_below b0 (some B)
  have o1 := KR.lt
  clear b0
  generalize World.alloc W _ = W1 at *
  refine wpSeq_alloc 26 zeroFr rfl (fun W => by go_simp; rfl) ?_
  simp only [AP]
  have b0 := (Below.refl W1.heap.size W1).alloc (Nat.le_refl _) (.cells zeroFr 26)
  have KQ := Blk.new W1 26 zeroFr
  replace KR := KR.below' b0
  replace h := h.below b0
  replace G := G.trans (gb_below b0 (some B))
  have o2 := KQ.lt
  clear b0
  generalize World.alloc W1 _ = W2 at *
  generalize W1.heap.size = RB at *
  refine wpSeq_nil ?_
  refine aK _ _ ?_
  clear aK
  go_upto_region 1 with fail
  rename_i aK
  refine wp_region_seq ?_
  refine wpSeq_yield (S := fun _ => True) (v := .pointer (some ⟨W.heap.size, 0, none⟩)) (Or.inl ⟨by rfl, fun w' hw' => by go_simp⟩) trivial ?_
  simp only [AP]
  refine wpSeq_yield (S := fun w' => w' = W2) (v := .pointer p) (Or.inl ⟨by rfl, fun w' hw' => by (rw [hw']; have cc : W2.cell? ⟨W.heap.size, 0, none⟩ = some (.pointer p) := KR.cell 0; go_simp)⟩) rfl ?_
  simp only [AP]
  refine wpSeq_wp rfl ?_
  unfold Oper.wp execOp
  go_simp
  refine (N1.out _ h (by omega)).mono ?_
  rintro _ W3 ⟨rfl, h1, b1⟩
  replace KR := blk_gb b1 KR (by omega)
  replace KQ := blk_gb b1 KQ (by omega)
  replace G := G.trans b1
  replace h := h1
  replace o2 := Nat.lt_of_lt_of_le o2 b1.size
  clear h1 b1 N1
  go_simp
  refine wpSeq_wp rfl ?_
  unfold Oper.wp execOp
  go_simp
  refine wpSeq_alloc 26 zeroFr rfl (fun W => by go_simp; rfl) ?_
  simp only [AP]
  refine wpSeq_store_row rfl 26 _ _ rfl (W3.heap.size) #[.int .u64 (k : Int), .int .u64 0, .int .u64 0, .int .u64 0, .int .u64 0, .bool false, .slice none 0 0, .slice none 0 0] rfl rfl _ _ (Blk.new _ _ _) info_fr rfl frame_one ?_
  try simp only [Act.put]
  have b1 := below_setRow ((Below.refl W3.heap.size W3).alloc (Nat.le_refl _) (.cells zeroFr 26)) (Nat.le_refl W3.heap.size) #[.int .u64 (k : Int), .int .u64 0, .int .u64 0, .int .u64 0, .int .u64 0, .bool false, .slice none 0 0, .slice none 0 0]
  have K := (Blk.new W3 26 zeroFr).row #[.int .u64 (k : Int), .int .u64 0, .int .u64 0, .int .u64 0, .int .u64 0, .bool false, .slice none 0 0, .slice none 0 0]
  replace KR := Lib.hid (KR.below' b1)
  replace KQ := Lib.hid (KQ.below' b1)
  replace h := Lib.hid (h.below b1)
  replace G := G.trans (gb_below b1 (some B))
  have o3 := K.lt
  clear b1
  generalize World.setRow _ _ _ = W4 at *
  generalize W3.heap.size = gf at *
  obtain ⟨H, hH⟩ : ∃ H, W4.heap.size = H := ⟨_, rfl⟩
  have ord := Lib.hid (show B < W.heap.size ∧ W.heap.size < RB ∧ RB < gf ∧ gf < H by omega)
  have hs2 : H ≤ W4.heap.size := by omega
  replace K := Lib.hid K
  clear hH o1 o2 o3 hlt
  refine wpSeq_nil ?_
  refine aK _ _ ?_
  clear aK
  go_upto_region 2 with fail
  rename_i aK
  refine wp_region_seq ?_
  refine wpSeq_yield (S := fun _ => True) (v := .pointer (some ⟨gf, 0, none⟩)) (Or.inl ⟨by rfl, fun w' hw' => by go_simp⟩) trivial ?_
  simp only [AP]
  refine wpSeq_yield (S := fun w' => w' = W4) (v := .int .u64 (k : Int)) (Or.inl ⟨by rfl, fun w' hw' => by (rw [hw']; have cc : W4.cell? ⟨gf, 0, none⟩ = some (.int .u64 (k : Int)) := K.out.cell 0; go_simp)⟩) rfl ?_
  simp only [AP]
  refine wpSeq_nil ?_
  refine (by assumption : ∀ (a : Act) (w : World), _ → _) _ _ ?_
  go_upto_region 3 with fail
  rename_i aK
  refine wp_region_seq ?_
  refine wpSeq_yield (S := fun _ => True) (v := .pointer (some ⟨W.heap.size, 0, none⟩)) (Or.inl ⟨by rfl, fun w' hw' => by go_simp⟩) trivial ?_
  simp only [AP]
  refine wpSeq_yield (S := fun w' => w' = W4) (v := .pointer p) (Or.inl ⟨by rfl, fun w' hw' => by (rw [hw']; have cc : W4.cell? ⟨W.heap.size, 0, none⟩ = some (.pointer p) := KR.out.cell 0; go_simp)⟩) rfl ?_
  simp only [AP]
  refine wpSeq_wp rfl ?_
  unfold Oper.wp execOp
  go_simp
  refine (FK.out _ h.out (by have := ord.out; omega)).mono ?_
  rintro _ W5 ⟨⟨v, rfl⟩, h1, b1⟩
  replace K := Lib.hid (blk_gb b1 K.out (by have := ord.out; omega))
  replace KR := Lib.hid (blk_gb b1 KR.out (by have := ord.out; omega))
  replace KQ := Lib.hid (blk_gb b1 KQ.out (by have := ord.out; omega))
  replace h := Lib.hid h1
  replace G := G.trans b1
  replace hs2 := Nat.le_trans hs2 b1.size
  clear h1 b1 FK
  go_simp
  refine wpSeq_nil ?_
  refine (by assumption : ∀ (a : Act) (w : World), _ → _) _ _ ?_
  go_upto_region 29 with fail
  rename_i aK
  refine wp_region_seq ?_
  refine wpSeq_yield (S := fun w' => w' = W5) (show YieldsIf _ _ _ _ (.agg #[.int .u64 (k : Int), .int .u64 0, .int .u64 0, .int .u64 0, .int .u64 0, .bool false, .slice none 0 0, .slice none 0 0]) _ from yieldsIf_load_mid (S := fun w' => w' = W5) rfl 26 _ rfl gf 0 rfl [.int .u64 (k : Int), .int .u64 0, .int .u64 0, .int .u64 0, .int .u64 0, .bool false, .slice none 0 0, .slice none 0 0] _ (fun _ h => h ▸ blk_range K.out) Try.underlying26 rfl info_fr) rfl ?_
  simp only [AP]
  have sb := OwL.sb (OwL.nil H W5)
  refine wpSeq_wp rfl ?_
  unfold Oper.wp execOp
  go_simp
  refine (BC.out _ _ _ sb).mono ?_
  rintro _ W6 ⟨rfl, b1⟩
  replace K := Lib.hid (K.out.below' b1)
  replace KR := Lib.hid (KR.out.below' b1)
  replace KQ := Lib.hid (KQ.out.below' b1)
  replace h := Lib.hid (h.out.below b1)
  replace G := G.trans (gb_below b1 _)
  have O := OwL.below (OwL.nil H W5) b1
  have OS := OwS.below (OwS.nil H W5) b1
  replace hs2 := Nat.le_trans hs2 b1.size
  clear b1 BC sb
  go_simp
  refine wpSeq_nil ?_
  refine (by assumption : ∀ (a : Act) (w : World), _ → _) _ _ ?_
  go_upto_region 31 with fail
  rename_i aK
  refine wp_region_seq ?_
  refine wpSeq_yield (S := fun w' => w' = W6) (show YieldsIf _ _ _ _ (.agg #[.int .u64 (k : Int), .int .u64 0, .int .u64 0, .int .u64 0, .int .u64 0, .bool false, .slice none 0 0, .slice none 0 0]) _ from yieldsIf_load_mid (S := fun w' => w' = W6) rfl 26 _ rfl gf 0 rfl [.int .u64 (k : Int), .int .u64 0, .int .u64 0, .int .u64 0, .int .u64 0, .bool false, .slice none 0 0, .slice none 0 0] _ (fun _ h => h ▸ blk_range K.out) Try.underlying26 rfl info_fr) rfl ?_
  simp only [AP]
  refine wpSeq_store_row rfl 26 _ _ rfl RB #[.int .u64 (k : Int), .int .u64 0, .int .u64 0, .int .u64 0, .int .u64 0, .bool false, .slice none 0 0, .slice none 0 0] rfl rfl _ _ KQ.out info_fr rfl frame_one ?_
  try simp only [Act.put]
  refine wpSeq_nil ?_
  have KQ2 := KQ.out.row #[.int .u64 (k : Int), .int .u64 0, .int .u64 0, .int .u64 0, .int .u64 0, .bool false, .slice none 0 0, .slice none 0 0]
  have h2 := h.out.row_far (gf := RB) (by have := ord.out; omega) #[.int .u64 (k : Int), .int .u64 0, .int .u64 0, .int .u64 0, .int .u64 0, .bool false, .slice none 0 0, .slice none 0 0]
  have G2 := gb_row G (g := RB) (by have := ord.out; omega) #[.int .u64 (k : Int), .int .u64 0, .int .u64 0, .int .u64 0, .int .u64 0, .bool false, .slice none 0 0, .slice none 0 0]
  have O2 := O.of_block (w' := World.setRow W6 RB #[.int .u64 (k : Int), .int .u64 0, .int .u64 0, .int .u64 0, .int .u64 0, .bool false, .slice none 0 0, .slice none 0 0]) fun g hg => setRow_other _ _ _ _ (by have := (O.lt g hg).1; have := ord.out; omega)
  have OS2 := OS.of_block (w' := World.setRow W6 RB #[.int .u64 (k : Int), .int .u64 0, .int .u64 0, .int .u64 0, .int .u64 0, .bool false, .slice none 0 0, .slice none 0 0]) fun g hg => setRow_other _ _ _ _ (by have := (OS.lt g hg).1; have := ord.out; omega)
  clear K KR KQ h G O OS hs2
  generalize World.setRow _ _ _ = WE at *
  go_wp2
  refine bodyPost_ret (results_cell_row rfl _ _ RB 26 _ (0, 0) _ rfl KQ2 Try.underlying26 rfl info_fr) rfl ?_
  exact ⟨⟨_, _, rfl, O2.mono (by have := ord.out; omega), OS2.mono (by have := ord.out; omega)⟩, h2, G2⟩
end Go.Proofs.Ytdlhclakdllogaa
