/- The program's parsing: an ACK (printed by gen11/wd.py). -/
import Derived.Test.YtdlhclakdllogaaWc
namespace Go.Proofs.Ytdlhclakdllogaa
open Go.RowKit

theorem Two.gb {x y : Nat} {w0 w w' : World} {row : Option Nat} (T : Two x y w0 w) (k : w.grownBy w' row) (hr : ∀ g, row = some g → w0.heap.size ≤ g) : Two x y w0 w' :=
  ⟨k.os.trans T.os, k.tape.trans T.tape, k.output.trans T.output, Nat.le_trans T.size k.size, fun i hi hx hy => (k.block i (Nat.lt_of_lt_of_le hi T.size) (fun e => by have := hr i e.symm; omega)).trans (T.block i hi hx hy)⟩
theorem blk_row {w w' : World} {g : Nat} {t : TypeId} {cs : Array Value} {row : Option Nat} (k : w.grownBy w' row) (K : Blk w g t cs) (ne : ∀ r, row = some r → g < r) : Blk w' g t cs := (k.block g K.lt (fun e => by have := ne g e.symm; omega)).trans K
set_option maxHeartbeats 16000000 in
set_option maxRecDepth 100000 in
theorem ack_m (B gf : Nat) (p : Option Addr) (l : List Nat) (c : Nat) (hBg : B < gf) (W : World) (h : RM B W p l c) (hB : B ≤ W.heap.size) (K : Blk W gf 26 #[.int .u64 2, .int .u64 0, .int .u64 0, .int .u64 0, .int .u64 0, .bool false, .slice none 0 0, .slice none 0 0]) (F : Fr) (lr : List Nat) (cr : Nat) (hF : ackS l c = (F, lr, cr)) :
    Calls Try.prog 40 #[.agg #[.pointer p], .pointer (some ⟨gf, 0, none⟩)] W fun e w' => (∃ v, e = .returned v) ∧ (∃ va, Blk w' gf 26 (frL F (.slice none 0 0) va).toArray ∧ OwS W.heap.size w' va F.acks) ∧ RM B w' p lr cr ∧ Two B gf W w' := by
  unfold ackS at hF
  have N1 := Lib.hid (fun w h hB => num_m B p l c w h hB)
  have lt1 := numS_lt l c (rm_bytes h)
  obtain ⟨z1, l1, c1, hz1⟩ : ∃ z l1 c1, numS l c = (z, l1, c1) := ⟨_, _, _, rfl⟩
  rw [hz1] at hF N1 lt1
  dsimp only at hF N1 lt1
  have N2 := Lib.hid (fun w h hB => num_m B p l1 c1 w h hB)
  obtain ⟨z2, l2, c2, hz2⟩ : ∃ z l2 c2, numS l1 c1 = (z, l2, c2) := ⟨_, _, _, rfl⟩
  rw [hz2] at hF N2
  dsimp only at hF N2
  have N3 := Lib.hid (fun w h hB => num_m B p l2 c2 w h hB)
  have lt3 := fun h => numS_lt l2 c2 h
  obtain ⟨z3, l3, c3, hz3⟩ : ∃ z l3 c3, numS l2 c2 = (z, l3, c3) := ⟨_, _, _, rfl⟩
  rw [hz3] at hF N3 lt3
  dsimp only at hF N3 lt3
  have N4 := Lib.hid (fun w h hB => num_m B p l3 c3 w h hB)
  obtain ⟨z4, l4, c4, hz4⟩ : ∃ z l4 c4, numS l3 c3 = (z, l4, c4) := ⟨_, _, _, rfl⟩
  rw [hz4] at hF N4
  dsimp only at hF N4
  have FL := Lib.hid (fun w h hB => fail_m B p l4 c4 7 w h hB)
  rw [failS_eq] at FL
  obtain ⟨c5, hc5⟩ : ∃ c5, (if 31 < z3 then failS c4 7 else c4) = c5 := ⟨_, rfl⟩
  rw [hc5] at hF
  have LS := Lib.hid (fun w h hB => less_m B p l4 z1 z4 c5 (by omega) w h hB)
  unfold spanS at hF
  have lo1 := lessS_le z1 z4 c5
  have big : 31 < z3 → (lessS z1 z4 c5).2 ≠ 0 := fun h => lessS_ne (by
    rw [← hc5, if_pos h]
    unfold failS
    split
    · decide
    · assumption)
  obtain ⟨lo, c6, hl6⟩ : ∃ lo c6, lessS z1 z4 c5 = (lo, c6) := ⟨_, _, rfl⟩
  rw [hl6] at hF LS lo1 big
  dsimp only at hF LS lo1 big
  obtain ⟨R, hR⟩ : ∃ R, moreS z3 lo l4 c6 [(lo, z1)] = R := ⟨_, rfl⟩
  rw [hR] at hF
  have e1 := congrArg (fun q => q.1) hF
  have e2 := congrArg (fun q => q.2.1) hF
  have e3 := congrArg (fun q => q.2.2) hF
  dsimp only at e1 e2 e3
  subst e1
  subst e2
  subst e3
  clear hF
  show Calls _ _ _ _ fun e w' => (∃ v, e = .returned v) ∧ (∃ va, Blk w' gf 26 #[.int .u64 2, .int .u64 0, .int .u64 0, .int .u64 (z2 : Int), .int .u64 0, .bool false, .slice none 0 0, va] ∧ OwS W.heap.size w' va R.1) ∧ RM B w' p R.2.1 R.2.2 ∧ Two B gf W w'
  have loz : lo < 4611686018427387904 := by omega
  have hlt : B < W.heap.size := by have := K.lt; omega
  have ne := Lib.hid (show gf ≠ B by omega)
  have neB := Lib.hid (show W.heap.size ≠ B by omega)
  have neR := Lib.hid (show W.heap.size ≠ gf by have := K.lt; omega)
  have glt := Lib.hid K.lt
  have hlt := Lib.hid hlt
  have lt3 : (∀ x ∈ l2, x < 256) → z3 < 4611686018427387904 := lt3
  have BIG := Lib.hid (And.intro big (And.intro loz lt3))
  have HR := Lib.hid hR
  have HC5 := Lib.hid hc5
  have hBg := Lib.hid hBg
  clear hz1 hz2 hz3 hz4 hl6 hR lo1 big loz lt1 lt3 hc5
  go_enter Try.func40, Try.ntmps40
  go_upto_region 0 with fail
  rename_i aK
  refine wp_region_seq ?_
  refine wpSeq_wp rfl ?_
  unfold Oper.wp execOp
  go_simp
  refine wpSeq_nil ?_
  refine aK _ _ ?_
  clear aK
  have b0 := (Below.refl W.heap.size W).alloc (Nat.le_refl _) (.cells #[.pointer p] 58)
  have KR := Lib.hid (Blk.new W 58 #[.pointer p])
  replace K := Lib.hid (K.below' b0)
  replace h := Lib.hid (h.below b0)
  generalize World.alloc W _ = W2 at *
  have T := Two.of b0 (x := B) (y := gf)
  have hb := Nat.le_trans hB b0.size
  obtain ⟨H, hH⟩ : ∃ H, W2.heap.size = H := ⟨_, rfl⟩
  have hH0 := Lib.hid (show W.heap.size < H ∧ H ≤ W2.heap.size by have := KR.out.lt; omega)
  clear b0 hB hH
  have hs2 := hH0.out.2
  go_upto_region 1 with fail
  rename_i aK
  refine wp_region_seq ?_
  refine wpSeq_yield (S := fun _ => True) (v := .pointer (some ⟨W.heap.size, 0, none⟩)) (Or.inl ⟨by rfl, fun w' hw' => by go_simp⟩) trivial ?_
  simp only [AP]
  refine wpSeq_yield (S := fun w' => w' = W2) (v := .pointer p) (Or.inl ⟨by rfl, fun w' hw' => by (rw [hw']; have cc : W2.cell? ⟨W.heap.size, 0, none⟩ = some (.pointer p) := KR.out.cell 0; go_simp)⟩) rfl ?_
  simp only [AP]
  refine wpSeq_wp rfl ?_
  unfold Oper.wp execOp
  go_simp
  refine (N1.out _ h.out hb).mono ?_
  rintro _ W3 ⟨rfl, h1, b1⟩
  replace K := Lib.hid (blk_gb b1 K.out ne.out)
  replace KR := Lib.hid (blk_gb b1 KR.out neB.out)
  replace h := Lib.hid h1
  replace T := T.trans (two_gb b1 gf)
  replace hb := Nat.le_trans hb b1.size
  replace hs2 := Nat.le_trans hs2 b1.size
  clear h1 b1 N1
  go_simp
  refine wpSeq_yield (S := fun _ => True) (yieldsIf_assign rfl _ rfl (.int .u64 (z1 : Int)) rfl) trivial ?_
  simp only [AP]
  refine wpSeq_nil ?_
  refine aK _ _ ?_
  clear aK
  go_upto_region 2 with fail
  rename_i aK
  refine wp_region_seq ?_
  refine wpSeq_yield (S := fun _ => True) (yieldsIf_move rfl _ rfl (.pointer (some ⟨gf, 0, none⟩)) rfl) trivial ?_
  simp only [AP]
  refine wpSeq_yield (S := fun _ => True) (v := .pointer (some ⟨W.heap.size, 0, none⟩)) (Or.inl ⟨by rfl, fun w' hw' => by go_simp⟩) trivial ?_
  simp only [AP]
  refine wpSeq_yield (S := fun w' => w' = W3) (v := .pointer p) (Or.inl ⟨by rfl, fun w' hw' => by (rw [hw']; have cc : W3.cell? ⟨W.heap.size, 0, none⟩ = some (.pointer p) := KR.out.cell 0; go_simp)⟩) rfl ?_
  simp only [AP]
  refine wpSeq_wp rfl ?_
  unfold Oper.wp execOp
  go_simp
  refine (N2.out _ h.out hb).mono ?_
  rintro _ W4 ⟨rfl, h1, b1⟩
  replace K := Lib.hid (blk_gb b1 K.out ne.out)
  replace KR := Lib.hid (blk_gb b1 KR.out neB.out)
  replace h := Lib.hid h1
  replace T := T.trans (two_gb b1 gf)
  replace hb := Nat.le_trans hb b1.size
  replace hs2 := Nat.le_trans hs2 b1.size
  clear h1 b1 N2
  go_simp
  refine wpSeq_yield (S := fun _ => True) (v := .pointer (some ⟨gf, 0, none⟩)) (Or.inl ⟨by rfl, fun w' hw' => by go_simp⟩) trivial ?_
  simp only [AP]
  refine wpSeq_yield (S := fun _ => True) (v := .pointer (some ⟨gf, 3, none⟩)) (Or.inl ⟨by rfl, fun w' hw' => by go_simp⟩) trivial ?_
  simp only [AP]
  have cs : W4.cell? ⟨gf, 3, none⟩ = some (.int .u64 0) := K.out.cell 3
  have fz := K.out.frozen 3
  refine wpSeq_wp rfl ?_
  unfold Oper.wp execOp
  go_simp
  have K2 : Blk (W4.setCell ⟨gf, 3, none⟩ (.int .u64 (z2 : Int))) gf 26 #[.int .u64 2, .int .u64 0, .int .u64 0, .int .u64 (z2 : Int), .int .u64 0, .bool false, .slice none 0 0, .slice none 0 0] := K.out.set 3 _
  have h2 := RM.far h.out K.out ne.out (nu8_at rfl) 3 (.int .u64 (z2 : Int))
  have KR2 := KR.out.far (p := ⟨gf, 3, none⟩) neR.out (.int .u64 (z2 : Int))
  have T2 := T.trans (Two.set_y W4 3 (.int .u64 (z2 : Int)))
  replace K := Lib.hid K2
  replace h := Lib.hid h2
  replace KR := Lib.hid KR2
  replace T := T2
  replace hb := Nat.le_trans hb (Two.set_y (x := B) (y := gf) W4 3 (.int .u64 (z2 : Int))).size
  replace hs2 := Nat.le_trans hs2 (Two.set_y (x := B) (y := gf) W4 3 (.int .u64 (z2 : Int))).size
  clear cs fz K2 h2 KR2 T2
  generalize World.setCell _ _ _ = W5 at *
  refine wpSeq_nil ?_
  refine aK _ _ ?_
  clear aK
  have Z3 := Lib.hid (BIG.out.2.2 (rm_bytes h.out))
  go_upto_region 3 with fail
  rename_i aK
  refine wp_region_seq ?_
  refine wpSeq_yield (S := fun _ => True) (v := .pointer (some ⟨W.heap.size, 0, none⟩)) (Or.inl ⟨by rfl, fun w' hw' => by go_simp⟩) trivial ?_
  simp only [AP]
  refine wpSeq_yield (S := fun w' => w' = W5) (v := .pointer p) (Or.inl ⟨by rfl, fun w' hw' => by (rw [hw']; have cc : W5.cell? ⟨W.heap.size, 0, none⟩ = some (.pointer p) := KR.out.cell 0; go_simp)⟩) rfl ?_
  simp only [AP]
  refine wpSeq_wp rfl ?_
  unfold Oper.wp execOp
  go_simp
  refine (N3.out _ h.out hb).mono ?_
  rintro _ W6 ⟨rfl, h1, b1⟩
  replace K := Lib.hid (blk_gb b1 K.out ne.out)
  replace KR := Lib.hid (blk_gb b1 KR.out neB.out)
  replace h := Lib.hid h1
  replace T := T.trans (two_gb b1 gf)
  replace hb := Nat.le_trans hb b1.size
  replace hs2 := Nat.le_trans hs2 b1.size
  clear h1 b1 N3
  go_simp
  refine wpSeq_yield (S := fun _ => True) (yieldsIf_assign rfl _ rfl (.int .u64 (z3 : Int)) rfl) trivial ?_
  simp only [AP]
  refine wpSeq_nil ?_
  refine aK _ _ ?_
  clear aK
  go_upto_region 4 with fail
  rename_i aK
  refine wp_region_seq ?_
  refine wpSeq_yield (S := fun _ => True) (v := .pointer (some ⟨W.heap.size, 0, none⟩)) (Or.inl ⟨by rfl, fun w' hw' => by go_simp⟩) trivial ?_
  simp only [AP]
  refine wpSeq_yield (S := fun w' => w' = W6) (v := .pointer p) (Or.inl ⟨by rfl, fun w' hw' => by (rw [hw']; have cc : W6.cell? ⟨W.heap.size, 0, none⟩ = some (.pointer p) := KR.out.cell 0; go_simp)⟩) rfl ?_
  simp only [AP]
  refine wpSeq_wp rfl ?_
  unfold Oper.wp execOp
  go_simp
  refine (N4.out _ h.out hb).mono ?_
  rintro _ W7 ⟨rfl, h1, b1⟩
  replace K := Lib.hid (blk_gb b1 K.out ne.out)
  replace KR := Lib.hid (blk_gb b1 KR.out neB.out)
  replace h := Lib.hid h1
  replace T := T.trans (two_gb b1 gf)
  replace hb := Nat.le_trans hb b1.size
  replace hs2 := Nat.le_trans hs2 b1.size
  clear h1 b1 N4
  go_simp
  refine wpSeq_yield (S := fun _ => True) (yieldsIf_assign rfl _ rfl (.int .u64 (z4 : Int)) rfl) trivial ?_
  simp only [AP]
  refine wpSeq_nil ?_
  refine aK _ _ ?_
  clear aK
  by_cases hbig : 31 < z3
  · have g32 : (32 : Int) ≤ (z3 : Int) := by omega
    have e5 : c5 = failS c4 7 := by
      rw [← HC5.out]
      exact if_pos hbig
    subst e5
    go_upto_region 5 with fail
    rename_i aK
    refine wp_region_seq ?_
    refine wpSeq_yield (S := fun _ => True) (yieldsIf_move rfl _ rfl (.int .u64 (z3 : Int)) rfl) trivial ?_
    simp only [AP]
    refine wpSeq_yield (S := fun _ => True) (v := .bool true) (Or.inl ⟨by rfl, fun w' hw' => by go_simp⟩) trivial ?_
    simp only [AP]
    refine wpSeq_nil ?_
    refine aK _ _ ?_
    clear aK
    go_upto_region 6 with fail
    rename_i aK _
    refine wp_region_seq ?_
    refine wpSeq_yield (S := fun _ => True) (v := .pointer (some ⟨W.heap.size, 0, none⟩)) (Or.inl ⟨by rfl, fun w' hw' => by go_simp⟩) trivial ?_
    simp only [AP]
    refine wpSeq_yield (S := fun w' => w' = W7) (v := .pointer p) (Or.inl ⟨by rfl, fun w' hw' => by (rw [hw']; have cc : W7.cell? ⟨W.heap.size, 0, none⟩ = some (.pointer p) := KR.out.cell 0; go_simp)⟩) rfl ?_
    simp only [AP]
    refine wpSeq_wp rfl ?_
    unfold Oper.wp execOp
    go_simp
    refine (FL.out _ h.out hb).mono ?_
    rintro _ W8 ⟨⟨v, rfl⟩, h1, b1⟩
    replace K := Lib.hid (blk_gb b1 K.out ne.out)
    replace KR := Lib.hid (blk_gb b1 KR.out neB.out)
    replace h := Lib.hid h1
    replace T := T.trans (two_gb b1 gf)
    replace hb := Nat.le_trans hb b1.size
    replace hs2 := Nat.le_trans hs2 b1.size
    clear h1 b1 FL
    go_simp
    refine wpSeq_nil ?_
    refine aK _ _ ?_
    clear aK
    go_upto_region 7 with fail
    rename_i aK
    refine wp_region_seq ?_
    refine wpSeq_yield (S := fun w' => w' = W8) (show YieldsIf _ _ _ _ (.agg #[.pointer p]) _ from yieldsIf_load_mid (S := fun w' => w' = W8) rfl 58 _ rfl W.heap.size 0 rfl [.pointer p] _ (fun _ h => h ▸ blk_range KR.out) Try.underlying58 rfl info_rd) rfl ?_
    simp only [AP]
    refine wpSeq_yield (S := fun _ => True) (yieldsIf_move rfl _ rfl (.int .u64 (z1 : Int)) rfl) trivial ?_
    simp only [AP]
    refine wpSeq_yield (S := fun _ => True) (yieldsIf_move rfl _ rfl (.int .u64 (z4 : Int)) rfl) trivial ?_
    simp only [AP]
    refine wpSeq_wp rfl ?_
    unfold Oper.wp execOp
    go_simp
    refine (LS.out _ h.out hb).mono ?_
    rintro _ W9 ⟨rfl, h1, b1⟩
    replace K := Lib.hid (blk_gb b1 K.out ne.out)
    replace KR := Lib.hid (blk_gb b1 KR.out neB.out)
    replace h := Lib.hid h1
    replace T := T.trans (two_gb b1 gf)
    replace hb := Nat.le_trans hb b1.size
    replace hs2 := Nat.le_trans hs2 b1.size
    clear h1 b1 LS
    go_simp
    refine wpSeq_yield (S := fun _ => True) (yieldsIf_assign rfl _ rfl (.int .u64 (lo : Int)) rfl) trivial ?_
    simp only [AP]
    refine wpSeq_nil ?_
    refine aK _ _ ?_
    clear aK
    obtain ⟨v7, W10, h7, O7, G7⟩ := append_span H W9 24 (.slice none 0 0) ([] : List (Nat × Nat)) lo z1 (OwS.nil H W9) (by decide) hs2
    have rw7 : ∀ g, (Value.slice none 0 0).ownBlock = some g → H ≤ g := fun g hg => (OwS.lt (OwS.nil H W9) g hg).1
    obtain ⟨p7, d7, hv7⟩ := O7.shape
    obtain ⟨n7, hn7⟩ : ∃ n, (([] : List (Nat × Nat)) ++ [(lo, z1)] : List (Nat × Nat)).length = n := ⟨_, rfl⟩
    rw [hn7] at hv7
    subst hv7
    clear hn7
    have K7 := blk_row G7 K.out (fun r hr => by have := rw7 r hr; have := hH0.out; have := glt.out; omega)
    have KR7 := blk_row G7 KR.out (fun r hr => by have := rw7 r hr; have := hH0.out; omega)
    have h77 := h.out.gb G7 (fun r hr => by have := rw7 r hr; have := hH0.out; have := hlt.out; omega)
    have T7 := T.gb G7 (fun r hr => by have := rw7 r hr; have := hH0.out; omega)
    have hb7 := Nat.le_trans hb G7.size
    have gs7 := G7.size
    go_upto_region 8 with fail
    rename_i aK
    refine wp_region_seq ?_
    refine wpSeq_yield (S := fun _ => True) (yieldsIf_move rfl _ rfl (.pointer (some ⟨gf, 0, none⟩)) rfl) trivial ?_
    simp only [AP]
    refine wpSeq_yield (S := fun _ => True) (yieldsIf_move rfl _ rfl (.pointer (some ⟨gf, 0, none⟩)) rfl) trivial ?_
    simp only [AP]
    refine wpSeq_yield (S := fun _ => True) (v := .pointer (some ⟨gf, 0, none⟩)) (Or.inl ⟨by rfl, fun w' hw' => by go_simp⟩) trivial ?_
    simp only [AP]
    refine wpSeq_yield (S := fun _ => True) (v := .pointer (some ⟨gf, 7, none⟩)) (Or.inl ⟨by rfl, fun w' hw' => by go_simp⟩) trivial ?_
    simp only [AP]
    refine wpSeq_yield (S := fun w' => w' = W9) (v := .slice none 0 0) (Or.inl ⟨by rfl, fun w' hw' => by (rw [hw']; have cc : W9.cell? ⟨gf, 7, none⟩ = some (.slice none 0 0) := K.out.cell 7; go_simp)⟩) rfl ?_
    simp only [AP]
    refine wpSeq_yield (S := fun _ => True) (yieldsIf_move rfl _ rfl (.int .u64 (lo : Int)) rfl) trivial ?_
    simp only [AP]
    refine wpSeq_yield (S := fun _ => True) (yieldsIf_move rfl _ rfl (.int .u64 (z1 : Int)) rfl) trivial ?_
    simp only [AP]
    refine wpSeq_yield (S := fun _ => True) (v := .agg #[.int .u64 (lo : Int), .int .u64 (z1 : Int)]) (Or.inl ⟨by rfl, fun w' hw' => by (go_simp)⟩) trivial ?_
    simp only [AP]
    refine wpSeq_wp rfl ?_
    unfold Oper.wp execOp
    go_simp
    refine wpSeq_wp rfl (wp_append_run _ _ _ _ rfl _ _ rfl rfl (.slice p7 n7 d7) W10 h7 ?_)
    simp only [AP]
    replace K := Lib.hid K7
    replace KR := Lib.hid KR7
    replace h := Lib.hid h77
    replace T := T7
    replace hb := hb7
    replace hs2 := Nat.le_trans hs2 gs7
    clear K7 KR7 h77 T7 hb7 h7 G7 rw7
    refine wpSeq_yield (S := fun _ => True) (v := .pointer (some ⟨gf, 0, none⟩)) (Or.inl ⟨by rfl, fun w' hw' => by go_simp⟩) trivial ?_
    simp only [AP]
    refine wpSeq_yield (S := fun _ => True) (v := .pointer (some ⟨gf, 7, none⟩)) (Or.inl ⟨by rfl, fun w' hw' => by go_simp⟩) trivial ?_
    simp only [AP]
    have cs : W10.cell? ⟨gf, 7, none⟩ = some (.slice none 0 0) := K.out.cell 7
    have fz := K.out.frozen 7
    refine wpSeq_wp rfl ?_
    unfold Oper.wp execOp
    go_simp
    have K2 : Blk (W10.setCell ⟨gf, 7, none⟩ (.slice p7 n7 d7)) gf 26 #[.int .u64 2, .int .u64 0, .int .u64 0, .int .u64 (z2 : Int), .int .u64 0, .bool false, .slice none 0 0, .slice p7 n7 d7] := K.out.set 7 _
    have h2 := RM.far h.out K.out ne.out (nu8_at rfl) 7 (.slice p7 n7 d7)
    have KR2 := KR.out.far (p := ⟨gf, 7, none⟩) neR.out (.slice p7 n7 d7)
    have T2 := T.trans (Two.set_y W10 7 (.slice p7 n7 d7))
    have O4 : OwS H (W10.setCell ⟨gf, 7, none⟩ (.slice p7 n7 d7)) (.slice p7 n7 d7) (([] : List (Nat × Nat)) ++ [(lo, z1)]) := O7.of_block fun g hg => Below.heap_setCell W10 _ _ g (by have := (O7.lt g hg).1; have := glt.out; have := hH0.out; show g ≠ gf; omega)
    clear O7
    replace K := Lib.hid K2
    replace h := Lib.hid h2
    replace KR := Lib.hid KR2
    replace T := T2
    replace hb := Nat.le_trans hb (Two.set_y (x := B) (y := gf) W10 7 (.slice p7 n7 d7)).size
    replace hs2 := Nat.le_trans hs2 (Two.set_y (x := B) (y := gf) W10 7 (.slice p7 n7 d7)).size
    clear cs fz K2 h2 KR2 T2
    generalize World.setCell _ _ _ = W11 at *
    refine wpSeq_nil ?_
    refine aK _ _ ?_
    clear aK
    go_upto_region 9 with fail
    go_loopw [5, 7] (fun mv lv wr => ∃ (m lo : Nat) (l : List Nat) (c : Nat) (acc : List (Nat × Nat)) (p8 : Option Addr) (n8 d8 : Nat), mv = .int .u64 (m : Int) ∧ lv = .int .u64 (lo : Int) ∧ moreS m lo l c acc = R ∧ (c = 0 → acc.length + m ≤ 33) ∧ lo < 4611686018427387904 ∧ RM B wr p l c ∧ Blk wr gf 26 #[.int .u64 2, .int .u64 0, .int .u64 0, .int .u64 (z2 : Int), .int .u64 0, .bool false, .slice none 0 0, .slice p8 n8 d8] ∧ OwS H wr (.slice p8 n8 d8) acc ∧ Blk wr W.heap.size 58 #[.pointer p] ∧ Two B gf W wr ∧ H ≤ wr.heap.size) (fun mv _ _ => (intOf mv).toNat)
    case atStart => exact ⟨z3, lo, l4, c6, _, p7, n7, d7, rfl, rfl, HR.out, fun h0 => by exact absurd h0 (BIG.out.1 hbig), BIG.out.2.1, h.out, K.out, O4, KR.out, T, hs2⟩
    case round =>
      clear h K O4 KR T hb hs2 HR HC5 BIG
      obtain ⟨m, lo, l, c, acc, p8, n8, d8, rfl, rfl, HR, IV, lob, h, K, OS, KR, T, hs2⟩ := hrel
      have HR := Lib.hid HR
      have IV := Lib.hid IV
      have hb : B ≤ wr.heap.size := by have := hlt.out; have := hH0.out; omega
      have CC := Lib.hid (code_m B p l c wr h hb)
      have xp : wr.cell? ⟨W.heap.size, 0, none⟩ = some (.pointer p) := KR.cell 0
      by_cases hm : m = 0
      · subst hm
        have er := Lib.hid (show (acc, l, c) = R from HR.out)
        have OS := Lib.hid OS
        replace h := Lib.hid h
        replace K := Lib.hid K
        clear HR IV CC KR lob
        go_upto_region 9 with fail
        rename_i aK
        refine wp_region_seq ?_
        refine wpSeq_yield (S := fun _ => True) (yieldsIf_move rfl _ rfl (.int .u64 0) rfl) trivial ?_
        simp only [AP]
        refine wpSeq_yield (S := fun _ => True) (v := .bool false) (Or.inl ⟨by rfl, fun w' hw' => by go_simp⟩) trivial ?_
        simp only [AP]
        refine wpSeq_yield (S := fun _ => True) (yieldsIf_move rfl _ rfl (.bool false) rfl) trivial ?_
        simp only [AP]
        refine wpSeq_yield (S := fun _ => True) (yieldsIf_off rfl) trivial ?_
        simp only [AP]
        refine wpSeq_yield (S := fun _ => True) (yieldsIf_off rfl) trivial ?_
        simp only [AP]
        refine wpSeq_yield (S := fun _ => True) (yieldsIf_off rfl) trivial ?_
        simp only [AP]
        refine wpSeq_yield (S := fun _ => True) (yieldsIf_off rfl) trivial ?_
        simp only [AP]
        refine wpSeq_yield (S := fun _ => True) (yieldsIf_pick rfl _ _ _ rfl false rfl (.bool false) rfl) trivial ?_
        simp only [AP]
        refine wpSeq_nil ?_
        refine aK _ _ ?_
        clear aK
        go_wp2
        refine bodyPost_end (results_none rfl _ _ _) rfl ?_
        rw [← er.out]
        exact ⟨⟨_, rfl⟩, ⟨_, K.out, OS.out.mono (by have := hH0.out; omega)⟩, h.out, T⟩
      · have gm : (0 : Int) < (m : Int) := by omega
        by_cases hc : c = 0
        · subst hc
          obtain ⟨k, hk⟩ : ∃ k, m = k + 1 := ⟨m - 1, by omega⟩
          have len8 := Lib.hid (show acc.length ≤ 1000 by have := IV.out rfl; omega)
          have wk : IntKind.u64.wrap ((m : Int) - 1) = (k : Int) := by rw [IntKind.wrap_u64]; have := IV.out rfl; omega
          have G1 := numS_lt l 0 (rm_bytes h)
          replace HR : moreS (k + 1) lo l 0 acc = R := hk ▸ HR.out
          unfold moreS at HR
          rw [if_neg (by decide)] at HR
          have N1 := Lib.hid (fun w h hB => num_m B p l 0 w h hB)
          obtain ⟨g1, l1, c1, hz1⟩ : ∃ z l1 c1, numS l 0 = (z, l1, c1) := ⟨_, _, _, rfl⟩
          rw [hz1] at HR N1 G1
          dsimp only at HR N1 G1
          obtain ⟨s1, hs1⟩ : ∃ s, g1 + 2 = s := ⟨_, rfl⟩
          have ws : IntKind.u64.wrap ((g1 : Int) + 2) = (s1 : Int) := by rw [IntKind.wrap_u64]; omega
          rw [hs1] at HR
          have L1 := Lib.hid (fun w h hB => less_m B p l1 lo s1 c1 (by omega) w h hB)
          have le1 := lessS_le lo s1 c1
          obtain ⟨h1, c2, hl1⟩ : ∃ a b, lessS lo s1 c1 = (a, b) := ⟨_, _, rfl⟩
          rw [hl1] at HR L1 le1
          dsimp only at HR L1 le1
          have N2 := Lib.hid (fun w h hB => num_m B p l1 c2 w h hB)
          obtain ⟨e1, l2, c3, hz2⟩ : ∃ z la ca, numS l1 c2 = (z, la, ca) := ⟨_, _, _, rfl⟩
          rw [hz2] at HR N2
          dsimp only at HR N2
          have L2 := Lib.hid (fun w h hB => less_m B p l2 h1 e1 c3 (by omega) w h hB)
          have le2 := lessS_le h1 e1 c3
          obtain ⟨o1, c4, hl2⟩ : ∃ a b, lessS h1 e1 c3 = (a, b) := ⟨_, _, rfl⟩
          rw [hl2] at HR L2 le2
          dsimp only at HR L2 le2
          have KEEP := Lib.hid (show o1 < 4611686018427387904 ∧ (acc ++ [(o1, h1)]).length + k ≤ 33 by
            have := IV.out rfl
            rw [List.length_append]
            simp only [List.length_cons, List.length_nil]
            omega)
          replace HR := Lib.hid HR
          have HK := Lib.hid hk
          clear hz1 hz2 hl1 hl2 hs1 le1 le2 G1 hk hm IV lob
          replace h := Lib.hid h
          replace K := Lib.hid K
          replace KR := Lib.hid KR
          go_upto_region 9 with fail
          rename_i aK
          refine wp_region_seq ?_
          refine wpSeq_yield (S := fun _ => True) (yieldsIf_move rfl _ rfl (.int .u64 (m : Int)) rfl) trivial ?_
          simp only [AP]
          refine wpSeq_yield (S := fun _ => True) (v := .bool true) (Or.inl ⟨by rfl, fun w' hw' => by (go_simp; try omega)⟩) trivial ?_
          simp only [AP]
          refine wpSeq_yield (S := fun _ => True) (yieldsIf_move rfl _ rfl (.bool true) rfl) trivial ?_
          simp only [AP]
          refine wpSeq_yield (S := fun _ => True) (v := .pointer (some ⟨W.heap.size, 0, none⟩)) (Or.inl ⟨by rfl, fun w' hw' => by go_simp⟩) trivial ?_
          simp only [AP]
          refine wpSeq_yield (S := fun w' => w' = wr) (v := .pointer p) (Or.inl ⟨by rfl, fun w' hw' => by (rw [hw']; go_simp)⟩) rfl ?_
          simp only [AP]
          refine wpSeq_wp rfl ?_
          unfold Oper.wp execOp
          go_simp
          refine CC.out.mono ?_
          rintro _ W31 ⟨rfl, h1, b1⟩
          replace K := Lib.hid (blk_gb b1 K.out ne.out)
          replace KR := Lib.hid (blk_gb b1 KR.out neB.out)
          replace h := Lib.hid h1
          replace T := T.trans (two_gb b1 gf)
          replace hb := Nat.le_trans hb b1.size
          replace hs2 := Nat.le_trans hs2 b1.size
          replace OS := OwS.of_block OS fun g hg => b1.block g (OwS.lt OS g hg).2 (fun e => by have := (OwS.lt OS g hg).1; have := Option.some.inj e; have := hH0.out; have := hlt.out; omega)
          clear h1 b1 CC xp
          go_simp
          refine wpSeq_yield (S := fun _ => True) (v := .bool true) (Or.inl ⟨by rfl, fun w' hw' => by go_simp⟩) trivial ?_
          simp only [AP]
          refine wpSeq_yield (S := fun _ => True) (yieldsIf_pick rfl _ _ _ rfl true rfl (.bool true) rfl) trivial ?_
          simp only [AP]
          refine wpSeq_nil ?_
          refine aK _ _ ?_
          clear aK
          go_upto_region 11 with fail
          rename_i aK
          refine wp_region_S (S := fun w' => Blk w' W.heap.size 58 #[.pointer p]) (by kernel_rfl) ?_
          have bd := fun {w0 : World} => below_drew (Below.refl w0.heap.size w0)
          replace h := Lib.hid (h.out.below bd)
          replace K := Lib.hid (K.out.drew)
          have hS := KR.out.drew
          replace T := T.trans (Two.of bd)
          replace OS := OwS.below OS bd
          clear bd KR
          replace hb := (show B ≤ W31.drew.heap.size from hb)
          replace hs2 := (show H ≤ W31.drew.heap.size from hs2)
          generalize World.drew _ = W32 at *
          refine wpAnyS_takeL 0 (v := .agg #[.pointer p]) rfl (by kernel_rfl) (by kernel_rfl) (by kernel_rfl) (fun _ _ _ H => H) (show YieldsIf _ _ _ _ (.agg #[.pointer p]) _ from yieldsIf_load_mid rfl 58 _ rfl W.heap.size 0 rfl [.pointer p] _ (fun _ h => blk_range h) Try.underlying58 rfl info_rd) hS ?_
          simp only [AP]
          refine wpAnyS_takeL 1 (v := .int .u64 (lo : Int)) rfl (by kernel_rfl) (by kernel_rfl) (by kernel_rfl) (fun _ _ _ H => H) (yieldsIf_move rfl _ rfl (.int .u64 (lo : Int)) rfl) hS ?_
          simp only [AP]
          refine wpAnyS_takeL 2 (v := .pointer (some ⟨W.heap.size, 0, none⟩)) rfl (by kernel_rfl) (by kernel_rfl) (by kernel_rfl) (fun _ _ _ H => H) (Or.inl ⟨by rfl, fun w' hw' => by go_simp⟩) hS ?_
          simp only [AP]
          refine wpAnyS_takeL 3 (v := .pointer p) rfl (by kernel_rfl) (by kernel_rfl) (by kernel_rfl) (fun _ _ _ H => H) (Or.inl ⟨by rfl, fun w' hw' => by (have cc := (show Blk w' W.heap.size 58 #[.pointer p] from hw').cell 0; rw [show (#[.pointer p] : Array Value)[0]? = some (.pointer p) from rfl] at cc; go_simp)⟩) hS ?_
          simp only [AP]
          refine gstep 4 rfl rfl (by kernel_rfl) ?_
          unfold Oper.wp execOp
          go_simp
          refine (N1.out _ h.out hb).mono ?_
          rintro _ W33 ⟨rfl, h1, b1⟩
          replace K := Lib.hid (blk_gb b1 K.out ne.out)
          replace hS := blk_gb b1 hS neB.out
          replace h := Lib.hid h1
          replace T := T.trans (two_gb b1 gf)
          replace hb := Nat.le_trans hb b1.size
          replace hs2 := Nat.le_trans hs2 b1.size
          replace OS := OwS.of_block OS fun g hg => b1.block g (OwS.lt OS g hg).2 (fun e => by have := (OwS.lt OS g hg).1; have := Option.some.inj e; have := hH0.out; have := hlt.out; omega)
          clear h1 b1 N1
          refine ⟨hS, ?_⟩
          refine wpAnyS_takeL 5 (v := .int .u64 (s1 : Int)) rfl (by kernel_rfl) (by kernel_rfl) (by kernel_rfl) (fun _ _ _ H => H) (Or.inl ⟨by rfl, fun w' hw' => by go_simp⟩) hS ?_
          simp only [AP]
          refine gstep 6 rfl rfl (by kernel_rfl) ?_
          unfold Oper.wp execOp
          go_simp
          refine (L1.out _ h.out hb).mono ?_
          rintro _ W34 ⟨rfl, h1, b1⟩
          replace K := Lib.hid (blk_gb b1 K.out ne.out)
          replace hS := blk_gb b1 hS neB.out
          replace h := Lib.hid h1
          replace T := T.trans (two_gb b1 gf)
          replace hb := Nat.le_trans hb b1.size
          replace hs2 := Nat.le_trans hs2 b1.size
          replace OS := OwS.of_block OS fun g hg => b1.block g (OwS.lt OS g hg).2 (fun e => by have := (OwS.lt OS g hg).1; have := Option.some.inj e; have := hH0.out; have := hlt.out; omega)
          clear h1 b1 L1
          refine ⟨hS, ?_⟩
          refine wpAnyS_takeL 7 (v := .int .u64 (h1 : Int)) rfl (by kernel_rfl) (by kernel_rfl) (by kernel_rfl) (fun _ _ _ H => H) (yieldsIf_assign rfl _ rfl (.int .u64 (h1 : Int)) rfl) hS ?_
          simp only [AP]
          have KR := Lib.hid hS
          refine wpAnyS_done (by kernel_rfl) ?_ _
          refine aK _ _ ?_
          clear aK hS
          go_upto_region 12 with fail
          rename_i aK
          refine wp_region_S (S := fun w' => Blk w' W.heap.size 58 #[.pointer p]) (by kernel_rfl) ?_
          have bd := fun {w0 : World} => below_drew (Below.refl w0.heap.size w0)
          replace h := Lib.hid (h.out.below bd)
          replace K := Lib.hid (K.out.drew)
          have hS := KR.out.drew
          replace T := T.trans (Two.of bd)
          replace OS := OwS.below OS bd
          clear bd KR
          replace hb := (show B ≤ W34.drew.heap.size from hb)
          replace hs2 := (show H ≤ W34.drew.heap.size from hs2)
          generalize World.drew _ = W35 at *
          refine wpAnyS_takeL 0 (v := .agg #[.pointer p]) rfl (by kernel_rfl) (by kernel_rfl) (by kernel_rfl) (fun _ _ _ H => H) (show YieldsIf _ _ _ _ (.agg #[.pointer p]) _ from yieldsIf_load_mid rfl 58 _ rfl W.heap.size 0 rfl [.pointer p] _ (fun _ h => blk_range h) Try.underlying58 rfl info_rd) hS ?_
          simp only [AP]
          refine wpAnyS_takeL 1 (v := .int .u64 (h1 : Int)) rfl (by kernel_rfl) (by kernel_rfl) (by kernel_rfl) (fun _ _ _ H => H) (yieldsIf_move rfl _ rfl (.int .u64 (h1 : Int)) rfl) hS ?_
          simp only [AP]
          refine wpAnyS_takeL 2 (v := .pointer (some ⟨W.heap.size, 0, none⟩)) rfl (by kernel_rfl) (by kernel_rfl) (by kernel_rfl) (fun _ _ _ H => H) (Or.inl ⟨by rfl, fun w' hw' => by go_simp⟩) hS ?_
          simp only [AP]
          refine wpAnyS_takeL 3 (v := .pointer p) rfl (by kernel_rfl) (by kernel_rfl) (by kernel_rfl) (fun _ _ _ H => H) (Or.inl ⟨by rfl, fun w' hw' => by (have cc := (show Blk w' W.heap.size 58 #[.pointer p] from hw').cell 0; rw [show (#[.pointer p] : Array Value)[0]? = some (.pointer p) from rfl] at cc; go_simp)⟩) hS ?_
          simp only [AP]
          refine gstep 4 rfl rfl (by kernel_rfl) ?_
          unfold Oper.wp execOp
          go_simp
          refine (N2.out _ h.out hb).mono ?_
          rintro _ W36 ⟨rfl, h1, b1⟩
          replace K := Lib.hid (blk_gb b1 K.out ne.out)
          replace hS := blk_gb b1 hS neB.out
          replace h := Lib.hid h1
          replace T := T.trans (two_gb b1 gf)
          replace hb := Nat.le_trans hb b1.size
          replace hs2 := Nat.le_trans hs2 b1.size
          replace OS := OwS.of_block OS fun g hg => b1.block g (OwS.lt OS g hg).2 (fun e => by have := (OwS.lt OS g hg).1; have := Option.some.inj e; have := hH0.out; have := hlt.out; omega)
          clear h1 b1 N2
          refine ⟨hS, ?_⟩
          refine gstep 5 rfl rfl (by kernel_rfl) ?_
          unfold Oper.wp execOp
          go_simp
          refine (L2.out _ h.out hb).mono ?_
          rintro _ W37 ⟨rfl, h1, b1⟩
          replace K := Lib.hid (blk_gb b1 K.out ne.out)
          replace hS := blk_gb b1 hS neB.out
          replace h := Lib.hid h1
          replace T := T.trans (two_gb b1 gf)
          replace hb := Nat.le_trans hb b1.size
          replace hs2 := Nat.le_trans hs2 b1.size
          replace OS := OwS.of_block OS fun g hg => b1.block g (OwS.lt OS g hg).2 (fun e => by have := (OwS.lt OS g hg).1; have := Option.some.inj e; have := hH0.out; have := hlt.out; omega)
          clear h1 b1 L2
          refine ⟨hS, ?_⟩
          refine wpAnyS_takeL 6 (v := .int .u64 (o1 : Int)) rfl (by kernel_rfl) (by kernel_rfl) (by kernel_rfl) (fun _ _ _ H => H) (yieldsIf_assign rfl _ rfl (.int .u64 (o1 : Int)) rfl) hS ?_
          simp only [AP]
          have KR := Lib.hid hS
          refine wpAnyS_done (by kernel_rfl) ?_ _
          refine aK _ _ ?_
          clear aK hS
          obtain ⟨v7, W38, h7, O7, G7⟩ := append_span H W37 24 (.slice p8 n8 d8) acc o1 h1 OS len8.out hs2
          have rw7 : ∀ g, (Value.slice p8 n8 d8).ownBlock = some g → H ≤ g := fun g hg => (OwS.lt OS g hg).1
          obtain ⟨p7, d7, hv7⟩ := O7.shape
          obtain ⟨n7, hn7⟩ : ∃ n, (acc ++ [(o1, h1)] : List (Nat × Nat)).length = n := ⟨_, rfl⟩
          rw [hn7] at hv7
          subst hv7
          clear hn7
          have K7 := blk_row G7 K.out (fun r hr => by have := rw7 r hr; have := hH0.out; have := glt.out; omega)
          have KR7 := blk_row G7 KR.out (fun r hr => by have := rw7 r hr; have := hH0.out; omega)
          have h77 := h.out.gb G7 (fun r hr => by have := rw7 r hr; have := hH0.out; have := hlt.out; omega)
          have T7 := T.gb G7 (fun r hr => by have := rw7 r hr; have := hH0.out; omega)
          have hb7 := Nat.le_trans hb G7.size
          have gs7 := G7.size
          go_upto_region 13 with fail
          rename_i aK
          refine wp_region_seq ?_
          refine wpSeq_yield (S := fun _ => True) (yieldsIf_move rfl _ rfl (.pointer (some ⟨gf, 0, none⟩)) rfl) trivial ?_
          simp only [AP]
          refine wpSeq_yield (S := fun _ => True) (yieldsIf_move rfl _ rfl (.pointer (some ⟨gf, 0, none⟩)) rfl) trivial ?_
          simp only [AP]
          refine wpSeq_yield (S := fun _ => True) (v := .pointer (some ⟨gf, 0, none⟩)) (Or.inl ⟨by rfl, fun w' hw' => by go_simp⟩) trivial ?_
          simp only [AP]
          refine wpSeq_yield (S := fun _ => True) (v := .pointer (some ⟨gf, 7, none⟩)) (Or.inl ⟨by rfl, fun w' hw' => by go_simp⟩) trivial ?_
          simp only [AP]
          refine wpSeq_yield (S := fun w' => w' = W37) (v := .slice p8 n8 d8) (Or.inl ⟨by rfl, fun w' hw' => by (rw [hw']; have cc : W37.cell? ⟨gf, 7, none⟩ = some (.slice p8 n8 d8) := K.out.cell 7; go_simp)⟩) rfl ?_
          simp only [AP]
          refine wpSeq_yield (S := fun _ => True) (yieldsIf_move rfl _ rfl (.int .u64 (o1 : Int)) rfl) trivial ?_
          simp only [AP]
          refine wpSeq_yield (S := fun _ => True) (yieldsIf_move rfl _ rfl (.int .u64 (h1 : Int)) rfl) trivial ?_
          simp only [AP]
          refine wpSeq_yield (S := fun _ => True) (v := .agg #[.int .u64 (o1 : Int), .int .u64 (h1 : Int)]) (Or.inl ⟨by rfl, fun w' hw' => by (go_simp)⟩) trivial ?_
          simp only [AP]
          refine wpSeq_wp rfl ?_
          unfold Oper.wp execOp
          go_simp
          refine wpSeq_wp rfl (wp_append_run _ _ _ _ rfl _ _ rfl rfl (.slice p7 n7 d7) W38 h7 ?_)
          simp only [AP]
          replace K := Lib.hid K7
          replace KR := Lib.hid KR7
          replace h := Lib.hid h77
          replace T := T7
          replace hb := hb7
          replace hs2 := Nat.le_trans hs2 gs7
          clear K7 KR7 h77 T7 hb7 h7 G7 rw7
          refine wpSeq_yield (S := fun _ => True) (v := .pointer (some ⟨gf, 0, none⟩)) (Or.inl ⟨by rfl, fun w' hw' => by go_simp⟩) trivial ?_
          simp only [AP]
          refine wpSeq_yield (S := fun _ => True) (v := .pointer (some ⟨gf, 7, none⟩)) (Or.inl ⟨by rfl, fun w' hw' => by go_simp⟩) trivial ?_
          simp only [AP]
          have cs : W38.cell? ⟨gf, 7, none⟩ = some (.slice p8 n8 d8) := K.out.cell 7
          have fz := K.out.frozen 7
          refine wpSeq_wp rfl ?_
          unfold Oper.wp execOp
          go_simp
          have K2 : Blk (W38.setCell ⟨gf, 7, none⟩ (.slice p7 n7 d7)) gf 26 #[.int .u64 2, .int .u64 0, .int .u64 0, .int .u64 (z2 : Int), .int .u64 0, .bool false, .slice none 0 0, .slice p7 n7 d7] := K.out.set 7 _
          have h2 := RM.far h.out K.out ne.out (nu8_at rfl) 7 (.slice p7 n7 d7)
          have KR2 := KR.out.far (p := ⟨gf, 7, none⟩) neR.out (.slice p7 n7 d7)
          have T2 := T.trans (Two.set_y W38 7 (.slice p7 n7 d7))
          have O4 : OwS H (W38.setCell ⟨gf, 7, none⟩ (.slice p7 n7 d7)) (.slice p7 n7 d7) (acc ++ [(o1, h1)]) := O7.of_block fun g hg => Below.heap_setCell W38 _ _ g (by have := (O7.lt g hg).1; have := glt.out; have := hH0.out; show g ≠ gf; omega)
          clear O7
          replace K := Lib.hid K2
          replace h := Lib.hid h2
          replace KR := Lib.hid KR2
          replace T := T2
          replace hb := Nat.le_trans hb (Two.set_y (x := B) (y := gf) W38 7 (.slice p7 n7 d7)).size
          replace hs2 := Nat.le_trans hs2 (Two.set_y (x := B) (y := gf) W38 7 (.slice p7 n7 d7)).size
          clear cs fz K2 h2 KR2 T2
          generalize World.setCell _ _ _ = W39 at *
          refine wpSeq_nil ?_
          go_wp2
          exact ⟨⟨k, o1, l2, c4, _, p7, n7, d7, rfl, rfl, HR.out, fun _ => KEEP.out.2, KEEP.out.1, h.out, K.out, O4, KR.out, T, hs2⟩, by simp only [intOf]; have := HK.out; omega⟩
        · have er := Lib.hid (show (acc, l, c) = R by
            have := HR.out
            obtain ⟨k, rfl⟩ : ∃ k, m = k + 1 := ⟨m - 1, by omega⟩
            unfold moreS at this
            rwa [if_pos hc] at this)
          have gc : ((c : Int) == 0) = false := beq_eq_false_iff_ne.2 (by omega)
          have OS := Lib.hid OS
          replace h := Lib.hid h
          replace K := Lib.hid K
          clear HR IV lob hm
          go_upto_region 9 with fail
          rename_i aK
          refine wp_region_seq ?_
          refine wpSeq_yield (S := fun _ => True) (yieldsIf_move rfl _ rfl (.int .u64 (m : Int)) rfl) trivial ?_
          simp only [AP]
          refine wpSeq_yield (S := fun _ => True) (v := .bool true) (Or.inl ⟨by rfl, fun w' hw' => by (go_simp; try omega)⟩) trivial ?_
          simp only [AP]
          refine wpSeq_yield (S := fun _ => True) (yieldsIf_move rfl _ rfl (.bool true) rfl) trivial ?_
          simp only [AP]
          refine wpSeq_yield (S := fun _ => True) (v := .pointer (some ⟨W.heap.size, 0, none⟩)) (Or.inl ⟨by rfl, fun w' hw' => by go_simp⟩) trivial ?_
          simp only [AP]
          refine wpSeq_yield (S := fun w' => w' = wr) (v := .pointer p) (Or.inl ⟨by rfl, fun w' hw' => by (rw [hw']; go_simp)⟩) rfl ?_
          simp only [AP]
          refine wpSeq_wp rfl ?_
          unfold Oper.wp execOp
          go_simp
          refine CC.out.mono ?_
          rintro _ W31 ⟨rfl, h1, b1⟩
          replace K := Lib.hid (blk_gb b1 K.out ne.out)
          replace h := Lib.hid h1
          replace T := T.trans (two_gb b1 gf)
          have OS2 := OwS.of_block OS.out fun g hg => b1.block g (OwS.lt OS.out g hg).2 (fun e => by have := (OwS.lt OS.out g hg).1; have := Option.some.inj e; have := hH0.out; have := hlt.out; omega)
          clear h1 b1 CC xp
          go_simp
          refine wpSeq_yield (S := fun _ => True) (v := .bool false) (Or.inl ⟨by rfl, fun w' hw' => by (go_simp; try omega)⟩) trivial ?_
          simp only [AP]
          refine wpSeq_yield (S := fun _ => True) (yieldsIf_pick rfl _ _ _ rfl true rfl (.bool false) rfl) trivial ?_
          simp only [AP]
          refine wpSeq_nil ?_
          refine aK _ _ ?_
          clear aK
          go_wp2
          refine bodyPost_end (results_none rfl _ _ _) rfl ?_
          rw [← er.out]
          exact ⟨⟨_, rfl⟩, ⟨_, K.out, OS2.mono (by have := hH0.out; omega)⟩, h.out, T⟩
  · have g32 : ¬ (32 : Int) ≤ (z3 : Int) := by omega
    have e5 : c5 = c4 := by
      rw [← HC5.out]
      exact if_neg hbig
    subst e5
    go_upto_region 5 with fail
    rename_i aK
    refine wp_region_seq ?_
    refine wpSeq_yield (S := fun _ => True) (yieldsIf_move rfl _ rfl (.int .u64 (z3 : Int)) rfl) trivial ?_
    simp only [AP]
    refine wpSeq_yield (S := fun _ => True) (v := .bool false) (Or.inl ⟨by rfl, fun w' hw' => by go_simp⟩) trivial ?_
    simp only [AP]
    refine wpSeq_nil ?_
    refine aK _ _ ?_
    clear aK
    go_upto_region 7 with fail
    rename_i aK
    refine wp_region_seq ?_
    refine wpSeq_yield (S := fun w' => w' = W7) (show YieldsIf _ _ _ _ (.agg #[.pointer p]) _ from yieldsIf_load_mid (S := fun w' => w' = W7) rfl 58 _ rfl W.heap.size 0 rfl [.pointer p] _ (fun _ h => h ▸ blk_range KR.out) Try.underlying58 rfl info_rd) rfl ?_
    simp only [AP]
    refine wpSeq_yield (S := fun _ => True) (yieldsIf_move rfl _ rfl (.int .u64 (z1 : Int)) rfl) trivial ?_
    simp only [AP]
    refine wpSeq_yield (S := fun _ => True) (yieldsIf_move rfl _ rfl (.int .u64 (z4 : Int)) rfl) trivial ?_
    simp only [AP]
    refine wpSeq_wp rfl ?_
    unfold Oper.wp execOp
    go_simp
    refine (LS.out _ h.out hb).mono ?_
    rintro _ W8 ⟨rfl, h1, b1⟩
    replace K := Lib.hid (blk_gb b1 K.out ne.out)
    replace KR := Lib.hid (blk_gb b1 KR.out neB.out)
    replace h := Lib.hid h1
    replace T := T.trans (two_gb b1 gf)
    replace hb := Nat.le_trans hb b1.size
    replace hs2 := Nat.le_trans hs2 b1.size
    clear h1 b1 LS
    go_simp
    refine wpSeq_yield (S := fun _ => True) (yieldsIf_assign rfl _ rfl (.int .u64 (lo : Int)) rfl) trivial ?_
    simp only [AP]
    refine wpSeq_nil ?_
    refine aK _ _ ?_
    clear aK
    obtain ⟨v7, W9, h7, O7, G7⟩ := append_span H W8 24 (.slice none 0 0) ([] : List (Nat × Nat)) lo z1 (OwS.nil H W8) (by decide) hs2
    have rw7 : ∀ g, (Value.slice none 0 0).ownBlock = some g → H ≤ g := fun g hg => (OwS.lt (OwS.nil H W8) g hg).1
    obtain ⟨p7, d7, hv7⟩ := O7.shape
    obtain ⟨n7, hn7⟩ : ∃ n, (([] : List (Nat × Nat)) ++ [(lo, z1)] : List (Nat × Nat)).length = n := ⟨_, rfl⟩
    rw [hn7] at hv7
    subst hv7
    clear hn7
    have K7 := blk_row G7 K.out (fun r hr => by have := rw7 r hr; have := hH0.out; have := glt.out; omega)
    have KR7 := blk_row G7 KR.out (fun r hr => by have := rw7 r hr; have := hH0.out; omega)
    have h77 := h.out.gb G7 (fun r hr => by have := rw7 r hr; have := hH0.out; have := hlt.out; omega)
    have T7 := T.gb G7 (fun r hr => by have := rw7 r hr; have := hH0.out; omega)
    have hb7 := Nat.le_trans hb G7.size
    have gs7 := G7.size
    go_upto_region 8 with fail
    rename_i aK
    refine wp_region_seq ?_
    refine wpSeq_yield (S := fun _ => True) (yieldsIf_move rfl _ rfl (.pointer (some ⟨gf, 0, none⟩)) rfl) trivial ?_
    simp only [AP]
    refine wpSeq_yield (S := fun _ => True) (yieldsIf_move rfl _ rfl (.pointer (some ⟨gf, 0, none⟩)) rfl) trivial ?_
    simp only [AP]
    refine wpSeq_yield (S := fun _ => True) (v := .pointer (some ⟨gf, 0, none⟩)) (Or.inl ⟨by rfl, fun w' hw' => by go_simp⟩) trivial ?_
    simp only [AP]
    refine wpSeq_yield (S := fun _ => True) (v := .pointer (some ⟨gf, 7, none⟩)) (Or.inl ⟨by rfl, fun w' hw' => by go_simp⟩) trivial ?_
    simp only [AP]
    refine wpSeq_yield (S := fun w' => w' = W8) (v := .slice none 0 0) (Or.inl ⟨by rfl, fun w' hw' => by (rw [hw']; have cc : W8.cell? ⟨gf, 7, none⟩ = some (.slice none 0 0) := K.out.cell 7; go_simp)⟩) rfl ?_
    simp only [AP]
    refine wpSeq_yield (S := fun _ => True) (yieldsIf_move rfl _ rfl (.int .u64 (lo : Int)) rfl) trivial ?_
    simp only [AP]
    refine wpSeq_yield (S := fun _ => True) (yieldsIf_move rfl _ rfl (.int .u64 (z1 : Int)) rfl) trivial ?_
    simp only [AP]
    refine wpSeq_yield (S := fun _ => True) (v := .agg #[.int .u64 (lo : Int), .int .u64 (z1 : Int)]) (Or.inl ⟨by rfl, fun w' hw' => by (go_simp)⟩) trivial ?_
    simp only [AP]
    refine wpSeq_wp rfl ?_
    unfold Oper.wp execOp
    go_simp
    refine wpSeq_wp rfl (wp_append_run _ _ _ _ rfl _ _ rfl rfl (.slice p7 n7 d7) W9 h7 ?_)
    simp only [AP]
    replace K := Lib.hid K7
    replace KR := Lib.hid KR7
    replace h := Lib.hid h77
    replace T := T7
    replace hb := hb7
    replace hs2 := Nat.le_trans hs2 gs7
    clear K7 KR7 h77 T7 hb7 h7 G7 rw7
    refine wpSeq_yield (S := fun _ => True) (v := .pointer (some ⟨gf, 0, none⟩)) (Or.inl ⟨by rfl, fun w' hw' => by go_simp⟩) trivial ?_
    simp only [AP]
    refine wpSeq_yield (S := fun _ => True) (v := .pointer (some ⟨gf, 7, none⟩)) (Or.inl ⟨by rfl, fun w' hw' => by go_simp⟩) trivial ?_
    simp only [AP]
    have cs : W9.cell? ⟨gf, 7, none⟩ = some (.slice none 0 0) := K.out.cell 7
    have fz := K.out.frozen 7
    refine wpSeq_wp rfl ?_
    unfold Oper.wp execOp
    go_simp
    have K2 : Blk (W9.setCell ⟨gf, 7, none⟩ (.slice p7 n7 d7)) gf 26 #[.int .u64 2, .int .u64 0, .int .u64 0, .int .u64 (z2 : Int), .int .u64 0, .bool false, .slice none 0 0, .slice p7 n7 d7] := K.out.set 7 _
    have h2 := RM.far h.out K.out ne.out (nu8_at rfl) 7 (.slice p7 n7 d7)
    have KR2 := KR.out.far (p := ⟨gf, 7, none⟩) neR.out (.slice p7 n7 d7)
    have T2 := T.trans (Two.set_y W9 7 (.slice p7 n7 d7))
    have O4 : OwS H (W9.setCell ⟨gf, 7, none⟩ (.slice p7 n7 d7)) (.slice p7 n7 d7) (([] : List (Nat × Nat)) ++ [(lo, z1)]) := O7.of_block fun g hg => Below.heap_setCell W9 _ _ g (by have := (O7.lt g hg).1; have := glt.out; have := hH0.out; show g ≠ gf; omega)
    clear O7
    replace K := Lib.hid K2
    replace h := Lib.hid h2
    replace KR := Lib.hid KR2
    replace T := T2
    replace hb := Nat.le_trans hb (Two.set_y (x := B) (y := gf) W9 7 (.slice p7 n7 d7)).size
    replace hs2 := Nat.le_trans hs2 (Two.set_y (x := B) (y := gf) W9 7 (.slice p7 n7 d7)).size
    clear cs fz K2 h2 KR2 T2
    generalize World.setCell _ _ _ = W10 at *
    refine wpSeq_nil ?_
    refine aK _ _ ?_
    clear aK
    go_upto_region 9 with fail
    go_loopw [5, 7] (fun mv lv wr => ∃ (m lo : Nat) (l : List Nat) (c : Nat) (acc : List (Nat × Nat)) (p8 : Option Addr) (n8 d8 : Nat), mv = .int .u64 (m : Int) ∧ lv = .int .u64 (lo : Int) ∧ moreS m lo l c acc = R ∧ (c = 0 → acc.length + m ≤ 33) ∧ lo < 4611686018427387904 ∧ RM B wr p l c ∧ Blk wr gf 26 #[.int .u64 2, .int .u64 0, .int .u64 0, .int .u64 (z2 : Int), .int .u64 0, .bool false, .slice none 0 0, .slice p8 n8 d8] ∧ OwS H wr (.slice p8 n8 d8) acc ∧ Blk wr W.heap.size 58 #[.pointer p] ∧ Two B gf W wr ∧ H ≤ wr.heap.size) (fun mv _ _ => (intOf mv).toNat)
    case atStart => exact ⟨z3, lo, l4, c6, _, p7, n7, d7, rfl, rfl, HR.out, fun h0 => by simp only [List.length_cons, List.length_nil]; omega, BIG.out.2.1, h.out, K.out, O4, KR.out, T, hs2⟩
    case round =>
      clear h K O4 KR T hb hs2 HR HC5 BIG
      obtain ⟨m, lo, l, c, acc, p8, n8, d8, rfl, rfl, HR, IV, lob, h, K, OS, KR, T, hs2⟩ := hrel
      have HR := Lib.hid HR
      have IV := Lib.hid IV
      have hb : B ≤ wr.heap.size := by have := hlt.out; have := hH0.out; omega
      have CC := Lib.hid (code_m B p l c wr h hb)
      have xp : wr.cell? ⟨W.heap.size, 0, none⟩ = some (.pointer p) := KR.cell 0
      by_cases hm : m = 0
      · subst hm
        have er := Lib.hid (show (acc, l, c) = R from HR.out)
        have OS := Lib.hid OS
        replace h := Lib.hid h
        replace K := Lib.hid K
        clear HR IV CC KR lob
        go_upto_region 9 with fail
        rename_i aK
        refine wp_region_seq ?_
        refine wpSeq_yield (S := fun _ => True) (yieldsIf_move rfl _ rfl (.int .u64 0) rfl) trivial ?_
        simp only [AP]
        refine wpSeq_yield (S := fun _ => True) (v := .bool false) (Or.inl ⟨by rfl, fun w' hw' => by go_simp⟩) trivial ?_
        simp only [AP]
        refine wpSeq_yield (S := fun _ => True) (yieldsIf_move rfl _ rfl (.bool false) rfl) trivial ?_
        simp only [AP]
        refine wpSeq_yield (S := fun _ => True) (yieldsIf_off rfl) trivial ?_
        simp only [AP]
        refine wpSeq_yield (S := fun _ => True) (yieldsIf_off rfl) trivial ?_
        simp only [AP]
        refine wpSeq_yield (S := fun _ => True) (yieldsIf_off rfl) trivial ?_
        simp only [AP]
        refine wpSeq_yield (S := fun _ => True) (yieldsIf_off rfl) trivial ?_
        simp only [AP]
        refine wpSeq_yield (S := fun _ => True) (yieldsIf_pick rfl _ _ _ rfl false rfl (.bool false) rfl) trivial ?_
        simp only [AP]
        refine wpSeq_nil ?_
        refine aK _ _ ?_
        clear aK
        go_wp2
        refine bodyPost_end (results_none rfl _ _ _) rfl ?_
        rw [← er.out]
        exact ⟨⟨_, rfl⟩, ⟨_, K.out, OS.out.mono (by have := hH0.out; omega)⟩, h.out, T⟩
      · have gm : (0 : Int) < (m : Int) := by omega
        by_cases hc : c = 0
        · subst hc
          obtain ⟨k, hk⟩ : ∃ k, m = k + 1 := ⟨m - 1, by omega⟩
          have len8 := Lib.hid (show acc.length ≤ 1000 by have := IV.out rfl; omega)
          have wk : IntKind.u64.wrap ((m : Int) - 1) = (k : Int) := by rw [IntKind.wrap_u64]; have := IV.out rfl; omega
          have G1 := numS_lt l 0 (rm_bytes h)
          replace HR : moreS (k + 1) lo l 0 acc = R := hk ▸ HR.out
          unfold moreS at HR
          rw [if_neg (by decide)] at HR
          have N1 := Lib.hid (fun w h hB => num_m B p l 0 w h hB)
          obtain ⟨g1, l1, c1, hz1⟩ : ∃ z l1 c1, numS l 0 = (z, l1, c1) := ⟨_, _, _, rfl⟩
          rw [hz1] at HR N1 G1
          dsimp only at HR N1 G1
          obtain ⟨s1, hs1⟩ : ∃ s, g1 + 2 = s := ⟨_, rfl⟩
          have ws : IntKind.u64.wrap ((g1 : Int) + 2) = (s1 : Int) := by rw [IntKind.wrap_u64]; omega
          rw [hs1] at HR
          have L1 := Lib.hid (fun w h hB => less_m B p l1 lo s1 c1 (by omega) w h hB)
          have le1 := lessS_le lo s1 c1
          obtain ⟨h1, c2, hl1⟩ : ∃ a b, lessS lo s1 c1 = (a, b) := ⟨_, _, rfl⟩
          rw [hl1] at HR L1 le1
          dsimp only at HR L1 le1
          have N2 := Lib.hid (fun w h hB => num_m B p l1 c2 w h hB)
          obtain ⟨e1, l2, c3, hz2⟩ : ∃ z la ca, numS l1 c2 = (z, la, ca) := ⟨_, _, _, rfl⟩
          rw [hz2] at HR N2
          dsimp only at HR N2
          have L2 := Lib.hid (fun w h hB => less_m B p l2 h1 e1 c3 (by omega) w h hB)
          have le2 := lessS_le h1 e1 c3
          obtain ⟨o1, c4, hl2⟩ : ∃ a b, lessS h1 e1 c3 = (a, b) := ⟨_, _, rfl⟩
          rw [hl2] at HR L2 le2
          dsimp only at HR L2 le2
          have KEEP := Lib.hid (show o1 < 4611686018427387904 ∧ (acc ++ [(o1, h1)]).length + k ≤ 33 by
            have := IV.out rfl
            rw [List.length_append]
            simp only [List.length_cons, List.length_nil]
            omega)
          replace HR := Lib.hid HR
          have HK := Lib.hid hk
          clear hz1 hz2 hl1 hl2 hs1 le1 le2 G1 hk hm IV lob
          replace h := Lib.hid h
          replace K := Lib.hid K
          replace KR := Lib.hid KR
          go_upto_region 9 with fail
          rename_i aK
          refine wp_region_seq ?_
          refine wpSeq_yield (S := fun _ => True) (yieldsIf_move rfl _ rfl (.int .u64 (m : Int)) rfl) trivial ?_
          simp only [AP]
          refine wpSeq_yield (S := fun _ => True) (v := .bool true) (Or.inl ⟨by rfl, fun w' hw' => by (go_simp; try omega)⟩) trivial ?_
          simp only [AP]
          refine wpSeq_yield (S := fun _ => True) (yieldsIf_move rfl _ rfl (.bool true) rfl) trivial ?_
          simp only [AP]
          refine wpSeq_yield (S := fun _ => True) (v := .pointer (some ⟨W.heap.size, 0, none⟩)) (Or.inl ⟨by rfl, fun w' hw' => by go_simp⟩) trivial ?_
          simp only [AP]
          refine wpSeq_yield (S := fun w' => w' = wr) (v := .pointer p) (Or.inl ⟨by rfl, fun w' hw' => by (rw [hw']; go_simp)⟩) rfl ?_
          simp only [AP]
          refine wpSeq_wp rfl ?_
          unfold Oper.wp execOp
          go_simp
          refine CC.out.mono ?_
          rintro _ W31 ⟨rfl, h1, b1⟩
          replace K := Lib.hid (blk_gb b1 K.out ne.out)
          replace KR := Lib.hid (blk_gb b1 KR.out neB.out)
          replace h := Lib.hid h1
          replace T := T.trans (two_gb b1 gf)
          replace hb := Nat.le_trans hb b1.size
          replace hs2 := Nat.le_trans hs2 b1.size
          replace OS := OwS.of_block OS fun g hg => b1.block g (OwS.lt OS g hg).2 (fun e => by have := (OwS.lt OS g hg).1; have := Option.some.inj e; have := hH0.out; have := hlt.out; omega)
          clear h1 b1 CC xp
          go_simp
          refine wpSeq_yield (S := fun _ => True) (v := .bool true) (Or.inl ⟨by rfl, fun w' hw' => by go_simp⟩) trivial ?_
          simp only [AP]
          refine wpSeq_yield (S := fun _ => True) (yieldsIf_pick rfl _ _ _ rfl true rfl (.bool true) rfl) trivial ?_
          simp only [AP]
          refine wpSeq_nil ?_
          refine aK _ _ ?_
          clear aK
          go_upto_region 11 with fail
          rename_i aK
          refine wp_region_S (S := fun w' => Blk w' W.heap.size 58 #[.pointer p]) (by kernel_rfl) ?_
          have bd := fun {w0 : World} => below_drew (Below.refl w0.heap.size w0)
          replace h := Lib.hid (h.out.below bd)
          replace K := Lib.hid (K.out.drew)
          have hS := KR.out.drew
          replace T := T.trans (Two.of bd)
          replace OS := OwS.below OS bd
          clear bd KR
          replace hb := (show B ≤ W31.drew.heap.size from hb)
          replace hs2 := (show H ≤ W31.drew.heap.size from hs2)
          generalize World.drew _ = W32 at *
          refine wpAnyS_takeL 0 (v := .agg #[.pointer p]) rfl (by kernel_rfl) (by kernel_rfl) (by kernel_rfl) (fun _ _ _ H => H) (show YieldsIf _ _ _ _ (.agg #[.pointer p]) _ from yieldsIf_load_mid rfl 58 _ rfl W.heap.size 0 rfl [.pointer p] _ (fun _ h => blk_range h) Try.underlying58 rfl info_rd) hS ?_
          simp only [AP]
          refine wpAnyS_takeL 1 (v := .int .u64 (lo : Int)) rfl (by kernel_rfl) (by kernel_rfl) (by kernel_rfl) (fun _ _ _ H => H) (yieldsIf_move rfl _ rfl (.int .u64 (lo : Int)) rfl) hS ?_
          simp only [AP]
          refine wpAnyS_takeL 2 (v := .pointer (some ⟨W.heap.size, 0, none⟩)) rfl (by kernel_rfl) (by kernel_rfl) (by kernel_rfl) (fun _ _ _ H => H) (Or.inl ⟨by rfl, fun w' hw' => by go_simp⟩) hS ?_
          simp only [AP]
          refine wpAnyS_takeL 3 (v := .pointer p) rfl (by kernel_rfl) (by kernel_rfl) (by kernel_rfl) (fun _ _ _ H => H) (Or.inl ⟨by rfl, fun w' hw' => by (have cc := (show Blk w' W.heap.size 58 #[.pointer p] from hw').cell 0; rw [show (#[.pointer p] : Array Value)[0]? = some (.pointer p) from rfl] at cc; go_simp)⟩) hS ?_
          simp only [AP]
          refine gstep 4 rfl rfl (by kernel_rfl) ?_
          unfold Oper.wp execOp
          go_simp
          refine (N1.out _ h.out hb).mono ?_
          rintro _ W33 ⟨rfl, h1, b1⟩
          replace K := Lib.hid (blk_gb b1 K.out ne.out)
          replace hS := blk_gb b1 hS neB.out
          replace h := Lib.hid h1
          replace T := T.trans (two_gb b1 gf)
          replace hb := Nat.le_trans hb b1.size
          replace hs2 := Nat.le_trans hs2 b1.size
          replace OS := OwS.of_block OS fun g hg => b1.block g (OwS.lt OS g hg).2 (fun e => by have := (OwS.lt OS g hg).1; have := Option.some.inj e; have := hH0.out; have := hlt.out; omega)
          clear h1 b1 N1
          refine ⟨hS, ?_⟩
          refine wpAnyS_takeL 5 (v := .int .u64 (s1 : Int)) rfl (by kernel_rfl) (by kernel_rfl) (by kernel_rfl) (fun _ _ _ H => H) (Or.inl ⟨by rfl, fun w' hw' => by go_simp⟩) hS ?_
          simp only [AP]
          refine gstep 6 rfl rfl (by kernel_rfl) ?_
          unfold Oper.wp execOp
          go_simp
          refine (L1.out _ h.out hb).mono ?_
          rintro _ W34 ⟨rfl, h1, b1⟩
          replace K := Lib.hid (blk_gb b1 K.out ne.out)
          replace hS := blk_gb b1 hS neB.out
          replace h := Lib.hid h1
          replace T := T.trans (two_gb b1 gf)
          replace hb := Nat.le_trans hb b1.size
          replace hs2 := Nat.le_trans hs2 b1.size
          replace OS := OwS.of_block OS fun g hg => b1.block g (OwS.lt OS g hg).2 (fun e => by have := (OwS.lt OS g hg).1; have := Option.some.inj e; have := hH0.out; have := hlt.out; omega)
          clear h1 b1 L1
          refine ⟨hS, ?_⟩
          refine wpAnyS_takeL 7 (v := .int .u64 (h1 : Int)) rfl (by kernel_rfl) (by kernel_rfl) (by kernel_rfl) (fun _ _ _ H => H) (yieldsIf_assign rfl _ rfl (.int .u64 (h1 : Int)) rfl) hS ?_
          simp only [AP]
          have KR := Lib.hid hS
          refine wpAnyS_done (by kernel_rfl) ?_ _
          refine aK _ _ ?_
          clear aK hS
          go_upto_region 12 with fail
          rename_i aK
          refine wp_region_S (S := fun w' => Blk w' W.heap.size 58 #[.pointer p]) (by kernel_rfl) ?_
          have bd := fun {w0 : World} => below_drew (Below.refl w0.heap.size w0)
          replace h := Lib.hid (h.out.below bd)
          replace K := Lib.hid (K.out.drew)
          have hS := KR.out.drew
          replace T := T.trans (Two.of bd)
          replace OS := OwS.below OS bd
          clear bd KR
          replace hb := (show B ≤ W34.drew.heap.size from hb)
          replace hs2 := (show H ≤ W34.drew.heap.size from hs2)
          generalize World.drew _ = W35 at *
          refine wpAnyS_takeL 0 (v := .agg #[.pointer p]) rfl (by kernel_rfl) (by kernel_rfl) (by kernel_rfl) (fun _ _ _ H => H) (show YieldsIf _ _ _ _ (.agg #[.pointer p]) _ from yieldsIf_load_mid rfl 58 _ rfl W.heap.size 0 rfl [.pointer p] _ (fun _ h => blk_range h) Try.underlying58 rfl info_rd) hS ?_
          simp only [AP]
          refine wpAnyS_takeL 1 (v := .int .u64 (h1 : Int)) rfl (by kernel_rfl) (by kernel_rfl) (by kernel_rfl) (fun _ _ _ H => H) (yieldsIf_move rfl _ rfl (.int .u64 (h1 : Int)) rfl) hS ?_
          simp only [AP]
          refine wpAnyS_takeL 2 (v := .pointer (some ⟨W.heap.size, 0, none⟩)) rfl (by kernel_rfl) (by kernel_rfl) (by kernel_rfl) (fun _ _ _ H => H) (Or.inl ⟨by rfl, fun w' hw' => by go_simp⟩) hS ?_
          simp only [AP]
          refine wpAnyS_takeL 3 (v := .pointer p) rfl (by kernel_rfl) (by kernel_rfl) (by kernel_rfl) (fun _ _ _ H => H) (Or.inl ⟨by rfl, fun w' hw' => by (have cc := (show Blk w' W.heap.size 58 #[.pointer p] from hw').cell 0; rw [show (#[.pointer p] : Array Value)[0]? = some (.pointer p) from rfl] at cc; go_simp)⟩) hS ?_
          simp only [AP]
          refine gstep 4 rfl rfl (by kernel_rfl) ?_
          unfold Oper.wp execOp
          go_simp
          refine (N2.out _ h.out hb).mono ?_
          rintro _ W36 ⟨rfl, h1, b1⟩
          replace K := Lib.hid (blk_gb b1 K.out ne.out)
          replace hS := blk_gb b1 hS neB.out
          replace h := Lib.hid h1
          replace T := T.trans (two_gb b1 gf)
          replace hb := Nat.le_trans hb b1.size
          replace hs2 := Nat.le_trans hs2 b1.size
          replace OS := OwS.of_block OS fun g hg => b1.block g (OwS.lt OS g hg).2 (fun e => by have := (OwS.lt OS g hg).1; have := Option.some.inj e; have := hH0.out; have := hlt.out; omega)
          clear h1 b1 N2
          refine ⟨hS, ?_⟩
          refine gstep 5 rfl rfl (by kernel_rfl) ?_
          unfold Oper.wp execOp
          go_simp
          refine (L2.out _ h.out hb).mono ?_
          rintro _ W37 ⟨rfl, h1, b1⟩
          replace K := Lib.hid (blk_gb b1 K.out ne.out)
          replace hS := blk_gb b1 hS neB.out
          replace h := Lib.hid h1
          replace T := T.trans (two_gb b1 gf)
          replace hb := Nat.le_trans hb b1.size
          replace hs2 := Nat.le_trans hs2 b1.size
          replace OS := OwS.of_block OS fun g hg => b1.block g (OwS.lt OS g hg).2 (fun e => by have := (OwS.lt OS g hg).1; have := Option.some.inj e; have := hH0.out; have := hlt.out; omega)
          clear h1 b1 L2
          refine ⟨hS, ?_⟩
          refine wpAnyS_takeL 6 (v := .int .u64 (o1 : Int)) rfl (by kernel_rfl) (by kernel_rfl) (by kernel_rfl) (fun _ _ _ H => H) (yieldsIf_assign rfl _ rfl (.int .u64 (o1 : Int)) rfl) hS ?_
          simp only [AP]
          have KR := Lib.hid hS
          refine wpAnyS_done (by kernel_rfl) ?_ _
          refine aK _ _ ?_
          clear aK hS
          obtain ⟨v7, W38, h7, O7, G7⟩ := append_span H W37 24 (.slice p8 n8 d8) acc o1 h1 OS len8.out hs2
          have rw7 : ∀ g, (Value.slice p8 n8 d8).ownBlock = some g → H ≤ g := fun g hg => (OwS.lt OS g hg).1
          obtain ⟨p7, d7, hv7⟩ := O7.shape
          obtain ⟨n7, hn7⟩ : ∃ n, (acc ++ [(o1, h1)] : List (Nat × Nat)).length = n := ⟨_, rfl⟩
          rw [hn7] at hv7
          subst hv7
          clear hn7
          have K7 := blk_row G7 K.out (fun r hr => by have := rw7 r hr; have := hH0.out; have := glt.out; omega)
          have KR7 := blk_row G7 KR.out (fun r hr => by have := rw7 r hr; have := hH0.out; omega)
          have h77 := h.out.gb G7 (fun r hr => by have := rw7 r hr; have := hH0.out; have := hlt.out; omega)
          have T7 := T.gb G7 (fun r hr => by have := rw7 r hr; have := hH0.out; omega)
          have hb7 := Nat.le_trans hb G7.size
          have gs7 := G7.size
          go_upto_region 13 with fail
          rename_i aK
          refine wp_region_seq ?_
          refine wpSeq_yield (S := fun _ => True) (yieldsIf_move rfl _ rfl (.pointer (some ⟨gf, 0, none⟩)) rfl) trivial ?_
          simp only [AP]
          refine wpSeq_yield (S := fun _ => True) (yieldsIf_move rfl _ rfl (.pointer (some ⟨gf, 0, none⟩)) rfl) trivial ?_
          simp only [AP]
          refine wpSeq_yield (S := fun _ => True) (v := .pointer (some ⟨gf, 0, none⟩)) (Or.inl ⟨by rfl, fun w' hw' => by go_simp⟩) trivial ?_
          simp only [AP]
          refine wpSeq_yield (S := fun _ => True) (v := .pointer (some ⟨gf, 7, none⟩)) (Or.inl ⟨by rfl, fun w' hw' => by go_simp⟩) trivial ?_
          simp only [AP]
          refine wpSeq_yield (S := fun w' => w' = W37) (v := .slice p8 n8 d8) (Or.inl ⟨by rfl, fun w' hw' => by (rw [hw']; have cc : W37.cell? ⟨gf, 7, none⟩ = some (.slice p8 n8 d8) := K.out.cell 7; go_simp)⟩) rfl ?_
          simp only [AP]
          refine wpSeq_yield (S := fun _ => True) (yieldsIf_move rfl _ rfl (.int .u64 (o1 : Int)) rfl) trivial ?_
          simp only [AP]
          refine wpSeq_yield (S := fun _ => True) (yieldsIf_move rfl _ rfl (.int .u64 (h1 : Int)) rfl) trivial ?_
          simp only [AP]
          refine wpSeq_yield (S := fun _ => True) (v := .agg #[.int .u64 (o1 : Int), .int .u64 (h1 : Int)]) (Or.inl ⟨by rfl, fun w' hw' => by (go_simp)⟩) trivial ?_
          simp only [AP]
          refine wpSeq_wp rfl ?_
          unfold Oper.wp execOp
          go_simp
          refine wpSeq_wp rfl (wp_append_run _ _ _ _ rfl _ _ rfl rfl (.slice p7 n7 d7) W38 h7 ?_)
          simp only [AP]
          replace K := Lib.hid K7
          replace KR := Lib.hid KR7
          replace h := Lib.hid h77
          replace T := T7
          replace hb := hb7
          replace hs2 := Nat.le_trans hs2 gs7
          clear K7 KR7 h77 T7 hb7 h7 G7 rw7
          refine wpSeq_yield (S := fun _ => True) (v := .pointer (some ⟨gf, 0, none⟩)) (Or.inl ⟨by rfl, fun w' hw' => by go_simp⟩) trivial ?_
          simp only [AP]
          refine wpSeq_yield (S := fun _ => True) (v := .pointer (some ⟨gf, 7, none⟩)) (Or.inl ⟨by rfl, fun w' hw' => by go_simp⟩) trivial ?_
          simp only [AP]
          have cs : W38.cell? ⟨gf, 7, none⟩ = some (.slice p8 n8 d8) := K.out.cell 7
          have fz := K.out.frozen 7
          refine wpSeq_wp rfl ?_
          unfold Oper.wp execOp
          go_simp
          have K2 : Blk (W38.setCell ⟨gf, 7, none⟩ (.slice p7 n7 d7)) gf 26 #[.int .u64 2, .int .u64 0, .int .u64 0, .int .u64 (z2 : Int), .int .u64 0, .bool false, .slice none 0 0, .slice p7 n7 d7] := K.out.set 7 _
          have h2 := RM.far h.out K.out ne.out (nu8_at rfl) 7 (.slice p7 n7 d7)
          have KR2 := KR.out.far (p := ⟨gf, 7, none⟩) neR.out (.slice p7 n7 d7)
          have T2 := T.trans (Two.set_y W38 7 (.slice p7 n7 d7))
          have O4 : OwS H (W38.setCell ⟨gf, 7, none⟩ (.slice p7 n7 d7)) (.slice p7 n7 d7) (acc ++ [(o1, h1)]) := O7.of_block fun g hg => Below.heap_setCell W38 _ _ g (by have := (O7.lt g hg).1; have := glt.out; have := hH0.out; show g ≠ gf; omega)
          clear O7
          replace K := Lib.hid K2
          replace h := Lib.hid h2
          replace KR := Lib.hid KR2
          replace T := T2
          replace hb := Nat.le_trans hb (Two.set_y (x := B) (y := gf) W38 7 (.slice p7 n7 d7)).size
          replace hs2 := Nat.le_trans hs2 (Two.set_y (x := B) (y := gf) W38 7 (.slice p7 n7 d7)).size
          clear cs fz K2 h2 KR2 T2
          generalize World.setCell _ _ _ = W39 at *
          refine wpSeq_nil ?_
          go_wp2
          exact ⟨⟨k, o1, l2, c4, _, p7, n7, d7, rfl, rfl, HR.out, fun _ => KEEP.out.2, KEEP.out.1, h.out, K.out, O4, KR.out, T, hs2⟩, by simp only [intOf]; have := HK.out; omega⟩
        · have er := Lib.hid (show (acc, l, c) = R by
            have := HR.out
            obtain ⟨k, rfl⟩ : ∃ k, m = k + 1 := ⟨m - 1, by omega⟩
            unfold moreS at this
            rwa [if_pos hc] at this)
          have gc : ((c : Int) == 0) = false := beq_eq_false_iff_ne.2 (by omega)
          have OS := Lib.hid OS
          replace h := Lib.hid h
          replace K := Lib.hid K
          clear HR IV lob hm
          go_upto_region 9 with fail
          rename_i aK
          refine wp_region_seq ?_
          refine wpSeq_yield (S := fun _ => True) (yieldsIf_move rfl _ rfl (.int .u64 (m : Int)) rfl) trivial ?_
          simp only [AP]
          refine wpSeq_yield (S := fun _ => True) (v := .bool true) (Or.inl ⟨by rfl, fun w' hw' => by (go_simp; try omega)⟩) trivial ?_
          simp only [AP]
          refine wpSeq_yield (S := fun _ => True) (yieldsIf_move rfl _ rfl (.bool true) rfl) trivial ?_
          simp only [AP]
          refine wpSeq_yield (S := fun _ => True) (v := .pointer (some ⟨W.heap.size, 0, none⟩)) (Or.inl ⟨by rfl, fun w' hw' => by go_simp⟩) trivial ?_
          simp only [AP]
          refine wpSeq_yield (S := fun w' => w' = wr) (v := .pointer p) (Or.inl ⟨by rfl, fun w' hw' => by (rw [hw']; go_simp)⟩) rfl ?_
          simp only [AP]
          refine wpSeq_wp rfl ?_
          unfold Oper.wp execOp
          go_simp
          refine CC.out.mono ?_
          rintro _ W31 ⟨rfl, h1, b1⟩
          replace K := Lib.hid (blk_gb b1 K.out ne.out)
          replace h := Lib.hid h1
          replace T := T.trans (two_gb b1 gf)
          have OS2 := OwS.of_block OS.out fun g hg => b1.block g (OwS.lt OS.out g hg).2 (fun e => by have := (OwS.lt OS.out g hg).1; have := Option.some.inj e; have := hH0.out; have := hlt.out; omega)
          clear h1 b1 CC xp
          go_simp
          refine wpSeq_yield (S := fun _ => True) (v := .bool false) (Or.inl ⟨by rfl, fun w' hw' => by (go_simp; try omega)⟩) trivial ?_
          simp only [AP]
          refine wpSeq_yield (S := fun _ => True) (yieldsIf_pick rfl _ _ _ rfl true rfl (.bool false) rfl) trivial ?_
          simp only [AP]
          refine wpSeq_nil ?_
          refine aK _ _ ?_
          clear aK
          go_wp2
          refine bodyPost_end (results_none rfl _ _ _) rfl ?_
          rw [← er.out]
          exact ⟨⟨_, rfl⟩, ⟨_, K.out, OS2.mono (by have := hH0.out; omega)⟩, h.out, T⟩
end Go.Proofs.Ytdlhclakdllogaa
