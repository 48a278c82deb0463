/- The program's layStream: the numbers of a STREAM (printed by gen11/vf.py). -/
import Derived.Test.YtdlhclakdllogaaVe
namespace Go.Proofs.Ytdlhclakdllogaa
open Go.RowKit

set_option maxHeartbeats 8000000 in
set_option maxRecDepth 100000 in
theorem lays1 (B x y N : Nat) (q : Option (List Nat)) (i o n c nd c1 m c2 : Nat) (p1 p2 : Option Addr) (hnd : nd ≤ 2048) (hN : N ≤ 100) (hl : ∀ z ∈ [15, i, o, nd], z < 18446744073709551616) (ho : 0 < o) (W : World) (h : PS B x y N q W) (hB : B ≤ W.heap.size) :
    Calls Try.prog 37 #[.agg #[.int .u64 8, .int .u64 (i : Int), .int .u64 (o : Int), .int .u64 (n : Int), .int .u64 (c : Int), .bool true, .slice p1 nd c1, .slice p2 m c2], .func (.func 19) #[] #[.pointer (some ⟨y, 0, none⟩), .pointer (some ⟨x, 0, none⟩)]] W fun e w' => (∃ v, e = .returned v) ∧ PS B x y (N + 4) (bindO q [15, i, o, nd]) w' ∧ Two x y W w' := by
  have wl : IntKind.u64.wrap (nd : Int) = (nd : Int) := by rw [IntKind.wrap_u64]; omega
  have o0 : (0 : Int) < (o : Int) := by omega
  have PP1 := Lib.hid (fun pl cl w h1 h2 h3 => pput_c B x y (N) (q) [15, i] (fun z hz => hl z (by simp only [List.mem_cons, List.not_mem_nil, or_false] at hz ⊢; omega)) (by omega) pl 2 cl (by decide) w h1 h2 h3)
  have PP2 := Lib.hid (fun pl cl w h1 h2 h3 => pput_c B x y (N + 2) (bindO q [15, i]) [o] (fun z hz => hl z (by simp only [List.mem_cons, List.not_mem_nil, or_false] at hz ⊢; omega)) (by omega) pl 1 cl (by decide) w h1 h2 h3)
  have PP3 := Lib.hid (fun pl cl w h1 h2 h3 => pput_c B x y (N + 2 + 1) (bindO (bindO q [15, i]) [o]) [nd] (fun z hz => hl z (by simp only [List.mem_cons, List.not_mem_nil, or_false] at hz ⊢; omega)) (by omega) pl 1 cl (by decide) w h1 h2 h3)
  have gx : W.heap.size ≠ x := by
    obtain ⟨_, K, _⟩ := h.out
    have := K.lt
    omega
  have gy : W.heap.size ≠ y := by
    have := h.fault.lt
    omega
  replace h := Lib.hid h
  clear hl hnd hN
  go_enter Try.func37, Try.ntmps37
  go_upto_region 0 with fail
  rename_i aK
  refine wp_region_seq ?_
  refine wpSeq_wp rfl ?_
  unfold Oper.wp execOp
  go_simp
  refine wpSeq_nil ?_
  refine aK _ _ ?_
  clear aK
  have b0 := (Below.refl W.heap.size W).alloc (Nat.le_refl _) (.cells #[.int .u64 8, .int .u64 (i : Int), .int .u64 (o : Int), .int .u64 (n : Int), .int .u64 (c : Int), .bool true, .slice p1 nd c1, .slice p2 m c2] 26)
  have K := Lib.hid (Blk.new W 26 #[.int .u64 8, .int .u64 (i : Int), .int .u64 (o : Int), .int .u64 (n : Int), .int .u64 (c : Int), .bool true, .slice p1 nd c1, .slice p2 m c2])
  generalize World.alloc W _ = W2 at *
  have P := Lib.hid (h.out.below b0)
  have T := Two.of b0 (x := x) (y := y)
  have hb := Nat.le_trans hB b0.size
  clear b0 h hB
  have x1 : W2.cell? ⟨W.heap.size, 1, none⟩ = some (.int .u64 (i : Int)) := K.out.cell 1
  have x2 : W2.cell? ⟨W.heap.size, 2, none⟩ = some (.int .u64 (o : Int)) := K.out.cell 2
  have x5 : W2.cell? ⟨W.heap.size, 5, none⟩ = some (.bool true) := K.out.cell 5
  have x6 : W2.cell? ⟨W.heap.size, 6, none⟩ = some (.slice p1 nd c1) := K.out.cell 6
  go_upto_region 1 with fail
  rename_i aK
  refine wp_region_seq ?_
  refine wpSeq_yield (S := fun _ => True) (yieldsIf_assign rfl _ rfl (.int .u64 10) rfl) trivial ?_
  simp only [AP]
  refine wpSeq_nil ?_
  refine aK _ _ ?_
  clear aK
  go_upto_region 2 with fail
  rename_i aK
  refine wp_region_seq ?_
  refine wpSeq_yield (S := fun _ => True) (v := .pointer (some ⟨W.heap.size, 5, none⟩)) (Or.inl ⟨by rfl, fun w' hw' => by go_simp⟩) trivial ?_
  simp only [AP]
  refine wpSeq_yield (S := fun w' => w' = W2) (v := .bool true) (Or.inl ⟨by rfl, fun w' hw' => by (rw [hw']; go_simp)⟩) rfl ?_
  simp only [AP]
  refine wpSeq_nil ?_
  refine aK _ _ ?_
  clear aK
  go_upto_region 3 with fail
  rename_i aK _
  refine wp_region_seq ?_
  refine wpSeq_yield (S := fun _ => True) (yieldsIf_move rfl _ rfl (.int .u64 10) rfl) trivial ?_
  simp only [AP]
  refine wpSeq_yield (S := fun _ => True) (v := .int .u64 11) (Or.inl ⟨by rfl, fun w' hw' => by (go_simp; try decide)⟩) trivial ?_
  simp only [AP]
  refine wpSeq_yield (S := fun _ => True) (yieldsIf_assign rfl _ rfl (.int .u64 11) rfl) trivial ?_
  simp only [AP]
  refine wpSeq_nil ?_
  refine aK _ _ ?_
  clear aK
  go_upto_region 4 with fail
  rename_i aK
  refine wp_region_seq ?_
  refine wpSeq_yield (S := fun _ => True) (v := .pointer (some ⟨W.heap.size, 2, none⟩)) (Or.inl ⟨by rfl, fun w' hw' => by go_simp⟩) trivial ?_
  simp only [AP]
  refine wpSeq_yield (S := fun w' => w' = W2) (v := .int .u64 (o : Int)) (Or.inl ⟨by rfl, fun w' hw' => by (rw [hw']; go_simp)⟩) rfl ?_
  simp only [AP]
  refine wpSeq_yield (S := fun _ => True) (v := .bool true) (Or.inl ⟨by rfl, fun w' hw' => by (go_simp; try omega)⟩) trivial ?_
  simp only [AP]
  refine wpSeq_nil ?_
  refine aK _ _ ?_
  clear aK
  go_upto_region 5 with fail
  rename_i aK _
  refine wp_region_seq ?_
  refine wpSeq_yield (S := fun _ => True) (yieldsIf_move rfl _ rfl (.int .u64 11) rfl) trivial ?_
  simp only [AP]
  refine wpSeq_yield (S := fun _ => True) (v := .int .u64 15) (Or.inl ⟨by rfl, fun w' hw' => by (go_simp; try decide)⟩) trivial ?_
  simp only [AP]
  refine wpSeq_yield (S := fun _ => True) (yieldsIf_assign rfl _ rfl (.int .u64 15) rfl) trivial ?_
  simp only [AP]
  refine wpSeq_nil ?_
  refine aK _ _ ?_
  clear aK
  go_upto_region 6 with fail
  rename_i aK
  refine wp_region_seq ?_
  refine wpSeq_yield (S := fun _ => True) (yieldsIf_move rfl _ rfl (.func (.func 19) #[] #[.pointer (some ⟨y, 0, none⟩), .pointer (some ⟨x, 0, none⟩)]) rfl) trivial ?_
  simp only [AP]
  refine wpSeq_yield (S := fun _ => True) (yieldsIf_move rfl _ rfl (.int .u64 15) rfl) trivial ?_
  simp only [AP]
  refine wpSeq_yield (S := fun _ => True) (v := .pointer (some ⟨W.heap.size, 1, none⟩)) (Or.inl ⟨by rfl, fun w' hw' => by go_simp⟩) trivial ?_
  simp only [AP]
  refine wpSeq_yield (S := fun w' => w' = W2) (v := .int .u64 (i : Int)) (Or.inl ⟨by rfl, fun w' hw' => by (rw [hw']; go_simp)⟩) rfl ?_
  simp only [AP]
  refine wpSeq_wp rfl ?_
  unfold Oper.wp execOp
  go_simp
  have b1 := (Below.refl W2.heap.size W2).alloc (Nat.le_refl _) (.cells #[.int .u64 15, .int .u64 (i : Int)] 22)
  have O := (OwU.new W2.heap.size W2 [15, i] (Nat.le_refl _) (by simp only [List.length_cons, List.length_nil, maxLen]; omega)).su
  replace O : SU (W2.alloc (.cells #[.int .u64 15, .int .u64 (i : Int)] 22)) (.slice (some ⟨W2.heap.size, 0, none⟩) 2 2) [15, i] := O
  replace T := T.trans (Two.of b1)
  replace P := Lib.hid (P.out.below b1)
  replace K := Lib.hid (K.out.below' b1)
  replace hb := Nat.le_trans hb b1.size
  obtain ⟨pg, hpg⟩ : ∃ p, p = some (⟨W2.heap.size, 0, none⟩ : Addr) := ⟨_, rfl⟩
  rw [← hpg] at O ⊢
  clear b1 hpg x1 x2 x5 x6
  generalize World.alloc W2 _ = W2a at *
  refine wpSeq_wp rfl ?_
  unfold Oper.wp execOp
  go_simp
  refine (PP1.out _ _ W2a P.out hb O).mono ?_
  rintro _ w3 ⟨⟨v5, rfl⟩, P5, T5⟩
  replace K := Lib.hid (T5.blk K.out gx gy)
  replace T := T.trans T5
  replace P := Lib.hid P5
  replace hb := Nat.le_trans hb T5.size
  clear P5 T5 PP1
  go_simp
  refine wpSeq_nil ?_
  try refine aK _ _ ?_
  try clear aK
  have x2 : w3.cell? ⟨W.heap.size, 2, none⟩ = some (.int .u64 (o : Int)) := K.out.cell 2
  have x6 : w3.cell? ⟨W.heap.size, 6, none⟩ = some (.slice p1 nd c1) := K.out.cell 6
  go_upto_region 7 with fail
  rename_i aK
  refine wp_region_seq ?_
  refine wpSeq_yield (S := fun _ => True) (v := .pointer (some ⟨W.heap.size, 2, none⟩)) (Or.inl ⟨by rfl, fun w' hw' => by go_simp⟩) trivial ?_
  simp only [AP]
  refine wpSeq_yield (S := fun w' => w' = w3) (v := .int .u64 (o : Int)) (Or.inl ⟨by rfl, fun w' hw' => by (rw [hw']; go_simp)⟩) rfl ?_
  simp only [AP]
  refine wpSeq_yield (S := fun _ => True) (v := .bool true) (Or.inl ⟨by rfl, fun w' hw' => by (go_simp; try omega)⟩) trivial ?_
  simp only [AP]
  refine wpSeq_nil ?_
  refine aK _ _ ?_
  clear aK
  go_upto_region 8 with fail
  rename_i aK _
  refine wp_region_seq ?_
  refine wpSeq_yield (S := fun _ => True) (yieldsIf_move rfl _ rfl (.func (.func 19) #[] #[.pointer (some ⟨y, 0, none⟩), .pointer (some ⟨x, 0, none⟩)]) rfl) trivial ?_
  simp only [AP]
  refine wpSeq_yield (S := fun _ => True) (v := .pointer (some ⟨W.heap.size, 2, none⟩)) (Or.inl ⟨by rfl, fun w' hw' => by go_simp⟩) trivial ?_
  simp only [AP]
  refine wpSeq_yield (S := fun w' => w' = w3) (v := .int .u64 (o : Int)) (Or.inl ⟨by rfl, fun w' hw' => by (rw [hw']; go_simp)⟩) rfl ?_
  simp only [AP]
  refine wpSeq_wp rfl ?_
  unfold Oper.wp execOp
  go_simp
  have b1 := (Below.refl w3.heap.size w3).alloc (Nat.le_refl _) (.cells #[.int .u64 (o : Int)] 22)
  have O := (OwU.new w3.heap.size w3 [o] (Nat.le_refl _) (by simp only [List.length_cons, List.length_nil, maxLen]; omega)).su
  replace O : SU (w3.alloc (.cells #[.int .u64 (o : Int)] 22)) (.slice (some ⟨w3.heap.size, 0, none⟩) 1 1) [o] := O
  replace T := T.trans (Two.of b1)
  replace P := Lib.hid (P.out.below b1)
  replace K := Lib.hid (K.out.below' b1)
  replace hb := Nat.le_trans hb b1.size
  obtain ⟨pg, hpg⟩ : ∃ p, p = some (⟨w3.heap.size, 0, none⟩ : Addr) := ⟨_, rfl⟩
  rw [← hpg] at O ⊢
  clear b1 hpg x2 x6
  generalize World.alloc w3 _ = w3a at *
  refine wpSeq_wp rfl ?_
  unfold Oper.wp execOp
  go_simp
  refine (PP2.out _ _ w3a P.out hb O).mono ?_
  rintro _ w4 ⟨⟨v5, rfl⟩, P5, T5⟩
  replace K := Lib.hid (T5.blk K.out gx gy)
  replace T := T.trans T5
  replace P := Lib.hid P5
  replace hb := Nat.le_trans hb T5.size
  clear P5 T5 PP2
  go_simp
  refine wpSeq_nil ?_
  try refine aK _ _ ?_
  try clear aK
  have x6 : w4.cell? ⟨W.heap.size, 6, none⟩ = some (.slice p1 nd c1) := K.out.cell 6
  go_upto_region 9 with fail
  rename_i aK
  refine wp_region_seq ?_
  refine wpSeq_yield (S := fun _ => True) (yieldsIf_move rfl _ rfl (.func (.func 19) #[] #[.pointer (some ⟨y, 0, none⟩), .pointer (some ⟨x, 0, none⟩)]) rfl) trivial ?_
  simp only [AP]
  refine wpSeq_yield (S := fun _ => True) (v := .pointer (some ⟨W.heap.size, 6, none⟩)) (Or.inl ⟨by rfl, fun w' hw' => by go_simp⟩) trivial ?_
  simp only [AP]
  refine wpSeq_yield (S := fun w' => w' = w4) (v := .slice p1 nd c1) (Or.inl ⟨by rfl, fun w' hw' => by (rw [hw']; go_simp)⟩) rfl ?_
  simp only [AP]
  refine wpSeq_yield (S := fun _ => True) (v := .int .i64 (nd : Int)) (Or.inl ⟨by rfl, fun w' hw' => by go_simp⟩) trivial ?_
  simp only [AP]
  refine wpSeq_yield (S := fun _ => True) (v := .int .u64 (nd : Int)) (Or.inl ⟨by rfl, fun w' hw' => by (go_simp; try rfl)⟩) trivial ?_
  simp only [AP]
  refine wpSeq_wp rfl ?_
  unfold Oper.wp execOp
  go_simp
  have b1 := (Below.refl w4.heap.size w4).alloc (Nat.le_refl _) (.cells #[.int .u64 (nd : Int)] 22)
  have O := (OwU.new w4.heap.size w4 [nd] (Nat.le_refl _) (by simp only [List.length_cons, List.length_nil, maxLen]; omega)).su
  replace O : SU (w4.alloc (.cells #[.int .u64 (nd : Int)] 22)) (.slice (some ⟨w4.heap.size, 0, none⟩) 1 1) [nd] := O
  replace T := T.trans (Two.of b1)
  replace P := Lib.hid (P.out.below b1)
  replace K := Lib.hid (K.out.below' b1)
  replace hb := Nat.le_trans hb b1.size
  obtain ⟨pg, hpg⟩ : ∃ p, p = some (⟨w4.heap.size, 0, none⟩ : Addr) := ⟨_, rfl⟩
  rw [← hpg] at O ⊢
  clear b1 hpg x6
  generalize World.alloc w4 _ = w4a at *
  refine wpSeq_wp rfl ?_
  unfold Oper.wp execOp
  go_simp
  refine (PP3.out _ _ w4a P.out hb O).mono ?_
  rintro _ w6 ⟨⟨v5, rfl⟩, P5, T5⟩
  replace K := Lib.hid (T5.blk K.out gx gy)
  replace T := T.trans T5
  replace P := Lib.hid P5
  replace hb := Nat.le_trans hb T5.size
  clear P5 T5 PP3
  go_simp
  refine wpSeq_nil ?_
  go_wp2
  refine bodyPost_end (results_none rfl _ _ _) rfl ?_
  refine ⟨⟨_, rfl⟩, ?_, T⟩
  have P := P.out
  rw [bindO_append, bindO_append] at P
  exact P
set_option maxHeartbeats 8000000 in
set_option maxRecDepth 100000 in
theorem lays2 (B x y N : Nat) (q : Option (List Nat)) (i o n c nd c1 m c2 : Nat) (p1 p2 : Option Addr) (hnd : nd ≤ 2048) (hN : N ≤ 100) (hl : ∀ z ∈ [14, i, o, nd], z < 18446744073709551616) (ho : 0 < o) (W : World) (h : PS B x y N q W) (hB : B ≤ W.heap.size) :
    Calls Try.prog 37 #[.agg #[.int .u64 8, .int .u64 (i : Int), .int .u64 (o : Int), .int .u64 (n : Int), .int .u64 (c : Int), .bool false, .slice p1 nd c1, .slice p2 m c2], .func (.func 19) #[] #[.pointer (some ⟨y, 0, none⟩), .pointer (some ⟨x, 0, none⟩)]] W fun e w' => (∃ v, e = .returned v) ∧ PS B x y (N + 4) (bindO q [14, i, o, nd]) w' ∧ Two x y W w' := by
  have wl : IntKind.u64.wrap (nd : Int) = (nd : Int) := by rw [IntKind.wrap_u64]; omega
  have o0 : (0 : Int) < (o : Int) := by omega
  have PP1 := Lib.hid (fun pl cl w h1 h2 h3 => pput_c B x y (N) (q) [14, i] (fun z hz => hl z (by simp only [List.mem_cons, List.not_mem_nil, or_false] at hz ⊢; omega)) (by omega) pl 2 cl (by decide) w h1 h2 h3)
  have PP2 := Lib.hid (fun pl cl w h1 h2 h3 => pput_c B x y (N + 2) (bindO q [14, i]) [o] (fun z hz => hl z (by simp only [List.mem_cons, List.not_mem_nil, or_false] at hz ⊢; omega)) (by omega) pl 1 cl (by decide) w h1 h2 h3)
  have PP3 := Lib.hid (fun pl cl w h1 h2 h3 => pput_c B x y (N + 2 + 1) (bindO (bindO q [14, i]) [o]) [nd] (fun z hz => hl z (by simp only [List.mem_cons, List.not_mem_nil, or_false] at hz ⊢; omega)) (by omega) pl 1 cl (by decide) w h1 h2 h3)
  have gx : W.heap.size ≠ x := by
    obtain ⟨_, K, _⟩ := h.out
    have := K.lt
    omega
  have gy : W.heap.size ≠ y := by
    have := h.fault.lt
    omega
  replace h := Lib.hid h
  clear hl hnd hN
  go_enter Try.func37, Try.ntmps37
  go_upto_region 0 with fail
  rename_i aK
  refine wp_region_seq ?_
  refine wpSeq_wp rfl ?_
  unfold Oper.wp execOp
  go_simp
  refine wpSeq_nil ?_
  refine aK _ _ ?_
  clear aK
  have b0 := (Below.refl W.heap.size W).alloc (Nat.le_refl _) (.cells #[.int .u64 8, .int .u64 (i : Int), .int .u64 (o : Int), .int .u64 (n : Int), .int .u64 (c : Int), .bool false, .slice p1 nd c1, .slice p2 m c2] 26)
  have K := Lib.hid (Blk.new W 26 #[.int .u64 8, .int .u64 (i : Int), .int .u64 (o : Int), .int .u64 (n : Int), .int .u64 (c : Int), .bool false, .slice p1 nd c1, .slice p2 m c2])
  generalize World.alloc W _ = W2 at *
  have P := Lib.hid (h.out.below b0)
  have T := Two.of b0 (x := x) (y := y)
  have hb := Nat.le_trans hB b0.size
  clear b0 h hB
  have x1 : W2.cell? ⟨W.heap.size, 1, none⟩ = some (.int .u64 (i : Int)) := K.out.cell 1
  have x2 : W2.cell? ⟨W.heap.size, 2, none⟩ = some (.int .u64 (o : Int)) := K.out.cell 2
  have x5 : W2.cell? ⟨W.heap.size, 5, none⟩ = some (.bool false) := K.out.cell 5
  have x6 : W2.cell? ⟨W.heap.size, 6, none⟩ = some (.slice p1 nd c1) := K.out.cell 6
  go_upto_region 1 with fail
  rename_i aK
  refine wp_region_seq ?_
  refine wpSeq_yield (S := fun _ => True) (yieldsIf_assign rfl _ rfl (.int .u64 10) rfl) trivial ?_
  simp only [AP]
  refine wpSeq_nil ?_
  refine aK _ _ ?_
  clear aK
  go_upto_region 2 with fail
  rename_i aK
  refine wp_region_seq ?_
  refine wpSeq_yield (S := fun _ => True) (v := .pointer (some ⟨W.heap.size, 5, none⟩)) (Or.inl ⟨by rfl, fun w' hw' => by go_simp⟩) trivial ?_
  simp only [AP]
  refine wpSeq_yield (S := fun w' => w' = W2) (v := .bool false) (Or.inl ⟨by rfl, fun w' hw' => by (rw [hw']; go_simp)⟩) rfl ?_
  simp only [AP]
  refine wpSeq_nil ?_
  refine aK _ _ ?_
  clear aK
  go_upto_region 4 with fail
  rename_i aK
  refine wp_region_seq ?_
  refine wpSeq_yield (S := fun _ => True) (v := .pointer (some ⟨W.heap.size, 2, none⟩)) (Or.inl ⟨by rfl, fun w' hw' => by go_simp⟩) trivial ?_
  simp only [AP]
  refine wpSeq_yield (S := fun w' => w' = W2) (v := .int .u64 (o : Int)) (Or.inl ⟨by rfl, fun w' hw' => by (rw [hw']; go_simp)⟩) rfl ?_
  simp only [AP]
  refine wpSeq_yield (S := fun _ => True) (v := .bool true) (Or.inl ⟨by rfl, fun w' hw' => by (go_simp; try omega)⟩) trivial ?_
  simp only [AP]
  refine wpSeq_nil ?_
  refine aK _ _ ?_
  clear aK
  go_upto_region 5 with fail
  rename_i aK _
  refine wp_region_seq ?_
  refine wpSeq_yield (S := fun _ => True) (yieldsIf_move rfl _ rfl (.int .u64 10) rfl) trivial ?_
  simp only [AP]
  refine wpSeq_yield (S := fun _ => True) (v := .int .u64 14) (Or.inl ⟨by rfl, fun w' hw' => by (go_simp; try decide)⟩) trivial ?_
  simp only [AP]
  refine wpSeq_yield (S := fun _ => True) (yieldsIf_assign rfl _ rfl (.int .u64 14) rfl) trivial ?_
  simp only [AP]
  refine wpSeq_nil ?_
  refine aK _ _ ?_
  clear aK
  go_upto_region 6 with fail
  rename_i aK
  refine wp_region_seq ?_
  refine wpSeq_yield (S := fun _ => True) (yieldsIf_move rfl _ rfl (.func (.func 19) #[] #[.pointer (some ⟨y, 0, none⟩), .pointer (some ⟨x, 0, none⟩)]) rfl) trivial ?_
  simp only [AP]
  refine wpSeq_yield (S := fun _ => True) (yieldsIf_move rfl _ rfl (.int .u64 14) rfl) trivial ?_
  simp only [AP]
  refine wpSeq_yield (S := fun _ => True) (v := .pointer (some ⟨W.heap.size, 1, none⟩)) (Or.inl ⟨by rfl, fun w' hw' => by go_simp⟩) trivial ?_
  simp only [AP]
  refine wpSeq_yield (S := fun w' => w' = W2) (v := .int .u64 (i : Int)) (Or.inl ⟨by rfl, fun w' hw' => by (rw [hw']; go_simp)⟩) rfl ?_
  simp only [AP]
  refine wpSeq_wp rfl ?_
  unfold Oper.wp execOp
  go_simp
  have b1 := (Below.refl W2.heap.size W2).alloc (Nat.le_refl _) (.cells #[.int .u64 14, .int .u64 (i : Int)] 22)
  have O := (OwU.new W2.heap.size W2 [14, i] (Nat.le_refl _) (by simp only [List.length_cons, List.length_nil, maxLen]; omega)).su
  replace O : SU (W2.alloc (.cells #[.int .u64 14, .int .u64 (i : Int)] 22)) (.slice (some ⟨W2.heap.size, 0, none⟩) 2 2) [14, i] := O
  replace T := T.trans (Two.of b1)
  replace P := Lib.hid (P.out.below b1)
  replace K := Lib.hid (K.out.below' b1)
  replace hb := Nat.le_trans hb b1.size
  obtain ⟨pg, hpg⟩ : ∃ p, p = some (⟨W2.heap.size, 0, none⟩ : Addr) := ⟨_, rfl⟩
  rw [← hpg] at O ⊢
  clear b1 hpg x1 x2 x5 x6
  generalize World.alloc W2 _ = W2a at *
  refine wpSeq_wp rfl ?_
  unfold Oper.wp execOp
  go_simp
  refine (PP1.out _ _ W2a P.out hb O).mono ?_
  rintro _ w3 ⟨⟨v5, rfl⟩, P5, T5⟩
  replace K := Lib.hid (T5.blk K.out gx gy)
  replace T := T.trans T5
  replace P := Lib.hid P5
  replace hb := Nat.le_trans hb T5.size
  clear P5 T5 PP1
  go_simp
  refine wpSeq_nil ?_
  try refine aK _ _ ?_
  try clear aK
  have x2 : w3.cell? ⟨W.heap.size, 2, none⟩ = some (.int .u64 (o : Int)) := K.out.cell 2
  have x6 : w3.cell? ⟨W.heap.size, 6, none⟩ = some (.slice p1 nd c1) := K.out.cell 6
  go_upto_region 7 with fail
  rename_i aK
  refine wp_region_seq ?_
  refine wpSeq_yield (S := fun _ => True) (v := .pointer (some ⟨W.heap.size, 2, none⟩)) (Or.inl ⟨by rfl, fun w' hw' => by go_simp⟩) trivial ?_
  simp only [AP]
  refine wpSeq_yield (S := fun w' => w' = w3) (v := .int .u64 (o : Int)) (Or.inl ⟨by rfl, fun w' hw' => by (rw [hw']; go_simp)⟩) rfl ?_
  simp only [AP]
  refine wpSeq_yield (S := fun _ => True) (v := .bool true) (Or.inl ⟨by rfl, fun w' hw' => by (go_simp; try omega)⟩) trivial ?_
  simp only [AP]
  refine wpSeq_nil ?_
  refine aK _ _ ?_
  clear aK
  go_upto_region 8 with fail
  rename_i aK _
  refine wp_region_seq ?_
  refine wpSeq_yield (S := fun _ => True) (yieldsIf_move rfl _ rfl (.func (.func 19) #[] #[.pointer (some ⟨y, 0, none⟩), .pointer (some ⟨x, 0, none⟩)]) rfl) trivial ?_
  simp only [AP]
  refine wpSeq_yield (S := fun _ => True) (v := .pointer (some ⟨W.heap.size, 2, none⟩)) (Or.inl ⟨by rfl, fun w' hw' => by go_simp⟩) trivial ?_
  simp only [AP]
  refine wpSeq_yield (S := fun w' => w' = w3) (v := .int .u64 (o : Int)) (Or.inl ⟨by rfl, fun w' hw' => by (rw [hw']; go_simp)⟩) rfl ?_
  simp only [AP]
  refine wpSeq_wp rfl ?_
  unfold Oper.wp execOp
  go_simp
  have b1 := (Below.refl w3.heap.size w3).alloc (Nat.le_refl _) (.cells #[.int .u64 (o : Int)] 22)
  have O := (OwU.new w3.heap.size w3 [o] (Nat.le_refl _) (by simp only [List.length_cons, List.length_nil, maxLen]; omega)).su
  replace O : SU (w3.alloc (.cells #[.int .u64 (o : Int)] 22)) (.slice (some ⟨w3.heap.size, 0, none⟩) 1 1) [o] := O
  replace T := T.trans (Two.of b1)
  replace P := Lib.hid (P.out.below b1)
  replace K := Lib.hid (K.out.below' b1)
  replace hb := Nat.le_trans hb b1.size
  obtain ⟨pg, hpg⟩ : ∃ p, p = some (⟨w3.heap.size, 0, none⟩ : Addr) := ⟨_, rfl⟩
  rw [← hpg] at O ⊢
  clear b1 hpg x2 x6
  generalize World.alloc w3 _ = w3a at *
  refine wpSeq_wp rfl ?_
  unfold Oper.wp execOp
  go_simp
  refine (PP2.out _ _ w3a P.out hb O).mono ?_
  rintro _ w4 ⟨⟨v5, rfl⟩, P5, T5⟩
  replace K := Lib.hid (T5.blk K.out gx gy)
  replace T := T.trans T5
  replace P := Lib.hid P5
  replace hb := Nat.le_trans hb T5.size
  clear P5 T5 PP2
  go_simp
  refine wpSeq_nil ?_
  try refine aK _ _ ?_
  try clear aK
  have x6 : w4.cell? ⟨W.heap.size, 6, none⟩ = some (.slice p1 nd c1) := K.out.cell 6
  go_upto_region 9 with fail
  rename_i aK
  refine wp_region_seq ?_
  refine wpSeq_yield (S := fun _ => True) (yieldsIf_move rfl _ rfl (.func (.func 19) #[] #[.pointer (some ⟨y, 0, none⟩), .pointer (some ⟨x, 0, none⟩)]) rfl) trivial ?_
  simp only [AP]
  refine wpSeq_yield (S := fun _ => True) (v := .pointer (some ⟨W.heap.size, 6, none⟩)) (Or.inl ⟨by rfl, fun w' hw' => by go_simp⟩) trivial ?_
  simp only [AP]
  refine wpSeq_yield (S := fun w' => w' = w4) (v := .slice p1 nd c1) (Or.inl ⟨by rfl, fun w' hw' => by (rw [hw']; go_simp)⟩) rfl ?_
  simp only [AP]
  refine wpSeq_yield (S := fun _ => True) (v := .int .i64 (nd : Int)) (Or.inl ⟨by rfl, fun w' hw' => by go_simp⟩) trivial ?_
  simp only [AP]
  refine wpSeq_yield (S := fun _ => True) (v := .int .u64 (nd : Int)) (Or.inl ⟨by rfl, fun w' hw' => by (go_simp; try rfl)⟩) trivial ?_
  simp only [AP]
  refine wpSeq_wp rfl ?_
  unfold Oper.wp execOp
  go_simp
  have b1 := (Below.refl w4.heap.size w4).alloc (Nat.le_refl _) (.cells #[.int .u64 (nd : Int)] 22)
  have O := (OwU.new w4.heap.size w4 [nd] (Nat.le_refl _) (by simp only [List.length_cons, List.length_nil, maxLen]; omega)).su
  replace O : SU (w4.alloc (.cells #[.int .u64 (nd : Int)] 22)) (.slice (some ⟨w4.heap.size, 0, none⟩) 1 1) [nd] := O
  replace T := T.trans (Two.of b1)
  replace P := Lib.hid (P.out.below b1)
  replace K := Lib.hid (K.out.below' b1)
  replace hb := Nat.le_trans hb b1.size
  obtain ⟨pg, hpg⟩ : ∃ p, p = some (⟨w4.heap.size, 0, none⟩ : Addr) := ⟨_, rfl⟩
  rw [← hpg] at O ⊢
  clear b1 hpg x6
  generalize World.alloc w4 _ = w4a at *
  refine wpSeq_wp rfl ?_
  unfold Oper.wp execOp
  go_simp
  refine (PP3.out _ _ w4a P.out hb O).mono ?_
  rintro _ w6 ⟨⟨v5, rfl⟩, P5, T5⟩
  replace K := Lib.hid (T5.blk K.out gx gy)
  replace T := T.trans T5
  replace P := Lib.hid P5
  replace hb := Nat.le_trans hb T5.size
  clear P5 T5 PP3
  go_simp
  refine wpSeq_nil ?_
  go_wp2
  refine bodyPost_end (results_none rfl _ _ _) rfl ?_
  refine ⟨⟨_, rfl⟩, ?_, T⟩
  have P := P.out
  rw [bindO_append, bindO_append] at P
  exact P
set_option maxHeartbeats 8000000 in
set_option maxRecDepth 100000 in
theorem lays3 (B x y N : Nat) (q : Option (List Nat)) (i n c nd c1 m c2 : Nat) (p1 p2 : Option Addr) (hnd : nd ≤ 2048) (hN : N ≤ 100) (hl : ∀ z ∈ [11, i, nd], z < 18446744073709551616) (W : World) (h : PS B x y N q W) (hB : B ≤ W.heap.size) :
    Calls Try.prog 37 #[.agg #[.int .u64 8, .int .u64 (i : Int), .int .u64 0, .int .u64 (n : Int), .int .u64 (c : Int), .bool true, .slice p1 nd c1, .slice p2 m c2], .func (.func 19) #[] #[.pointer (some ⟨y, 0, none⟩), .pointer (some ⟨x, 0, none⟩)]] W fun e w' => (∃ v, e = .returned v) ∧ PS B x y (N + 3) (bindO q [11, i, nd]) w' ∧ Two x y W w' := by
  have wl : IntKind.u64.wrap (nd : Int) = (nd : Int) := by rw [IntKind.wrap_u64]; omega
  have PP1 := Lib.hid (fun pl cl w h1 h2 h3 => pput_c B x y (N) (q) [11, i] (fun z hz => hl z (by simp only [List.mem_cons, List.not_mem_nil, or_false] at hz ⊢; omega)) (by omega) pl 2 cl (by decide) w h1 h2 h3)
  have PP3 := Lib.hid (fun pl cl w h1 h2 h3 => pput_c B x y (N + 2) (bindO q [11, i]) [nd] (fun z hz => hl z (by simp only [List.mem_cons, List.not_mem_nil, or_false] at hz ⊢; omega)) (by omega) pl 1 cl (by decide) w h1 h2 h3)
  have gx : W.heap.size ≠ x := by
    obtain ⟨_, K, _⟩ := h.out
    have := K.lt
    omega
  have gy : W.heap.size ≠ y := by
    have := h.fault.lt
    omega
  replace h := Lib.hid h
  clear hl hnd hN
  go_enter Try.func37, Try.ntmps37
  go_upto_region 0 with fail
  rename_i aK
  refine wp_region_seq ?_
  refine wpSeq_wp rfl ?_
  unfold Oper.wp execOp
  go_simp
  refine wpSeq_nil ?_
  refine aK _ _ ?_
  clear aK
  have b0 := (Below.refl W.heap.size W).alloc (Nat.le_refl _) (.cells #[.int .u64 8, .int .u64 (i : Int), .int .u64 0, .int .u64 (n : Int), .int .u64 (c : Int), .bool true, .slice p1 nd c1, .slice p2 m c2] 26)
  have K := Lib.hid (Blk.new W 26 #[.int .u64 8, .int .u64 (i : Int), .int .u64 0, .int .u64 (n : Int), .int .u64 (c : Int), .bool true, .slice p1 nd c1, .slice p2 m c2])
  generalize World.alloc W _ = W2 at *
  have P := Lib.hid (h.out.below b0)
  have T := Two.of b0 (x := x) (y := y)
  have hb := Nat.le_trans hB b0.size
  clear b0 h hB
  have x1 : W2.cell? ⟨W.heap.size, 1, none⟩ = some (.int .u64 (i : Int)) := K.out.cell 1
  have x2 : W2.cell? ⟨W.heap.size, 2, none⟩ = some (.int .u64 0) := K.out.cell 2
  have x5 : W2.cell? ⟨W.heap.size, 5, none⟩ = some (.bool true) := K.out.cell 5
  have x6 : W2.cell? ⟨W.heap.size, 6, none⟩ = some (.slice p1 nd c1) := K.out.cell 6
  go_upto_region 1 with fail
  rename_i aK
  refine wp_region_seq ?_
  refine wpSeq_yield (S := fun _ => True) (yieldsIf_assign rfl _ rfl (.int .u64 10) rfl) trivial ?_
  simp only [AP]
  refine wpSeq_nil ?_
  refine aK _ _ ?_
  clear aK
  go_upto_region 2 with fail
  rename_i aK
  refine wp_region_seq ?_
  refine wpSeq_yield (S := fun _ => True) (v := .pointer (some ⟨W.heap.size, 5, none⟩)) (Or.inl ⟨by rfl, fun w' hw' => by go_simp⟩) trivial ?_
  simp only [AP]
  refine wpSeq_yield (S := fun w' => w' = W2) (v := .bool true) (Or.inl ⟨by rfl, fun w' hw' => by (rw [hw']; go_simp)⟩) rfl ?_
  simp only [AP]
  refine wpSeq_nil ?_
  refine aK _ _ ?_
  clear aK
  go_upto_region 3 with fail
  rename_i aK _
  refine wp_region_seq ?_
  refine wpSeq_yield (S := fun _ => True) (yieldsIf_move rfl _ rfl (.int .u64 10) rfl) trivial ?_
  simp only [AP]
  refine wpSeq_yield (S := fun _ => True) (v := .int .u64 11) (Or.inl ⟨by rfl, fun w' hw' => by (go_simp; try decide)⟩) trivial ?_
  simp only [AP]
  refine wpSeq_yield (S := fun _ => True) (yieldsIf_assign rfl _ rfl (.int .u64 11) rfl) trivial ?_
  simp only [AP]
  refine wpSeq_nil ?_
  refine aK _ _ ?_
  clear aK
  go_upto_region 4 with fail
  rename_i aK
  refine wp_region_seq ?_
  refine wpSeq_yield (S := fun _ => True) (v := .pointer (some ⟨W.heap.size, 2, none⟩)) (Or.inl ⟨by rfl, fun w' hw' => by go_simp⟩) trivial ?_
  simp only [AP]
  refine wpSeq_yield (S := fun w' => w' = W2) (v := .int .u64 0) (Or.inl ⟨by rfl, fun w' hw' => by (rw [hw']; go_simp)⟩) rfl ?_
  simp only [AP]
  refine wpSeq_yield (S := fun _ => True) (v := .bool false) (Or.inl ⟨by rfl, fun w' hw' => by (go_simp; try decide)⟩) trivial ?_
  simp only [AP]
  refine wpSeq_nil ?_
  refine aK _ _ ?_
  clear aK
  go_upto_region 6 with fail
  rename_i aK
  refine wp_region_seq ?_
  refine wpSeq_yield (S := fun _ => True) (yieldsIf_move rfl _ rfl (.func (.func 19) #[] #[.pointer (some ⟨y, 0, none⟩), .pointer (some ⟨x, 0, none⟩)]) rfl) trivial ?_
  simp only [AP]
  refine wpSeq_yield (S := fun _ => True) (yieldsIf_move rfl _ rfl (.int .u64 11) rfl) trivial ?_
  simp only [AP]
  refine wpSeq_yield (S := fun _ => True) (v := .pointer (some ⟨W.heap.size, 1, none⟩)) (Or.inl ⟨by rfl, fun w' hw' => by go_simp⟩) trivial ?_
  simp only [AP]
  refine wpSeq_yield (S := fun w' => w' = W2) (v := .int .u64 (i : Int)) (Or.inl ⟨by rfl, fun w' hw' => by (rw [hw']; go_simp)⟩) rfl ?_
  simp only [AP]
  refine wpSeq_wp rfl ?_
  unfold Oper.wp execOp
  go_simp
  have b1 := (Below.refl W2.heap.size W2).alloc (Nat.le_refl _) (.cells #[.int .u64 11, .int .u64 (i : Int)] 22)
  have O := (OwU.new W2.heap.size W2 [11, i] (Nat.le_refl _) (by simp only [List.length_cons, List.length_nil, maxLen]; omega)).su
  replace O : SU (W2.alloc (.cells #[.int .u64 11, .int .u64 (i : Int)] 22)) (.slice (some ⟨W2.heap.size, 0, none⟩) 2 2) [11, i] := O
  replace T := T.trans (Two.of b1)
  replace P := Lib.hid (P.out.below b1)
  replace K := Lib.hid (K.out.below' b1)
  replace hb := Nat.le_trans hb b1.size
  obtain ⟨pg, hpg⟩ : ∃ p, p = some (⟨W2.heap.size, 0, none⟩ : Addr) := ⟨_, rfl⟩
  rw [← hpg] at O ⊢
  clear b1 hpg x1 x2 x5 x6
  generalize World.alloc W2 _ = W2a at *
  refine wpSeq_wp rfl ?_
  unfold Oper.wp execOp
  go_simp
  refine (PP1.out _ _ W2a P.out hb O).mono ?_
  rintro _ w3 ⟨⟨v5, rfl⟩, P5, T5⟩
  replace K := Lib.hid (T5.blk K.out gx gy)
  replace T := T.trans T5
  replace P := Lib.hid P5
  replace hb := Nat.le_trans hb T5.size
  clear P5 T5 PP1
  go_simp
  refine wpSeq_nil ?_
  try refine aK _ _ ?_
  try clear aK
  have x2 : w3.cell? ⟨W.heap.size, 2, none⟩ = some (.int .u64 0) := K.out.cell 2
  have x6 : w3.cell? ⟨W.heap.size, 6, none⟩ = some (.slice p1 nd c1) := K.out.cell 6
  go_upto_region 7 with fail
  rename_i aK
  refine wp_region_seq ?_
  refine wpSeq_yield (S := fun _ => True) (v := .pointer (some ⟨W.heap.size, 2, none⟩)) (Or.inl ⟨by rfl, fun w' hw' => by go_simp⟩) trivial ?_
  simp only [AP]
  refine wpSeq_yield (S := fun w' => w' = w3) (v := .int .u64 0) (Or.inl ⟨by rfl, fun w' hw' => by (rw [hw']; go_simp)⟩) rfl ?_
  simp only [AP]
  refine wpSeq_yield (S := fun _ => True) (v := .bool false) (Or.inl ⟨by rfl, fun w' hw' => by (go_simp; try decide)⟩) trivial ?_
  simp only [AP]
  refine wpSeq_nil ?_
  refine aK _ _ ?_
  clear aK
  go_upto_region 9 with fail
  rename_i aK
  refine wp_region_seq ?_
  refine wpSeq_yield (S := fun _ => True) (yieldsIf_move rfl _ rfl (.func (.func 19) #[] #[.pointer (some ⟨y, 0, none⟩), .pointer (some ⟨x, 0, none⟩)]) rfl) trivial ?_
  simp only [AP]
  refine wpSeq_yield (S := fun _ => True) (v := .pointer (some ⟨W.heap.size, 6, none⟩)) (Or.inl ⟨by rfl, fun w' hw' => by go_simp⟩) trivial ?_
  simp only [AP]
  refine wpSeq_yield (S := fun w' => w' = w3) (v := .slice p1 nd c1) (Or.inl ⟨by rfl, fun w' hw' => by (rw [hw']; go_simp)⟩) rfl ?_
  simp only [AP]
  refine wpSeq_yield (S := fun _ => True) (v := .int .i64 (nd : Int)) (Or.inl ⟨by rfl, fun w' hw' => by go_simp⟩) trivial ?_
  simp only [AP]
  refine wpSeq_yield (S := fun _ => True) (v := .int .u64 (nd : Int)) (Or.inl ⟨by rfl, fun w' hw' => by (go_simp; try rfl)⟩) trivial ?_
  simp only [AP]
  refine wpSeq_wp rfl ?_
  unfold Oper.wp execOp
  go_simp
  have b1 := (Below.refl w3.heap.size w3).alloc (Nat.le_refl _) (.cells #[.int .u64 (nd : Int)] 22)
  have O := (OwU.new w3.heap.size w3 [nd] (Nat.le_refl _) (by simp only [List.length_cons, List.length_nil, maxLen]; omega)).su
  replace O : SU (w3.alloc (.cells #[.int .u64 (nd : Int)] 22)) (.slice (some ⟨w3.heap.size, 0, none⟩) 1 1) [nd] := O
  replace T := T.trans (Two.of b1)
  replace P := Lib.hid (P.out.below b1)
  replace K := Lib.hid (K.out.below' b1)
  replace hb := Nat.le_trans hb b1.size
  obtain ⟨pg, hpg⟩ : ∃ p, p = some (⟨w3.heap.size, 0, none⟩ : Addr) := ⟨_, rfl⟩
  rw [← hpg] at O ⊢
  clear b1 hpg x2 x6
  generalize World.alloc w3 _ = w3a at *
  refine wpSeq_wp rfl ?_
  unfold Oper.wp execOp
  go_simp
  refine (PP3.out _ _ w3a P.out hb O).mono ?_
  rintro _ w6 ⟨⟨v5, rfl⟩, P5, T5⟩
  replace K := Lib.hid (T5.blk K.out gx gy)
  replace T := T.trans T5
  replace P := Lib.hid P5
  replace hb := Nat.le_trans hb T5.size
  clear P5 T5 PP3
  go_simp
  refine wpSeq_nil ?_
  go_wp2
  refine bodyPost_end (results_none rfl _ _ _) rfl ?_
  refine ⟨⟨_, rfl⟩, ?_, T⟩
  have P := P.out
  rw [bindO_append] at P
  exact P
set_option maxHeartbeats 8000000 in
set_option maxRecDepth 100000 in
theorem lays4 (B x y N : Nat) (q : Option (List Nat)) (i n c nd c1 m c2 : Nat) (p1 p2 : Option Addr) (hnd : nd ≤ 2048) (hN : N ≤ 100) (hl : ∀ z ∈ [10, i, nd], z < 18446744073709551616) (W : World) (h : PS B x y N q W) (hB : B ≤ W.heap.size) :
    Calls Try.prog 37 #[.agg #[.int .u64 8, .int .u64 (i : Int), .int .u64 0, .int .u64 (n : Int), .int .u64 (c : Int), .bool false, .slice p1 nd c1, .slice p2 m c2], .func (.func 19) #[] #[.pointer (some ⟨y, 0, none⟩), .pointer (some ⟨x, 0, none⟩)]] W fun e w' => (∃ v, e = .returned v) ∧ PS B x y (N + 3) (bindO q [10, i, nd]) w' ∧ Two x y W w' := by
  have wl : IntKind.u64.wrap (nd : Int) = (nd : Int) := by rw [IntKind.wrap_u64]; omega
  have PP1 := Lib.hid (fun pl cl w h1 h2 h3 => pput_c B x y (N) (q) [10, i] (fun z hz => hl z (by simp only [List.mem_cons, List.not_mem_nil, or_false] at hz ⊢; omega)) (by omega) pl 2 cl (by decide) w h1 h2 h3)
  have PP3 := Lib.hid (fun pl cl w h1 h2 h3 => pput_c B x y (N + 2) (bindO q [10, i]) [nd] (fun z hz => hl z (by simp only [List.mem_cons, List.not_mem_nil, or_false] at hz ⊢; omega)) (by omega) pl 1 cl (by decide) w h1 h2 h3)
  have gx : W.heap.size ≠ x := by
    obtain ⟨_, K, _⟩ := h.out
    have := K.lt
    omega
  have gy : W.heap.size ≠ y := by
    have := h.fault.lt
    omega
  replace h := Lib.hid h
  clear hl hnd hN
  go_enter Try.func37, Try.ntmps37
  go_upto_region 0 with fail
  rename_i aK
  refine wp_region_seq ?_
  refine wpSeq_wp rfl ?_
  unfold Oper.wp execOp
  go_simp
  refine wpSeq_nil ?_
  refine aK _ _ ?_
  clear aK
  have b0 := (Below.refl W.heap.size W).alloc (Nat.le_refl _) (.cells #[.int .u64 8, .int .u64 (i : Int), .int .u64 0, .int .u64 (n : Int), .int .u64 (c : Int), .bool false, .slice p1 nd c1, .slice p2 m c2] 26)
  have K := Lib.hid (Blk.new W 26 #[.int .u64 8, .int .u64 (i : Int), .int .u64 0, .int .u64 (n : Int), .int .u64 (c : Int), .bool false, .slice p1 nd c1, .slice p2 m c2])
  generalize World.alloc W _ = W2 at *
  have P := Lib.hid (h.out.below b0)
  have T := Two.of b0 (x := x) (y := y)
  have hb := Nat.le_trans hB b0.size
  clear b0 h hB
  have x1 : W2.cell? ⟨W.heap.size, 1, none⟩ = some (.int .u64 (i : Int)) := K.out.cell 1
  have x2 : W2.cell? ⟨W.heap.size, 2, none⟩ = some (.int .u64 0) := K.out.cell 2
  have x5 : W2.cell? ⟨W.heap.size, 5, none⟩ = some (.bool false) := K.out.cell 5
  have x6 : W2.cell? ⟨W.heap.size, 6, none⟩ = some (.slice p1 nd c1) := K.out.cell 6
  go_upto_region 1 with fail
  rename_i aK
  refine wp_region_seq ?_
  refine wpSeq_yield (S := fun _ => True) (yieldsIf_assign rfl _ rfl (.int .u64 10) rfl) trivial ?_
  simp only [AP]
  refine wpSeq_nil ?_
  refine aK _ _ ?_
  clear aK
  go_upto_region 2 with fail
  rename_i aK
  refine wp_region_seq ?_
  refine wpSeq_yield (S := fun _ => True) (v := .pointer (some ⟨W.heap.size, 5, none⟩)) (Or.inl ⟨by rfl, fun w' hw' => by go_simp⟩) trivial ?_
  simp only [AP]
  refine wpSeq_yield (S := fun w' => w' = W2) (v := .bool false) (Or.inl ⟨by rfl, fun w' hw' => by (rw [hw']; go_simp)⟩) rfl ?_
  simp only [AP]
  refine wpSeq_nil ?_
  refine aK _ _ ?_
  clear aK
  go_upto_region 4 with fail
  rename_i aK
  refine wp_region_seq ?_
  refine wpSeq_yield (S := fun _ => True) (v := .pointer (some ⟨W.heap.size, 2, none⟩)) (Or.inl ⟨by rfl, fun w' hw' => by go_simp⟩) trivial ?_
  simp only [AP]
  refine wpSeq_yield (S := fun w' => w' = W2) (v := .int .u64 0) (Or.inl ⟨by rfl, fun w' hw' => by (rw [hw']; go_simp)⟩) rfl ?_
  simp only [AP]
  refine wpSeq_yield (S := fun _ => True) (v := .bool false) (Or.inl ⟨by rfl, fun w' hw' => by (go_simp; try decide)⟩) trivial ?_
  simp only [AP]
  refine wpSeq_nil ?_
  refine aK _ _ ?_
  clear aK
  go_upto_region 6 with fail
  rename_i aK
  refine wp_region_seq ?_
  refine wpSeq_yield (S := fun _ => True) (yieldsIf_move rfl _ rfl (.func (.func 19) #[] #[.pointer (some ⟨y, 0, none⟩), .pointer (some ⟨x, 0, none⟩)]) rfl) trivial ?_
  simp only [AP]
  refine wpSeq_yield (S := fun _ => True) (yieldsIf_move rfl _ rfl (.int .u64 10) rfl) trivial ?_
  simp only [AP]
  refine wpSeq_yield (S := fun _ => True) (v := .pointer (some ⟨W.heap.size, 1, none⟩)) (Or.inl ⟨by rfl, fun w' hw' => by go_simp⟩) trivial ?_
  simp only [AP]
  refine wpSeq_yield (S := fun w' => w' = W2) (v := .int .u64 (i : Int)) (Or.inl ⟨by rfl, fun w' hw' => by (rw [hw']; go_simp)⟩) rfl ?_
  simp only [AP]
  refine wpSeq_wp rfl ?_
  unfold Oper.wp execOp
  go_simp
  have b1 := (Below.refl W2.heap.size W2).alloc (Nat.le_refl _) (.cells #[.int .u64 10, .int .u64 (i : Int)] 22)
  have O := (OwU.new W2.heap.size W2 [10, i] (Nat.le_refl _) (by simp only [List.length_cons, List.length_nil, maxLen]; omega)).su
  replace O : SU (W2.alloc (.cells #[.int .u64 10, .int .u64 (i : Int)] 22)) (.slice (some ⟨W2.heap.size, 0, none⟩) 2 2) [10, i] := O
  replace T := T.trans (Two.of b1)
  replace P := Lib.hid (P.out.below b1)
  replace K := Lib.hid (K.out.below' b1)
  replace hb := Nat.le_trans hb b1.size
  obtain ⟨pg, hpg⟩ : ∃ p, p = some (⟨W2.heap.size, 0, none⟩ : Addr) := ⟨_, rfl⟩
  rw [← hpg] at O ⊢
  clear b1 hpg x1 x2 x5 x6
  generalize World.alloc W2 _ = W2a at *
  refine wpSeq_wp rfl ?_
  unfold Oper.wp execOp
  go_simp
  refine (PP1.out _ _ W2a P.out hb O).mono ?_
  rintro _ w3 ⟨⟨v5, rfl⟩, P5, T5⟩
  replace K := Lib.hid (T5.blk K.out gx gy)
  replace T := T.trans T5
  replace P := Lib.hid P5
  replace hb := Nat.le_trans hb T5.size
  clear P5 T5 PP1
  go_simp
  refine wpSeq_nil ?_
  try refine aK _ _ ?_
  try clear aK
  have x2 : w3.cell? ⟨W.heap.size, 2, none⟩ = some (.int .u64 0) := K.out.cell 2
  have x6 : w3.cell? ⟨W.heap.size, 6, none⟩ = some (.slice p1 nd c1) := K.out.cell 6
  go_upto_region 7 with fail
  rename_i aK
  refine wp_region_seq ?_
  refine wpSeq_yield (S := fun _ => True) (v := .pointer (some ⟨W.heap.size, 2, none⟩)) (Or.inl ⟨by rfl, fun w' hw' => by go_simp⟩) trivial ?_
  simp only [AP]
  refine wpSeq_yield (S := fun w' => w' = w3) (v := .int .u64 0) (Or.inl ⟨by rfl, fun w' hw' => by (rw [hw']; go_simp)⟩) rfl ?_
  simp only [AP]
  refine wpSeq_yield (S := fun _ => True) (v := .bool false) (Or.inl ⟨by rfl, fun w' hw' => by (go_simp; try decide)⟩) trivial ?_
  simp only [AP]
  refine wpSeq_nil ?_
  refine aK _ _ ?_
  clear aK
  go_upto_region 9 with fail
  rename_i aK
  refine wp_region_seq ?_
  refine wpSeq_yield (S := fun _ => True) (yieldsIf_move rfl _ rfl (.func (.func 19) #[] #[.pointer (some ⟨y, 0, none⟩), .pointer (some ⟨x, 0, none⟩)]) rfl) trivial ?_
  simp only [AP]
  refine wpSeq_yield (S := fun _ => True) (v := .pointer (some ⟨W.heap.size, 6, none⟩)) (Or.inl ⟨by rfl, fun w' hw' => by go_simp⟩) trivial ?_
  simp only [AP]
  refine wpSeq_yield (S := fun w' => w' = w3) (v := .slice p1 nd c1) (Or.inl ⟨by rfl, fun w' hw' => by (rw [hw']; go_simp)⟩) rfl ?_
  simp only [AP]
  refine wpSeq_yield (S := fun _ => True) (v := .int .i64 (nd : Int)) (Or.inl ⟨by rfl, fun w' hw' => by go_simp⟩) trivial ?_
  simp only [AP]
  refine wpSeq_yield (S := fun _ => True) (v := .int .u64 (nd : Int)) (Or.inl ⟨by rfl, fun w' hw' => by (go_simp; try rfl)⟩) trivial ?_
  simp only [AP]
  refine wpSeq_wp rfl ?_
  unfold Oper.wp execOp
  go_simp
  have b1 := (Below.refl w3.heap.size w3).alloc (Nat.le_refl _) (.cells #[.int .u64 (nd : Int)] 22)
  have O := (OwU.new w3.heap.size w3 [nd] (Nat.le_refl _) (by simp only [List.length_cons, List.length_nil, maxLen]; omega)).su
  replace O : SU (w3.alloc (.cells #[.int .u64 (nd : Int)] 22)) (.slice (some ⟨w3.heap.size, 0, none⟩) 1 1) [nd] := O
  replace T := T.trans (Two.of b1)
  replace P := Lib.hid (P.out.below b1)
  replace K := Lib.hid (K.out.below' b1)
  replace hb := Nat.le_trans hb b1.size
  obtain ⟨pg, hpg⟩ : ∃ p, p = some (⟨w3.heap.size, 0, none⟩ : Addr) := ⟨_, rfl⟩
  rw [← hpg] at O ⊢
  clear b1 hpg x2 x6
  generalize World.alloc w3 _ = w3a at *
  refine wpSeq_wp rfl ?_
  unfold Oper.wp execOp
  go_simp
  refine (PP3.out _ _ w3a P.out hb O).mono ?_
  rintro _ w6 ⟨⟨v5, rfl⟩, P5, T5⟩
  replace K := Lib.hid (T5.blk K.out gx gy)
  replace T := T.trans T5
  replace P := Lib.hid P5
  replace hb := Nat.le_trans hb T5.size
  clear P5 T5 PP3
  go_simp
  refine wpSeq_nil ?_
  go_wp2
  refine bodyPost_end (results_none rfl _ _ _) rfl ?_
  refine ⟨⟨_, rfl⟩, ?_, T⟩
  have P := P.out
  rw [bindO_append] at P
  exact P
end Go.Proofs.Ytdlhclakdllogaa
